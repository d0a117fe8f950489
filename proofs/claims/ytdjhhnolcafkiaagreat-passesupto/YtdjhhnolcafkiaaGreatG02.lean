/- The two boxes of the packet's reader: what is told, and what is gathered. -/
import Derived.Test.YtdjhhnolcafkiaaGreatG01
import Derived.Laws.BitsAllLaws
namespace Go.Proofs.YtdjhhnolcafkiaaGreat
open Go.RowKit
namespace Pk

theorem kept_below {w w' : World} {B : Nat} (h : Below B w w') (b : Nat) (hb : b < B) : (∀ o, w'.cell? ⟨b, o, none⟩ = w.cell? ⟨b, o, none⟩) ∧ ∀ o, w'.frozen? ⟨b, o, none⟩ = w.frozen? ⟨b, o, none⟩ :=
  ⟨fun o => h.cell (p := ⟨b, o, none⟩) hb, fun o => h.frozen (p := ⟨b, o, none⟩) hb⟩

structure St (w W : World) (x0 x1 x2 x3 x4 x5 x6 x7 x8 x9 x10 : Value) : Prop where
  bel : Below w.heap.size w W
  siz : w.heap.size + 1 < W.heap.size
  r0 : W.cell? ⟨w.heap.size, 0, none⟩ = some (.bool false)
  r1 : W.cell? ⟨w.heap.size, 1, none⟩ = some (.int .i64 0)
  r2 : W.cell? ⟨w.heap.size, 2, none⟩ = some (.int .i64 0)
  r3 : W.cell? ⟨w.heap.size, 3, none⟩ = some (.int .i64 0)
  r4 : W.cell? ⟨w.heap.size, 4, none⟩ = some (.int .i64 0)
  r5 : W.cell? ⟨w.heap.size, 5, none⟩ = some (.slice none 0 0)
  r6 : W.cell? ⟨w.heap.size, 6, none⟩ = some (.bool false)
  r7 : W.cell? ⟨w.heap.size, 7, none⟩ = some (.int .i64 0)
  r8 : W.cell? ⟨w.heap.size, 8, none⟩ = some (.string ⟨#[]⟩)
  r9 : W.cell? ⟨w.heap.size, 9, none⟩ = some (.string ⟨#[]⟩)
  r10 : W.cell? ⟨w.heap.size, 10, none⟩ = some (.int .i64 0)
  y0 : W.cell? ⟨w.heap.size + 1, 0, none⟩ = some x0
  y1 : W.cell? ⟨w.heap.size + 1, 1, none⟩ = some x1
  y2 : W.cell? ⟨w.heap.size + 1, 2, none⟩ = some x2
  y3 : W.cell? ⟨w.heap.size + 1, 3, none⟩ = some x3
  y4 : W.cell? ⟨w.heap.size + 1, 4, none⟩ = some x4
  y5 : W.cell? ⟨w.heap.size + 1, 5, none⟩ = some x5
  y6 : W.cell? ⟨w.heap.size + 1, 6, none⟩ = some x6
  y7 : W.cell? ⟨w.heap.size + 1, 7, none⟩ = some x7
  y8 : W.cell? ⟨w.heap.size + 1, 8, none⟩ = some x8
  y9 : W.cell? ⟨w.heap.size + 1, 9, none⟩ = some x9
  y10 : W.cell? ⟨w.heap.size + 1, 10, none⟩ = some x10
  fr : ∀ o, W.frozen? ⟨w.heap.size, o, none⟩ = false
  fy : ∀ o, W.frozen? ⟨w.heap.size + 1, o, none⟩ = false

theorem St.below {w W W' : World} {x0 x1 x2 x3 x4 x5 x6 x7 x8 x9 x10 : Value} (h : St w W x0 x1 x2 x3 x4 x5 x6 x7 x8 x9 x10) (hb : Below W.heap.size W W') : St w W' x0 x1 x2 x3 x4 x5 x6 x7 x8 x9 x10 := by
  have hs := h.siz
  obtain ⟨a1, a2⟩ := kept_below hb w.heap.size (by omega)
  obtain ⟨b1, b2⟩ := kept_below hb (w.heap.size + 1) hs
  exact ⟨h.bel.trans (hb.mono (by omega)), by have := hb.size; omega, (a1 0).trans h.r0, (a1 1).trans h.r1, (a1 2).trans h.r2, (a1 3).trans h.r3, (a1 4).trans h.r4, (a1 5).trans h.r5, (a1 6).trans h.r6, (a1 7).trans h.r7, (a1 8).trans h.r8, (a1 9).trans h.r9, (a1 10).trans h.r10, (b1 0).trans h.y0, (b1 1).trans h.y1, (b1 2).trans h.y2, (b1 3).trans h.y3, (b1 4).trans h.y4, (b1 5).trans h.y5, (b1 6).trans h.y6, (b1 7).trans h.y7, (b1 8).trans h.y8, (b1 9).trans h.y9, (b1 10).trans h.y10, fun o => (a2 o).trans (h.fr o), fun o => (b2 o).trans (h.fy o)⟩

theorem St.set0 {w W : World} {x0 x1 x2 x3 x4 x5 x6 x7 x8 x9 x10 : Value} (h : St w W x0 x1 x2 x3 x4 x5 x6 x7 x8 x9 x10) (v : Value) : St w (W.setCell ⟨w.heap.size + 1, 0, none⟩ v) v x1 x2 x3 x4 x5 x6 x7 x8 x9 x10 :=
  ⟨h.bel.setCell (by simp) _, by have := h.siz; simpa using this, (World.cell?_setCell_other _ ⟨w.heap.size + 1, 0, none⟩ ⟨w.heap.size, 0, none⟩ _ (by simp)).trans h.r0, (World.cell?_setCell_other _ ⟨w.heap.size + 1, 0, none⟩ ⟨w.heap.size, 1, none⟩ _ (by simp)).trans h.r1, (World.cell?_setCell_other _ ⟨w.heap.size + 1, 0, none⟩ ⟨w.heap.size, 2, none⟩ _ (by simp)).trans h.r2, (World.cell?_setCell_other _ ⟨w.heap.size + 1, 0, none⟩ ⟨w.heap.size, 3, none⟩ _ (by simp)).trans h.r3, (World.cell?_setCell_other _ ⟨w.heap.size + 1, 0, none⟩ ⟨w.heap.size, 4, none⟩ _ (by simp)).trans h.r4, (World.cell?_setCell_other _ ⟨w.heap.size + 1, 0, none⟩ ⟨w.heap.size, 5, none⟩ _ (by simp)).trans h.r5, (World.cell?_setCell_other _ ⟨w.heap.size + 1, 0, none⟩ ⟨w.heap.size, 6, none⟩ _ (by simp)).trans h.r6, (World.cell?_setCell_other _ ⟨w.heap.size + 1, 0, none⟩ ⟨w.heap.size, 7, none⟩ _ (by simp)).trans h.r7, (World.cell?_setCell_other _ ⟨w.heap.size + 1, 0, none⟩ ⟨w.heap.size, 8, none⟩ _ (by simp)).trans h.r8, (World.cell?_setCell_other _ ⟨w.heap.size + 1, 0, none⟩ ⟨w.heap.size, 9, none⟩ _ (by simp)).trans h.r9, (World.cell?_setCell_other _ ⟨w.heap.size + 1, 0, none⟩ ⟨w.heap.size, 10, none⟩ _ (by simp)).trans h.r10, World.cell?_setCell_same _ _ _ h.y0, (World.cell?_setCell_other _ ⟨w.heap.size + 1, 0, none⟩ ⟨w.heap.size + 1, 1, none⟩ _ (by simp)).trans h.y1, (World.cell?_setCell_other _ ⟨w.heap.size + 1, 0, none⟩ ⟨w.heap.size + 1, 2, none⟩ _ (by simp)).trans h.y2, (World.cell?_setCell_other _ ⟨w.heap.size + 1, 0, none⟩ ⟨w.heap.size + 1, 3, none⟩ _ (by simp)).trans h.y3, (World.cell?_setCell_other _ ⟨w.heap.size + 1, 0, none⟩ ⟨w.heap.size + 1, 4, none⟩ _ (by simp)).trans h.y4, (World.cell?_setCell_other _ ⟨w.heap.size + 1, 0, none⟩ ⟨w.heap.size + 1, 5, none⟩ _ (by simp)).trans h.y5, (World.cell?_setCell_other _ ⟨w.heap.size + 1, 0, none⟩ ⟨w.heap.size + 1, 6, none⟩ _ (by simp)).trans h.y6, (World.cell?_setCell_other _ ⟨w.heap.size + 1, 0, none⟩ ⟨w.heap.size + 1, 7, none⟩ _ (by simp)).trans h.y7, (World.cell?_setCell_other _ ⟨w.heap.size + 1, 0, none⟩ ⟨w.heap.size + 1, 8, none⟩ _ (by simp)).trans h.y8, (World.cell?_setCell_other _ ⟨w.heap.size + 1, 0, none⟩ ⟨w.heap.size + 1, 9, none⟩ _ (by simp)).trans h.y9, (World.cell?_setCell_other _ ⟨w.heap.size + 1, 0, none⟩ ⟨w.heap.size + 1, 10, none⟩ _ (by simp)).trans h.y10, fun o => by rw [World.frozen?_setCell]; exact h.fr o, fun o => by rw [World.frozen?_setCell]; exact h.fy o⟩
theorem St.set1 {w W : World} {x0 x1 x2 x3 x4 x5 x6 x7 x8 x9 x10 : Value} (h : St w W x0 x1 x2 x3 x4 x5 x6 x7 x8 x9 x10) (v : Value) : St w (W.setCell ⟨w.heap.size + 1, 1, none⟩ v) x0 v x2 x3 x4 x5 x6 x7 x8 x9 x10 :=
  ⟨h.bel.setCell (by simp) _, by have := h.siz; simpa using this, (World.cell?_setCell_other _ ⟨w.heap.size + 1, 1, none⟩ ⟨w.heap.size, 0, none⟩ _ (by simp)).trans h.r0, (World.cell?_setCell_other _ ⟨w.heap.size + 1, 1, none⟩ ⟨w.heap.size, 1, none⟩ _ (by simp)).trans h.r1, (World.cell?_setCell_other _ ⟨w.heap.size + 1, 1, none⟩ ⟨w.heap.size, 2, none⟩ _ (by simp)).trans h.r2, (World.cell?_setCell_other _ ⟨w.heap.size + 1, 1, none⟩ ⟨w.heap.size, 3, none⟩ _ (by simp)).trans h.r3, (World.cell?_setCell_other _ ⟨w.heap.size + 1, 1, none⟩ ⟨w.heap.size, 4, none⟩ _ (by simp)).trans h.r4, (World.cell?_setCell_other _ ⟨w.heap.size + 1, 1, none⟩ ⟨w.heap.size, 5, none⟩ _ (by simp)).trans h.r5, (World.cell?_setCell_other _ ⟨w.heap.size + 1, 1, none⟩ ⟨w.heap.size, 6, none⟩ _ (by simp)).trans h.r6, (World.cell?_setCell_other _ ⟨w.heap.size + 1, 1, none⟩ ⟨w.heap.size, 7, none⟩ _ (by simp)).trans h.r7, (World.cell?_setCell_other _ ⟨w.heap.size + 1, 1, none⟩ ⟨w.heap.size, 8, none⟩ _ (by simp)).trans h.r8, (World.cell?_setCell_other _ ⟨w.heap.size + 1, 1, none⟩ ⟨w.heap.size, 9, none⟩ _ (by simp)).trans h.r9, (World.cell?_setCell_other _ ⟨w.heap.size + 1, 1, none⟩ ⟨w.heap.size, 10, none⟩ _ (by simp)).trans h.r10, (World.cell?_setCell_other _ ⟨w.heap.size + 1, 1, none⟩ ⟨w.heap.size + 1, 0, none⟩ _ (by simp)).trans h.y0, World.cell?_setCell_same _ _ _ h.y1, (World.cell?_setCell_other _ ⟨w.heap.size + 1, 1, none⟩ ⟨w.heap.size + 1, 2, none⟩ _ (by simp)).trans h.y2, (World.cell?_setCell_other _ ⟨w.heap.size + 1, 1, none⟩ ⟨w.heap.size + 1, 3, none⟩ _ (by simp)).trans h.y3, (World.cell?_setCell_other _ ⟨w.heap.size + 1, 1, none⟩ ⟨w.heap.size + 1, 4, none⟩ _ (by simp)).trans h.y4, (World.cell?_setCell_other _ ⟨w.heap.size + 1, 1, none⟩ ⟨w.heap.size + 1, 5, none⟩ _ (by simp)).trans h.y5, (World.cell?_setCell_other _ ⟨w.heap.size + 1, 1, none⟩ ⟨w.heap.size + 1, 6, none⟩ _ (by simp)).trans h.y6, (World.cell?_setCell_other _ ⟨w.heap.size + 1, 1, none⟩ ⟨w.heap.size + 1, 7, none⟩ _ (by simp)).trans h.y7, (World.cell?_setCell_other _ ⟨w.heap.size + 1, 1, none⟩ ⟨w.heap.size + 1, 8, none⟩ _ (by simp)).trans h.y8, (World.cell?_setCell_other _ ⟨w.heap.size + 1, 1, none⟩ ⟨w.heap.size + 1, 9, none⟩ _ (by simp)).trans h.y9, (World.cell?_setCell_other _ ⟨w.heap.size + 1, 1, none⟩ ⟨w.heap.size + 1, 10, none⟩ _ (by simp)).trans h.y10, fun o => by rw [World.frozen?_setCell]; exact h.fr o, fun o => by rw [World.frozen?_setCell]; exact h.fy o⟩
theorem St.set2 {w W : World} {x0 x1 x2 x3 x4 x5 x6 x7 x8 x9 x10 : Value} (h : St w W x0 x1 x2 x3 x4 x5 x6 x7 x8 x9 x10) (v : Value) : St w (W.setCell ⟨w.heap.size + 1, 2, none⟩ v) x0 x1 v x3 x4 x5 x6 x7 x8 x9 x10 :=
  ⟨h.bel.setCell (by simp) _, by have := h.siz; simpa using this, (World.cell?_setCell_other _ ⟨w.heap.size + 1, 2, none⟩ ⟨w.heap.size, 0, none⟩ _ (by simp)).trans h.r0, (World.cell?_setCell_other _ ⟨w.heap.size + 1, 2, none⟩ ⟨w.heap.size, 1, none⟩ _ (by simp)).trans h.r1, (World.cell?_setCell_other _ ⟨w.heap.size + 1, 2, none⟩ ⟨w.heap.size, 2, none⟩ _ (by simp)).trans h.r2, (World.cell?_setCell_other _ ⟨w.heap.size + 1, 2, none⟩ ⟨w.heap.size, 3, none⟩ _ (by simp)).trans h.r3, (World.cell?_setCell_other _ ⟨w.heap.size + 1, 2, none⟩ ⟨w.heap.size, 4, none⟩ _ (by simp)).trans h.r4, (World.cell?_setCell_other _ ⟨w.heap.size + 1, 2, none⟩ ⟨w.heap.size, 5, none⟩ _ (by simp)).trans h.r5, (World.cell?_setCell_other _ ⟨w.heap.size + 1, 2, none⟩ ⟨w.heap.size, 6, none⟩ _ (by simp)).trans h.r6, (World.cell?_setCell_other _ ⟨w.heap.size + 1, 2, none⟩ ⟨w.heap.size, 7, none⟩ _ (by simp)).trans h.r7, (World.cell?_setCell_other _ ⟨w.heap.size + 1, 2, none⟩ ⟨w.heap.size, 8, none⟩ _ (by simp)).trans h.r8, (World.cell?_setCell_other _ ⟨w.heap.size + 1, 2, none⟩ ⟨w.heap.size, 9, none⟩ _ (by simp)).trans h.r9, (World.cell?_setCell_other _ ⟨w.heap.size + 1, 2, none⟩ ⟨w.heap.size, 10, none⟩ _ (by simp)).trans h.r10, (World.cell?_setCell_other _ ⟨w.heap.size + 1, 2, none⟩ ⟨w.heap.size + 1, 0, none⟩ _ (by simp)).trans h.y0, (World.cell?_setCell_other _ ⟨w.heap.size + 1, 2, none⟩ ⟨w.heap.size + 1, 1, none⟩ _ (by simp)).trans h.y1, World.cell?_setCell_same _ _ _ h.y2, (World.cell?_setCell_other _ ⟨w.heap.size + 1, 2, none⟩ ⟨w.heap.size + 1, 3, none⟩ _ (by simp)).trans h.y3, (World.cell?_setCell_other _ ⟨w.heap.size + 1, 2, none⟩ ⟨w.heap.size + 1, 4, none⟩ _ (by simp)).trans h.y4, (World.cell?_setCell_other _ ⟨w.heap.size + 1, 2, none⟩ ⟨w.heap.size + 1, 5, none⟩ _ (by simp)).trans h.y5, (World.cell?_setCell_other _ ⟨w.heap.size + 1, 2, none⟩ ⟨w.heap.size + 1, 6, none⟩ _ (by simp)).trans h.y6, (World.cell?_setCell_other _ ⟨w.heap.size + 1, 2, none⟩ ⟨w.heap.size + 1, 7, none⟩ _ (by simp)).trans h.y7, (World.cell?_setCell_other _ ⟨w.heap.size + 1, 2, none⟩ ⟨w.heap.size + 1, 8, none⟩ _ (by simp)).trans h.y8, (World.cell?_setCell_other _ ⟨w.heap.size + 1, 2, none⟩ ⟨w.heap.size + 1, 9, none⟩ _ (by simp)).trans h.y9, (World.cell?_setCell_other _ ⟨w.heap.size + 1, 2, none⟩ ⟨w.heap.size + 1, 10, none⟩ _ (by simp)).trans h.y10, fun o => by rw [World.frozen?_setCell]; exact h.fr o, fun o => by rw [World.frozen?_setCell]; exact h.fy o⟩
theorem St.set3 {w W : World} {x0 x1 x2 x3 x4 x5 x6 x7 x8 x9 x10 : Value} (h : St w W x0 x1 x2 x3 x4 x5 x6 x7 x8 x9 x10) (v : Value) : St w (W.setCell ⟨w.heap.size + 1, 3, none⟩ v) x0 x1 x2 v x4 x5 x6 x7 x8 x9 x10 :=
  ⟨h.bel.setCell (by simp) _, by have := h.siz; simpa using this, (World.cell?_setCell_other _ ⟨w.heap.size + 1, 3, none⟩ ⟨w.heap.size, 0, none⟩ _ (by simp)).trans h.r0, (World.cell?_setCell_other _ ⟨w.heap.size + 1, 3, none⟩ ⟨w.heap.size, 1, none⟩ _ (by simp)).trans h.r1, (World.cell?_setCell_other _ ⟨w.heap.size + 1, 3, none⟩ ⟨w.heap.size, 2, none⟩ _ (by simp)).trans h.r2, (World.cell?_setCell_other _ ⟨w.heap.size + 1, 3, none⟩ ⟨w.heap.size, 3, none⟩ _ (by simp)).trans h.r3, (World.cell?_setCell_other _ ⟨w.heap.size + 1, 3, none⟩ ⟨w.heap.size, 4, none⟩ _ (by simp)).trans h.r4, (World.cell?_setCell_other _ ⟨w.heap.size + 1, 3, none⟩ ⟨w.heap.size, 5, none⟩ _ (by simp)).trans h.r5, (World.cell?_setCell_other _ ⟨w.heap.size + 1, 3, none⟩ ⟨w.heap.size, 6, none⟩ _ (by simp)).trans h.r6, (World.cell?_setCell_other _ ⟨w.heap.size + 1, 3, none⟩ ⟨w.heap.size, 7, none⟩ _ (by simp)).trans h.r7, (World.cell?_setCell_other _ ⟨w.heap.size + 1, 3, none⟩ ⟨w.heap.size, 8, none⟩ _ (by simp)).trans h.r8, (World.cell?_setCell_other _ ⟨w.heap.size + 1, 3, none⟩ ⟨w.heap.size, 9, none⟩ _ (by simp)).trans h.r9, (World.cell?_setCell_other _ ⟨w.heap.size + 1, 3, none⟩ ⟨w.heap.size, 10, none⟩ _ (by simp)).trans h.r10, (World.cell?_setCell_other _ ⟨w.heap.size + 1, 3, none⟩ ⟨w.heap.size + 1, 0, none⟩ _ (by simp)).trans h.y0, (World.cell?_setCell_other _ ⟨w.heap.size + 1, 3, none⟩ ⟨w.heap.size + 1, 1, none⟩ _ (by simp)).trans h.y1, (World.cell?_setCell_other _ ⟨w.heap.size + 1, 3, none⟩ ⟨w.heap.size + 1, 2, none⟩ _ (by simp)).trans h.y2, World.cell?_setCell_same _ _ _ h.y3, (World.cell?_setCell_other _ ⟨w.heap.size + 1, 3, none⟩ ⟨w.heap.size + 1, 4, none⟩ _ (by simp)).trans h.y4, (World.cell?_setCell_other _ ⟨w.heap.size + 1, 3, none⟩ ⟨w.heap.size + 1, 5, none⟩ _ (by simp)).trans h.y5, (World.cell?_setCell_other _ ⟨w.heap.size + 1, 3, none⟩ ⟨w.heap.size + 1, 6, none⟩ _ (by simp)).trans h.y6, (World.cell?_setCell_other _ ⟨w.heap.size + 1, 3, none⟩ ⟨w.heap.size + 1, 7, none⟩ _ (by simp)).trans h.y7, (World.cell?_setCell_other _ ⟨w.heap.size + 1, 3, none⟩ ⟨w.heap.size + 1, 8, none⟩ _ (by simp)).trans h.y8, (World.cell?_setCell_other _ ⟨w.heap.size + 1, 3, none⟩ ⟨w.heap.size + 1, 9, none⟩ _ (by simp)).trans h.y9, (World.cell?_setCell_other _ ⟨w.heap.size + 1, 3, none⟩ ⟨w.heap.size + 1, 10, none⟩ _ (by simp)).trans h.y10, fun o => by rw [World.frozen?_setCell]; exact h.fr o, fun o => by rw [World.frozen?_setCell]; exact h.fy o⟩
theorem St.set4 {w W : World} {x0 x1 x2 x3 x4 x5 x6 x7 x8 x9 x10 : Value} (h : St w W x0 x1 x2 x3 x4 x5 x6 x7 x8 x9 x10) (v : Value) : St w (W.setCell ⟨w.heap.size + 1, 4, none⟩ v) x0 x1 x2 x3 v x5 x6 x7 x8 x9 x10 :=
  ⟨h.bel.setCell (by simp) _, by have := h.siz; simpa using this, (World.cell?_setCell_other _ ⟨w.heap.size + 1, 4, none⟩ ⟨w.heap.size, 0, none⟩ _ (by simp)).trans h.r0, (World.cell?_setCell_other _ ⟨w.heap.size + 1, 4, none⟩ ⟨w.heap.size, 1, none⟩ _ (by simp)).trans h.r1, (World.cell?_setCell_other _ ⟨w.heap.size + 1, 4, none⟩ ⟨w.heap.size, 2, none⟩ _ (by simp)).trans h.r2, (World.cell?_setCell_other _ ⟨w.heap.size + 1, 4, none⟩ ⟨w.heap.size, 3, none⟩ _ (by simp)).trans h.r3, (World.cell?_setCell_other _ ⟨w.heap.size + 1, 4, none⟩ ⟨w.heap.size, 4, none⟩ _ (by simp)).trans h.r4, (World.cell?_setCell_other _ ⟨w.heap.size + 1, 4, none⟩ ⟨w.heap.size, 5, none⟩ _ (by simp)).trans h.r5, (World.cell?_setCell_other _ ⟨w.heap.size + 1, 4, none⟩ ⟨w.heap.size, 6, none⟩ _ (by simp)).trans h.r6, (World.cell?_setCell_other _ ⟨w.heap.size + 1, 4, none⟩ ⟨w.heap.size, 7, none⟩ _ (by simp)).trans h.r7, (World.cell?_setCell_other _ ⟨w.heap.size + 1, 4, none⟩ ⟨w.heap.size, 8, none⟩ _ (by simp)).trans h.r8, (World.cell?_setCell_other _ ⟨w.heap.size + 1, 4, none⟩ ⟨w.heap.size, 9, none⟩ _ (by simp)).trans h.r9, (World.cell?_setCell_other _ ⟨w.heap.size + 1, 4, none⟩ ⟨w.heap.size, 10, none⟩ _ (by simp)).trans h.r10, (World.cell?_setCell_other _ ⟨w.heap.size + 1, 4, none⟩ ⟨w.heap.size + 1, 0, none⟩ _ (by simp)).trans h.y0, (World.cell?_setCell_other _ ⟨w.heap.size + 1, 4, none⟩ ⟨w.heap.size + 1, 1, none⟩ _ (by simp)).trans h.y1, (World.cell?_setCell_other _ ⟨w.heap.size + 1, 4, none⟩ ⟨w.heap.size + 1, 2, none⟩ _ (by simp)).trans h.y2, (World.cell?_setCell_other _ ⟨w.heap.size + 1, 4, none⟩ ⟨w.heap.size + 1, 3, none⟩ _ (by simp)).trans h.y3, World.cell?_setCell_same _ _ _ h.y4, (World.cell?_setCell_other _ ⟨w.heap.size + 1, 4, none⟩ ⟨w.heap.size + 1, 5, none⟩ _ (by simp)).trans h.y5, (World.cell?_setCell_other _ ⟨w.heap.size + 1, 4, none⟩ ⟨w.heap.size + 1, 6, none⟩ _ (by simp)).trans h.y6, (World.cell?_setCell_other _ ⟨w.heap.size + 1, 4, none⟩ ⟨w.heap.size + 1, 7, none⟩ _ (by simp)).trans h.y7, (World.cell?_setCell_other _ ⟨w.heap.size + 1, 4, none⟩ ⟨w.heap.size + 1, 8, none⟩ _ (by simp)).trans h.y8, (World.cell?_setCell_other _ ⟨w.heap.size + 1, 4, none⟩ ⟨w.heap.size + 1, 9, none⟩ _ (by simp)).trans h.y9, (World.cell?_setCell_other _ ⟨w.heap.size + 1, 4, none⟩ ⟨w.heap.size + 1, 10, none⟩ _ (by simp)).trans h.y10, fun o => by rw [World.frozen?_setCell]; exact h.fr o, fun o => by rw [World.frozen?_setCell]; exact h.fy o⟩
theorem St.set5 {w W : World} {x0 x1 x2 x3 x4 x5 x6 x7 x8 x9 x10 : Value} (h : St w W x0 x1 x2 x3 x4 x5 x6 x7 x8 x9 x10) (v : Value) : St w (W.setCell ⟨w.heap.size + 1, 5, none⟩ v) x0 x1 x2 x3 x4 v x6 x7 x8 x9 x10 :=
  ⟨h.bel.setCell (by simp) _, by have := h.siz; simpa using this, (World.cell?_setCell_other _ ⟨w.heap.size + 1, 5, none⟩ ⟨w.heap.size, 0, none⟩ _ (by simp)).trans h.r0, (World.cell?_setCell_other _ ⟨w.heap.size + 1, 5, none⟩ ⟨w.heap.size, 1, none⟩ _ (by simp)).trans h.r1, (World.cell?_setCell_other _ ⟨w.heap.size + 1, 5, none⟩ ⟨w.heap.size, 2, none⟩ _ (by simp)).trans h.r2, (World.cell?_setCell_other _ ⟨w.heap.size + 1, 5, none⟩ ⟨w.heap.size, 3, none⟩ _ (by simp)).trans h.r3, (World.cell?_setCell_other _ ⟨w.heap.size + 1, 5, none⟩ ⟨w.heap.size, 4, none⟩ _ (by simp)).trans h.r4, (World.cell?_setCell_other _ ⟨w.heap.size + 1, 5, none⟩ ⟨w.heap.size, 5, none⟩ _ (by simp)).trans h.r5, (World.cell?_setCell_other _ ⟨w.heap.size + 1, 5, none⟩ ⟨w.heap.size, 6, none⟩ _ (by simp)).trans h.r6, (World.cell?_setCell_other _ ⟨w.heap.size + 1, 5, none⟩ ⟨w.heap.size, 7, none⟩ _ (by simp)).trans h.r7, (World.cell?_setCell_other _ ⟨w.heap.size + 1, 5, none⟩ ⟨w.heap.size, 8, none⟩ _ (by simp)).trans h.r8, (World.cell?_setCell_other _ ⟨w.heap.size + 1, 5, none⟩ ⟨w.heap.size, 9, none⟩ _ (by simp)).trans h.r9, (World.cell?_setCell_other _ ⟨w.heap.size + 1, 5, none⟩ ⟨w.heap.size, 10, none⟩ _ (by simp)).trans h.r10, (World.cell?_setCell_other _ ⟨w.heap.size + 1, 5, none⟩ ⟨w.heap.size + 1, 0, none⟩ _ (by simp)).trans h.y0, (World.cell?_setCell_other _ ⟨w.heap.size + 1, 5, none⟩ ⟨w.heap.size + 1, 1, none⟩ _ (by simp)).trans h.y1, (World.cell?_setCell_other _ ⟨w.heap.size + 1, 5, none⟩ ⟨w.heap.size + 1, 2, none⟩ _ (by simp)).trans h.y2, (World.cell?_setCell_other _ ⟨w.heap.size + 1, 5, none⟩ ⟨w.heap.size + 1, 3, none⟩ _ (by simp)).trans h.y3, (World.cell?_setCell_other _ ⟨w.heap.size + 1, 5, none⟩ ⟨w.heap.size + 1, 4, none⟩ _ (by simp)).trans h.y4, World.cell?_setCell_same _ _ _ h.y5, (World.cell?_setCell_other _ ⟨w.heap.size + 1, 5, none⟩ ⟨w.heap.size + 1, 6, none⟩ _ (by simp)).trans h.y6, (World.cell?_setCell_other _ ⟨w.heap.size + 1, 5, none⟩ ⟨w.heap.size + 1, 7, none⟩ _ (by simp)).trans h.y7, (World.cell?_setCell_other _ ⟨w.heap.size + 1, 5, none⟩ ⟨w.heap.size + 1, 8, none⟩ _ (by simp)).trans h.y8, (World.cell?_setCell_other _ ⟨w.heap.size + 1, 5, none⟩ ⟨w.heap.size + 1, 9, none⟩ _ (by simp)).trans h.y9, (World.cell?_setCell_other _ ⟨w.heap.size + 1, 5, none⟩ ⟨w.heap.size + 1, 10, none⟩ _ (by simp)).trans h.y10, fun o => by rw [World.frozen?_setCell]; exact h.fr o, fun o => by rw [World.frozen?_setCell]; exact h.fy o⟩
theorem St.set6 {w W : World} {x0 x1 x2 x3 x4 x5 x6 x7 x8 x9 x10 : Value} (h : St w W x0 x1 x2 x3 x4 x5 x6 x7 x8 x9 x10) (v : Value) : St w (W.setCell ⟨w.heap.size + 1, 6, none⟩ v) x0 x1 x2 x3 x4 x5 v x7 x8 x9 x10 :=
  ⟨h.bel.setCell (by simp) _, by have := h.siz; simpa using this, (World.cell?_setCell_other _ ⟨w.heap.size + 1, 6, none⟩ ⟨w.heap.size, 0, none⟩ _ (by simp)).trans h.r0, (World.cell?_setCell_other _ ⟨w.heap.size + 1, 6, none⟩ ⟨w.heap.size, 1, none⟩ _ (by simp)).trans h.r1, (World.cell?_setCell_other _ ⟨w.heap.size + 1, 6, none⟩ ⟨w.heap.size, 2, none⟩ _ (by simp)).trans h.r2, (World.cell?_setCell_other _ ⟨w.heap.size + 1, 6, none⟩ ⟨w.heap.size, 3, none⟩ _ (by simp)).trans h.r3, (World.cell?_setCell_other _ ⟨w.heap.size + 1, 6, none⟩ ⟨w.heap.size, 4, none⟩ _ (by simp)).trans h.r4, (World.cell?_setCell_other _ ⟨w.heap.size + 1, 6, none⟩ ⟨w.heap.size, 5, none⟩ _ (by simp)).trans h.r5, (World.cell?_setCell_other _ ⟨w.heap.size + 1, 6, none⟩ ⟨w.heap.size, 6, none⟩ _ (by simp)).trans h.r6, (World.cell?_setCell_other _ ⟨w.heap.size + 1, 6, none⟩ ⟨w.heap.size, 7, none⟩ _ (by simp)).trans h.r7, (World.cell?_setCell_other _ ⟨w.heap.size + 1, 6, none⟩ ⟨w.heap.size, 8, none⟩ _ (by simp)).trans h.r8, (World.cell?_setCell_other _ ⟨w.heap.size + 1, 6, none⟩ ⟨w.heap.size, 9, none⟩ _ (by simp)).trans h.r9, (World.cell?_setCell_other _ ⟨w.heap.size + 1, 6, none⟩ ⟨w.heap.size, 10, none⟩ _ (by simp)).trans h.r10, (World.cell?_setCell_other _ ⟨w.heap.size + 1, 6, none⟩ ⟨w.heap.size + 1, 0, none⟩ _ (by simp)).trans h.y0, (World.cell?_setCell_other _ ⟨w.heap.size + 1, 6, none⟩ ⟨w.heap.size + 1, 1, none⟩ _ (by simp)).trans h.y1, (World.cell?_setCell_other _ ⟨w.heap.size + 1, 6, none⟩ ⟨w.heap.size + 1, 2, none⟩ _ (by simp)).trans h.y2, (World.cell?_setCell_other _ ⟨w.heap.size + 1, 6, none⟩ ⟨w.heap.size + 1, 3, none⟩ _ (by simp)).trans h.y3, (World.cell?_setCell_other _ ⟨w.heap.size + 1, 6, none⟩ ⟨w.heap.size + 1, 4, none⟩ _ (by simp)).trans h.y4, (World.cell?_setCell_other _ ⟨w.heap.size + 1, 6, none⟩ ⟨w.heap.size + 1, 5, none⟩ _ (by simp)).trans h.y5, World.cell?_setCell_same _ _ _ h.y6, (World.cell?_setCell_other _ ⟨w.heap.size + 1, 6, none⟩ ⟨w.heap.size + 1, 7, none⟩ _ (by simp)).trans h.y7, (World.cell?_setCell_other _ ⟨w.heap.size + 1, 6, none⟩ ⟨w.heap.size + 1, 8, none⟩ _ (by simp)).trans h.y8, (World.cell?_setCell_other _ ⟨w.heap.size + 1, 6, none⟩ ⟨w.heap.size + 1, 9, none⟩ _ (by simp)).trans h.y9, (World.cell?_setCell_other _ ⟨w.heap.size + 1, 6, none⟩ ⟨w.heap.size + 1, 10, none⟩ _ (by simp)).trans h.y10, fun o => by rw [World.frozen?_setCell]; exact h.fr o, fun o => by rw [World.frozen?_setCell]; exact h.fy o⟩
theorem St.set7 {w W : World} {x0 x1 x2 x3 x4 x5 x6 x7 x8 x9 x10 : Value} (h : St w W x0 x1 x2 x3 x4 x5 x6 x7 x8 x9 x10) (v : Value) : St w (W.setCell ⟨w.heap.size + 1, 7, none⟩ v) x0 x1 x2 x3 x4 x5 x6 v x8 x9 x10 :=
  ⟨h.bel.setCell (by simp) _, by have := h.siz; simpa using this, (World.cell?_setCell_other _ ⟨w.heap.size + 1, 7, none⟩ ⟨w.heap.size, 0, none⟩ _ (by simp)).trans h.r0, (World.cell?_setCell_other _ ⟨w.heap.size + 1, 7, none⟩ ⟨w.heap.size, 1, none⟩ _ (by simp)).trans h.r1, (World.cell?_setCell_other _ ⟨w.heap.size + 1, 7, none⟩ ⟨w.heap.size, 2, none⟩ _ (by simp)).trans h.r2, (World.cell?_setCell_other _ ⟨w.heap.size + 1, 7, none⟩ ⟨w.heap.size, 3, none⟩ _ (by simp)).trans h.r3, (World.cell?_setCell_other _ ⟨w.heap.size + 1, 7, none⟩ ⟨w.heap.size, 4, none⟩ _ (by simp)).trans h.r4, (World.cell?_setCell_other _ ⟨w.heap.size + 1, 7, none⟩ ⟨w.heap.size, 5, none⟩ _ (by simp)).trans h.r5, (World.cell?_setCell_other _ ⟨w.heap.size + 1, 7, none⟩ ⟨w.heap.size, 6, none⟩ _ (by simp)).trans h.r6, (World.cell?_setCell_other _ ⟨w.heap.size + 1, 7, none⟩ ⟨w.heap.size, 7, none⟩ _ (by simp)).trans h.r7, (World.cell?_setCell_other _ ⟨w.heap.size + 1, 7, none⟩ ⟨w.heap.size, 8, none⟩ _ (by simp)).trans h.r8, (World.cell?_setCell_other _ ⟨w.heap.size + 1, 7, none⟩ ⟨w.heap.size, 9, none⟩ _ (by simp)).trans h.r9, (World.cell?_setCell_other _ ⟨w.heap.size + 1, 7, none⟩ ⟨w.heap.size, 10, none⟩ _ (by simp)).trans h.r10, (World.cell?_setCell_other _ ⟨w.heap.size + 1, 7, none⟩ ⟨w.heap.size + 1, 0, none⟩ _ (by simp)).trans h.y0, (World.cell?_setCell_other _ ⟨w.heap.size + 1, 7, none⟩ ⟨w.heap.size + 1, 1, none⟩ _ (by simp)).trans h.y1, (World.cell?_setCell_other _ ⟨w.heap.size + 1, 7, none⟩ ⟨w.heap.size + 1, 2, none⟩ _ (by simp)).trans h.y2, (World.cell?_setCell_other _ ⟨w.heap.size + 1, 7, none⟩ ⟨w.heap.size + 1, 3, none⟩ _ (by simp)).trans h.y3, (World.cell?_setCell_other _ ⟨w.heap.size + 1, 7, none⟩ ⟨w.heap.size + 1, 4, none⟩ _ (by simp)).trans h.y4, (World.cell?_setCell_other _ ⟨w.heap.size + 1, 7, none⟩ ⟨w.heap.size + 1, 5, none⟩ _ (by simp)).trans h.y5, (World.cell?_setCell_other _ ⟨w.heap.size + 1, 7, none⟩ ⟨w.heap.size + 1, 6, none⟩ _ (by simp)).trans h.y6, World.cell?_setCell_same _ _ _ h.y7, (World.cell?_setCell_other _ ⟨w.heap.size + 1, 7, none⟩ ⟨w.heap.size + 1, 8, none⟩ _ (by simp)).trans h.y8, (World.cell?_setCell_other _ ⟨w.heap.size + 1, 7, none⟩ ⟨w.heap.size + 1, 9, none⟩ _ (by simp)).trans h.y9, (World.cell?_setCell_other _ ⟨w.heap.size + 1, 7, none⟩ ⟨w.heap.size + 1, 10, none⟩ _ (by simp)).trans h.y10, fun o => by rw [World.frozen?_setCell]; exact h.fr o, fun o => by rw [World.frozen?_setCell]; exact h.fy o⟩
theorem St.set8 {w W : World} {x0 x1 x2 x3 x4 x5 x6 x7 x8 x9 x10 : Value} (h : St w W x0 x1 x2 x3 x4 x5 x6 x7 x8 x9 x10) (v : Value) : St w (W.setCell ⟨w.heap.size + 1, 8, none⟩ v) x0 x1 x2 x3 x4 x5 x6 x7 v x9 x10 :=
  ⟨h.bel.setCell (by simp) _, by have := h.siz; simpa using this, (World.cell?_setCell_other _ ⟨w.heap.size + 1, 8, none⟩ ⟨w.heap.size, 0, none⟩ _ (by simp)).trans h.r0, (World.cell?_setCell_other _ ⟨w.heap.size + 1, 8, none⟩ ⟨w.heap.size, 1, none⟩ _ (by simp)).trans h.r1, (World.cell?_setCell_other _ ⟨w.heap.size + 1, 8, none⟩ ⟨w.heap.size, 2, none⟩ _ (by simp)).trans h.r2, (World.cell?_setCell_other _ ⟨w.heap.size + 1, 8, none⟩ ⟨w.heap.size, 3, none⟩ _ (by simp)).trans h.r3, (World.cell?_setCell_other _ ⟨w.heap.size + 1, 8, none⟩ ⟨w.heap.size, 4, none⟩ _ (by simp)).trans h.r4, (World.cell?_setCell_other _ ⟨w.heap.size + 1, 8, none⟩ ⟨w.heap.size, 5, none⟩ _ (by simp)).trans h.r5, (World.cell?_setCell_other _ ⟨w.heap.size + 1, 8, none⟩ ⟨w.heap.size, 6, none⟩ _ (by simp)).trans h.r6, (World.cell?_setCell_other _ ⟨w.heap.size + 1, 8, none⟩ ⟨w.heap.size, 7, none⟩ _ (by simp)).trans h.r7, (World.cell?_setCell_other _ ⟨w.heap.size + 1, 8, none⟩ ⟨w.heap.size, 8, none⟩ _ (by simp)).trans h.r8, (World.cell?_setCell_other _ ⟨w.heap.size + 1, 8, none⟩ ⟨w.heap.size, 9, none⟩ _ (by simp)).trans h.r9, (World.cell?_setCell_other _ ⟨w.heap.size + 1, 8, none⟩ ⟨w.heap.size, 10, none⟩ _ (by simp)).trans h.r10, (World.cell?_setCell_other _ ⟨w.heap.size + 1, 8, none⟩ ⟨w.heap.size + 1, 0, none⟩ _ (by simp)).trans h.y0, (World.cell?_setCell_other _ ⟨w.heap.size + 1, 8, none⟩ ⟨w.heap.size + 1, 1, none⟩ _ (by simp)).trans h.y1, (World.cell?_setCell_other _ ⟨w.heap.size + 1, 8, none⟩ ⟨w.heap.size + 1, 2, none⟩ _ (by simp)).trans h.y2, (World.cell?_setCell_other _ ⟨w.heap.size + 1, 8, none⟩ ⟨w.heap.size + 1, 3, none⟩ _ (by simp)).trans h.y3, (World.cell?_setCell_other _ ⟨w.heap.size + 1, 8, none⟩ ⟨w.heap.size + 1, 4, none⟩ _ (by simp)).trans h.y4, (World.cell?_setCell_other _ ⟨w.heap.size + 1, 8, none⟩ ⟨w.heap.size + 1, 5, none⟩ _ (by simp)).trans h.y5, (World.cell?_setCell_other _ ⟨w.heap.size + 1, 8, none⟩ ⟨w.heap.size + 1, 6, none⟩ _ (by simp)).trans h.y6, (World.cell?_setCell_other _ ⟨w.heap.size + 1, 8, none⟩ ⟨w.heap.size + 1, 7, none⟩ _ (by simp)).trans h.y7, World.cell?_setCell_same _ _ _ h.y8, (World.cell?_setCell_other _ ⟨w.heap.size + 1, 8, none⟩ ⟨w.heap.size + 1, 9, none⟩ _ (by simp)).trans h.y9, (World.cell?_setCell_other _ ⟨w.heap.size + 1, 8, none⟩ ⟨w.heap.size + 1, 10, none⟩ _ (by simp)).trans h.y10, fun o => by rw [World.frozen?_setCell]; exact h.fr o, fun o => by rw [World.frozen?_setCell]; exact h.fy o⟩
theorem St.set9 {w W : World} {x0 x1 x2 x3 x4 x5 x6 x7 x8 x9 x10 : Value} (h : St w W x0 x1 x2 x3 x4 x5 x6 x7 x8 x9 x10) (v : Value) : St w (W.setCell ⟨w.heap.size + 1, 9, none⟩ v) x0 x1 x2 x3 x4 x5 x6 x7 x8 v x10 :=
  ⟨h.bel.setCell (by simp) _, by have := h.siz; simpa using this, (World.cell?_setCell_other _ ⟨w.heap.size + 1, 9, none⟩ ⟨w.heap.size, 0, none⟩ _ (by simp)).trans h.r0, (World.cell?_setCell_other _ ⟨w.heap.size + 1, 9, none⟩ ⟨w.heap.size, 1, none⟩ _ (by simp)).trans h.r1, (World.cell?_setCell_other _ ⟨w.heap.size + 1, 9, none⟩ ⟨w.heap.size, 2, none⟩ _ (by simp)).trans h.r2, (World.cell?_setCell_other _ ⟨w.heap.size + 1, 9, none⟩ ⟨w.heap.size, 3, none⟩ _ (by simp)).trans h.r3, (World.cell?_setCell_other _ ⟨w.heap.size + 1, 9, none⟩ ⟨w.heap.size, 4, none⟩ _ (by simp)).trans h.r4, (World.cell?_setCell_other _ ⟨w.heap.size + 1, 9, none⟩ ⟨w.heap.size, 5, none⟩ _ (by simp)).trans h.r5, (World.cell?_setCell_other _ ⟨w.heap.size + 1, 9, none⟩ ⟨w.heap.size, 6, none⟩ _ (by simp)).trans h.r6, (World.cell?_setCell_other _ ⟨w.heap.size + 1, 9, none⟩ ⟨w.heap.size, 7, none⟩ _ (by simp)).trans h.r7, (World.cell?_setCell_other _ ⟨w.heap.size + 1, 9, none⟩ ⟨w.heap.size, 8, none⟩ _ (by simp)).trans h.r8, (World.cell?_setCell_other _ ⟨w.heap.size + 1, 9, none⟩ ⟨w.heap.size, 9, none⟩ _ (by simp)).trans h.r9, (World.cell?_setCell_other _ ⟨w.heap.size + 1, 9, none⟩ ⟨w.heap.size, 10, none⟩ _ (by simp)).trans h.r10, (World.cell?_setCell_other _ ⟨w.heap.size + 1, 9, none⟩ ⟨w.heap.size + 1, 0, none⟩ _ (by simp)).trans h.y0, (World.cell?_setCell_other _ ⟨w.heap.size + 1, 9, none⟩ ⟨w.heap.size + 1, 1, none⟩ _ (by simp)).trans h.y1, (World.cell?_setCell_other _ ⟨w.heap.size + 1, 9, none⟩ ⟨w.heap.size + 1, 2, none⟩ _ (by simp)).trans h.y2, (World.cell?_setCell_other _ ⟨w.heap.size + 1, 9, none⟩ ⟨w.heap.size + 1, 3, none⟩ _ (by simp)).trans h.y3, (World.cell?_setCell_other _ ⟨w.heap.size + 1, 9, none⟩ ⟨w.heap.size + 1, 4, none⟩ _ (by simp)).trans h.y4, (World.cell?_setCell_other _ ⟨w.heap.size + 1, 9, none⟩ ⟨w.heap.size + 1, 5, none⟩ _ (by simp)).trans h.y5, (World.cell?_setCell_other _ ⟨w.heap.size + 1, 9, none⟩ ⟨w.heap.size + 1, 6, none⟩ _ (by simp)).trans h.y6, (World.cell?_setCell_other _ ⟨w.heap.size + 1, 9, none⟩ ⟨w.heap.size + 1, 7, none⟩ _ (by simp)).trans h.y7, (World.cell?_setCell_other _ ⟨w.heap.size + 1, 9, none⟩ ⟨w.heap.size + 1, 8, none⟩ _ (by simp)).trans h.y8, World.cell?_setCell_same _ _ _ h.y9, (World.cell?_setCell_other _ ⟨w.heap.size + 1, 9, none⟩ ⟨w.heap.size + 1, 10, none⟩ _ (by simp)).trans h.y10, fun o => by rw [World.frozen?_setCell]; exact h.fr o, fun o => by rw [World.frozen?_setCell]; exact h.fy o⟩
theorem St.set10 {w W : World} {x0 x1 x2 x3 x4 x5 x6 x7 x8 x9 x10 : Value} (h : St w W x0 x1 x2 x3 x4 x5 x6 x7 x8 x9 x10) (v : Value) : St w (W.setCell ⟨w.heap.size + 1, 10, none⟩ v) x0 x1 x2 x3 x4 x5 x6 x7 x8 x9 v :=
  ⟨h.bel.setCell (by simp) _, by have := h.siz; simpa using this, (World.cell?_setCell_other _ ⟨w.heap.size + 1, 10, none⟩ ⟨w.heap.size, 0, none⟩ _ (by simp)).trans h.r0, (World.cell?_setCell_other _ ⟨w.heap.size + 1, 10, none⟩ ⟨w.heap.size, 1, none⟩ _ (by simp)).trans h.r1, (World.cell?_setCell_other _ ⟨w.heap.size + 1, 10, none⟩ ⟨w.heap.size, 2, none⟩ _ (by simp)).trans h.r2, (World.cell?_setCell_other _ ⟨w.heap.size + 1, 10, none⟩ ⟨w.heap.size, 3, none⟩ _ (by simp)).trans h.r3, (World.cell?_setCell_other _ ⟨w.heap.size + 1, 10, none⟩ ⟨w.heap.size, 4, none⟩ _ (by simp)).trans h.r4, (World.cell?_setCell_other _ ⟨w.heap.size + 1, 10, none⟩ ⟨w.heap.size, 5, none⟩ _ (by simp)).trans h.r5, (World.cell?_setCell_other _ ⟨w.heap.size + 1, 10, none⟩ ⟨w.heap.size, 6, none⟩ _ (by simp)).trans h.r6, (World.cell?_setCell_other _ ⟨w.heap.size + 1, 10, none⟩ ⟨w.heap.size, 7, none⟩ _ (by simp)).trans h.r7, (World.cell?_setCell_other _ ⟨w.heap.size + 1, 10, none⟩ ⟨w.heap.size, 8, none⟩ _ (by simp)).trans h.r8, (World.cell?_setCell_other _ ⟨w.heap.size + 1, 10, none⟩ ⟨w.heap.size, 9, none⟩ _ (by simp)).trans h.r9, (World.cell?_setCell_other _ ⟨w.heap.size + 1, 10, none⟩ ⟨w.heap.size, 10, none⟩ _ (by simp)).trans h.r10, (World.cell?_setCell_other _ ⟨w.heap.size + 1, 10, none⟩ ⟨w.heap.size + 1, 0, none⟩ _ (by simp)).trans h.y0, (World.cell?_setCell_other _ ⟨w.heap.size + 1, 10, none⟩ ⟨w.heap.size + 1, 1, none⟩ _ (by simp)).trans h.y1, (World.cell?_setCell_other _ ⟨w.heap.size + 1, 10, none⟩ ⟨w.heap.size + 1, 2, none⟩ _ (by simp)).trans h.y2, (World.cell?_setCell_other _ ⟨w.heap.size + 1, 10, none⟩ ⟨w.heap.size + 1, 3, none⟩ _ (by simp)).trans h.y3, (World.cell?_setCell_other _ ⟨w.heap.size + 1, 10, none⟩ ⟨w.heap.size + 1, 4, none⟩ _ (by simp)).trans h.y4, (World.cell?_setCell_other _ ⟨w.heap.size + 1, 10, none⟩ ⟨w.heap.size + 1, 5, none⟩ _ (by simp)).trans h.y5, (World.cell?_setCell_other _ ⟨w.heap.size + 1, 10, none⟩ ⟨w.heap.size + 1, 6, none⟩ _ (by simp)).trans h.y6, (World.cell?_setCell_other _ ⟨w.heap.size + 1, 10, none⟩ ⟨w.heap.size + 1, 7, none⟩ _ (by simp)).trans h.y7, (World.cell?_setCell_other _ ⟨w.heap.size + 1, 10, none⟩ ⟨w.heap.size + 1, 8, none⟩ _ (by simp)).trans h.y8, (World.cell?_setCell_other _ ⟨w.heap.size + 1, 10, none⟩ ⟨w.heap.size + 1, 9, none⟩ _ (by simp)).trans h.y9, World.cell?_setCell_same _ _ _ h.y10, fun o => by rw [World.frozen?_setCell]; exact h.fr o, fun o => by rw [World.frozen?_setCell]; exact h.fy o⟩

theorem St.init (w : World) (t : TypeId) : St w ((w.alloc (.cells #[.bool false, .int .i64 0, .int .i64 0, .int .i64 0, .int .i64 0, .slice none 0 0, .bool false, .int .i64 0, .string ⟨#[]⟩, .string ⟨#[]⟩, .int .i64 0] t)).alloc (.cells #[.bool false, .int .i64 0, .int .i64 0, .int .i64 0, .int .i64 0, .slice none 0 0, .bool false, .int .i64 0, .string ⟨#[]⟩, .string ⟨#[]⟩, .int .i64 0] t)) (.bool false) (.int .i64 0) (.int .i64 0) (.int .i64 0) (.int .i64 0) (.slice none 0 0) (.bool false) (.int .i64 0) (.string ⟨#[]⟩) (.string ⟨#[]⟩) (.int .i64 0) := by
  refine ⟨((Below.refl _ _).alloc (Nat.le_refl _) _).alloc (by simp) _, by simp, ?_, ?_, ?_, ?_, ?_, ?_, ?_, ?_, ?_, ?_, ?_, ?_, ?_, ?_, ?_, ?_, ?_, ?_, ?_, ?_, ?_, ?_, ?_, ?_⟩
  all_goals first | (intro o; simp [go_sem]; done) | (simp [go_sem]; done) | go_simp

end Pk
end Go.Proofs.YtdjhhnolcafkiaaGreat

/- A packet is read: the stem. -/
namespace Go.Proofs.YtdjhhnolcafkiaaGreat
open Go.RowKit Pk
namespace Pk
theorem below_fin {w W : World} {c0 c1 c2 c3 c4 c5 c6 c7 c8 c9 c10 : Value} (hb : Below w.heap.size w W) : Below w.heap.size w (((((((((((W.setCell ⟨w.heap.size, 0, none⟩ c0).setCell ⟨w.heap.size, 1, none⟩ c1).setCell ⟨w.heap.size, 2, none⟩ c2).setCell ⟨w.heap.size, 3, none⟩ c3).setCell ⟨w.heap.size, 4, none⟩ c4).setCell ⟨w.heap.size, 5, none⟩ c5).setCell ⟨w.heap.size, 6, none⟩ c6).setCell ⟨w.heap.size, 7, none⟩ c7).setCell ⟨w.heap.size, 8, none⟩ c8).setCell ⟨w.heap.size, 9, none⟩ c9).setCell ⟨w.heap.size, 10, none⟩ c10) := (((((((((((hb.setCell (p := ⟨w.heap.size, 0, none⟩) (Nat.le_refl _) _).setCell (p := ⟨w.heap.size, 1, none⟩) (Nat.le_refl _) _).setCell (p := ⟨w.heap.size, 2, none⟩) (Nat.le_refl _) _).setCell (p := ⟨w.heap.size, 3, none⟩) (Nat.le_refl _) _).setCell (p := ⟨w.heap.size, 4, none⟩) (Nat.le_refl _) _).setCell (p := ⟨w.heap.size, 5, none⟩) (Nat.le_refl _) _).setCell (p := ⟨w.heap.size, 6, none⟩) (Nat.le_refl _) _).setCell (p := ⟨w.heap.size, 7, none⟩) (Nat.le_refl _) _).setCell (p := ⟨w.heap.size, 8, none⟩) (Nat.le_refl _) _).setCell (p := ⟨w.heap.size, 9, none⟩) (Nat.le_refl _) _).setCell (p := ⟨w.heap.size, 10, none⟩) (Nat.le_refl _) _)
theorem told_fin {w W : World} {v : Value} {l : List Int} {c0 c1 c2 c3 c4 c5 c6 c7 c8 c9 c10 : Value} (hb : Below w.heap.size w W) (ho : OwnInts W (w.heap.size + 2) v l) :
    Below w.heap.size w (((((((((((W.setCell ⟨w.heap.size, 0, none⟩ c0).setCell ⟨w.heap.size, 1, none⟩ c1).setCell ⟨w.heap.size, 2, none⟩ c2).setCell ⟨w.heap.size, 3, none⟩ c3).setCell ⟨w.heap.size, 4, none⟩ c4).setCell ⟨w.heap.size, 5, none⟩ c5).setCell ⟨w.heap.size, 6, none⟩ c6).setCell ⟨w.heap.size, 7, none⟩ c7).setCell ⟨w.heap.size, 8, none⟩ c8).setCell ⟨w.heap.size, 9, none⟩ c9).setCell ⟨w.heap.size, 10, none⟩ c10) ∧ OwnInts (((((((((((W.setCell ⟨w.heap.size, 0, none⟩ c0).setCell ⟨w.heap.size, 1, none⟩ c1).setCell ⟨w.heap.size, 2, none⟩ c2).setCell ⟨w.heap.size, 3, none⟩ c3).setCell ⟨w.heap.size, 4, none⟩ c4).setCell ⟨w.heap.size, 5, none⟩ c5).setCell ⟨w.heap.size, 6, none⟩ c6).setCell ⟨w.heap.size, 7, none⟩ c7).setCell ⟨w.heap.size, 8, none⟩ c8).setCell ⟨w.heap.size, 9, none⟩ c9).setCell ⟨w.heap.size, 10, none⟩ c10) (w.heap.size + 2) v l :=
  ⟨(((((((((((hb.setCell (p := ⟨w.heap.size, 0, none⟩) (Nat.le_refl _) _).setCell (p := ⟨w.heap.size, 1, none⟩) (Nat.le_refl _) _).setCell (p := ⟨w.heap.size, 2, none⟩) (Nat.le_refl _) _).setCell (p := ⟨w.heap.size, 3, none⟩) (Nat.le_refl _) _).setCell (p := ⟨w.heap.size, 4, none⟩) (Nat.le_refl _) _).setCell (p := ⟨w.heap.size, 5, none⟩) (Nat.le_refl _) _).setCell (p := ⟨w.heap.size, 6, none⟩) (Nat.le_refl _) _).setCell (p := ⟨w.heap.size, 7, none⟩) (Nat.le_refl _) _).setCell (p := ⟨w.heap.size, 8, none⟩) (Nat.le_refl _) _).setCell (p := ⟨w.heap.size, 9, none⟩) (Nat.le_refl _) _).setCell (p := ⟨w.heap.size, 10, none⟩) (Nat.le_refl _) _), (((((((((((ho.setCell (a := ⟨w.heap.size, 0, none⟩) (by simp) _).setCell (a := ⟨w.heap.size, 1, none⟩) (by simp) _).setCell (a := ⟨w.heap.size, 2, none⟩) (by simp) _).setCell (a := ⟨w.heap.size, 3, none⟩) (by simp) _).setCell (a := ⟨w.heap.size, 4, none⟩) (by simp) _).setCell (a := ⟨w.heap.size, 5, none⟩) (by simp) _).setCell (a := ⟨w.heap.size, 6, none⟩) (by simp) _).setCell (a := ⟨w.heap.size, 7, none⟩) (by simp) _).setCell (a := ⟨w.heap.size, 8, none⟩) (by simp) _).setCell (a := ⟨w.heap.size, 9, none⟩) (by simp) _).setCell (a := ⟨w.heap.size, 10, none⟩) (by simp) _)⟩
end Pk

theorem num_two (s : ByteArray) (a : Nat) : num (s.extract a (a + 2)).data.toList < 65536 := by
  have h1 := num_lt (s.extract a (a + 2)).data.toList
  have h2 : (s.extract a (a + 2)).data.toList.length ≤ 2 := by rw [← Lib.size_eq, ByteArray.size_extract]; omega
  have h3 : 256 ^ (s.extract a (a + 2)).data.toList.length ≤ 256 ^ 2 := Nat.pow_le_pow_right (by omega) h2
  omega
theorem run_last (W : World) (s : ByteArray) (h : 0 < s.size) : (Instr.index 9 (.string s) (.int .i64 ((s.size : Int) - 1))).run Tryz.prog W = .ok (.int .u8 ((Bl s).toNat : Int)) W := by
  rw [run_index_string W 9 s .i64 _ Tryz.underlying9, dif_pos ⟨by omega, by omega⟩, ← getl s (by omega)]
  have e : ((s.size : Int) - 1).toNat = s.size - 1 := by omega
  simp only [e]

set_option maxHeartbeats 8000000 in
theorem read_plain (s : ByteArray) (w : World) (hs : 12 ≤ s.size) (hs2 : s.size ≤ 1500) (hm : (B0 s).toNat / 64 = 2) (hat : at0 s ≤ s.size) (hx : ¬ (B0 s).toNat / 16 % 2 = 1) :
    Calls Tryz.prog 72 #[.string s] w fun e w' => Below w.heap.size w w' ∧ ReadAs (readP s) w.heap.size e w' := by
  have hi : (12 : Int) ≤ s.size := by omega
  have hi2 : (s.size : Int) ≤ 1500 := by omega
  have i0 : (0 : Int) < s.size := by omega
  have hbad : bad1 s = false := by unfold bad1; exact decide_eq_false (by omega)
  have HP : Hid (readP s = (extPart s).bind fun x => (padPart s x.2.2).map fun y => mkP s x y) := readP_of s hbad hat
  clear hbad
  have j0 : ∀ W : World, (Instr.index 9 (.string s) (.int .i64 0)).run Tryz.prog W = .ok (.int .u8 ((B0 s).toNat : Int)) W := fun W => by
    rw [run_index_string W 9 s .i64 0 Tryz.underlying9, dif_pos ⟨by omega, i0⟩, ← get0 s (by omega)]; rfl
  have hb := (B0 s).toNat_lt
  have hne : (((B0 s).toNat : Int) / 64 != 2) = false := by rw [bne_eq_false_iff_eq]; omega
  have e15 : IntKind.i64.wrap (bits .and .u8 ((B0 s).toNat : Int) 15) = ((B0 s).toNat : Int) % 16 := by rw [low4]; exact (wrapI64 _ (by omega) (by omega)).trans (by omega)
  obtain ⟨A, hA⟩ : ∃ A, A = at0 s := ⟨_, rfl⟩
  have HA := Pk.hid hA
  have hA1 : (12 + 4 * (((B0 s).toNat : Int) % 16)) = (A : Int) := by rw [hA]; unfold at0; omega
  have hA2 : A ≤ s.size := by rw [hA]; exact hat
  have hA3 : 12 ≤ A := by rw [hA]; unfold at0; omega
  clear hm hat hA
  go_enter Tryz.func72, Tryz.ntmps72
  go_wp2
  refine wp_scope_fwd 0 rfl ?_
  go_wp2_with fail
  refine (readHead_any s _ hs hs2).mono ?_
  rintro e w1 ⟨rfl, hb1⟩
  rw [get0 s (by omega), get1 s (by omega)]
  have hSt0 := St.init w 41
  have hSt1 := hSt0.below hb1
  have hSt := hSt1
  obtain ⟨bel, siz, r0, r1, r2, r3, r4, r5, r6, r7, r8, r9, r10, y0, y1, y2, y3, y4, y5, y6, y7, y8, y9, y10, fr, fy⟩ := hSt1
  clear hb1 hSt0
  go_wp2_with fail
  clear bel siz r0 r1 r2 r3 r4 r5 r6 r7 r8 r9 r10 y0 y1 y2 y3 y4 y5 y6 y7 y8 y9 y10 fr fy
  refine (readWords_any _ _ (by simp only [ByteArray.size_extract]; omega)).mono ?_
  rintro e w2 ⟨v, rfl, hown, hb2⟩
  have hSt2 := (((((((((((hSt.set0 _).set1 _).set2 _).set3 _).set4 _).set5 _).set6 _).set7 _).set8 _).set9 _).set10 _).below hb2
  have hown2 := hown.mono (base' := w.heap.size + 2) (by have := hSt.siz; simp; omega)
  clear hown hb2 hSt
  obtain ⟨ao, cap, rfl⟩ := hown2.shape
  have Hown := Pk.hid hown2
  clear hown2
  generalize hcl : words (s.extract 12 A).data.toList = cl at *
  have Hcl := Pk.hid hcl
  clear hcl
  have hSt := hSt2
  obtain ⟨bel, siz, r0, r1, r2, r3, r4, r5, r6, r7, r8, r9, r10, y0, y1, y2, y3, y4, y5, y6, y7, y8, y9, y10, fr, fy⟩ := hSt2
  clear w1
  have hxd : decide ((B0 s).toNat / 16 % 2 = 1) = false := decide_eq_false hx
  have HX : Hid (extPart s = some (0, ⟨#[]⟩, A)) := by show _ = _; unfold extPart; rw [if_neg hx, HA.out]
  clear hx
  by_cases hp : (B0 s).toNat / 32 % 2 = 1
  · have hpd : (bits .and .u8 ((B0 s).toNat : Int) 32 != 0) = true := by rw [pad_bit]; exact decide_eq_true hp
    have hq := (Bl s).toNat_lt
    have jl : ∀ W : World, (Instr.index 9 (.string s) (.int .i64 ((s.size : Int) - 1))).run Tryz.prog W = .ok (.int .u8 ((Bl s).toNat : Int)) W := fun W => run_last W s (by omega)
    have HPd : Hid (padPart s A = if (Bl s).toNat = 0 ∨ s.size - A < (Bl s).toNat then none else if noughts (s.extract (s.size - (Bl s).toNat) (s.size - 1)).data.toList = true then some ((Bl s).toNat, s.size - (Bl s).toNat) else none) := by show _ = _; unfold padPart; rw [if_pos hp]
    clear hp
    generalize hqq : (Bl s).toNat = q at *
    have Hqq := Pk.hid hqq
    clear hqq
    by_cases hq0 : q = 0
    · subst hq0
      have HR : Hid (readP s = none) := by
        show _ = _
        rw [HP.out, HX.out]
        simp only [Option.bind_some]
        rw [HPd.out, if_pos (.inl rfl)]
        rfl
      go_wp2
      go_step3
      refine jump_here 0 ?_
      go_wp2
      rw [Exit.noGoto_ret]
      refine bodyPost_ret (v := wrongV) (by simp [results, Tryz.results72, wrongV, go_sem, r0, r1, r2, r3, r4, r5, r6, r7, r8, r9, r10]) rfl ⟨?_, ?_⟩
      · exact below_fin (((bel.setCell (p := ⟨w.heap.size + 1, 5, none⟩) (by simp) _).setCell (p := ⟨w.heap.size + 1, 10, none⟩) (by simp) _))
      · rw [HR.out]
        rfl
    · have hq0' : ((q : Int) == 0) = false := by simpa using hq0
      by_cases hq1 : s.size - A < q
      · have hq1' : (s.size : Int) - (A : Nat) < q := by omega
        have HR : Hid (readP s = none) := by
          show _ = _
          rw [HP.out, HX.out]
          simp only [Option.bind_some]
          rw [HPd.out, if_pos (.inr hq1)]
          rfl
        clear hq0
        go_wp2
        go_step3
        refine jump_here 0 ?_
        go_wp2
        rw [Exit.noGoto_ret]
        refine bodyPost_ret (v := wrongV) (by simp [results, Tryz.results72, wrongV, go_sem, r0, r1, r2, r3, r4, r5, r6, r7, r8, r9, r10]) rfl ⟨?_, ?_⟩
        · exact below_fin (((bel.setCell (p := ⟨w.heap.size + 1, 5, none⟩) (by simp) _).setCell (p := ⟨w.heap.size + 1, 10, none⟩) (by simp) _))
        · rw [HR.out]
          rfl
      · have hq1' : ¬ ((s.size : Int) - (A : Nat) < q) := by omega
        have hq2 : (1 : Int) ≤ q := by omega
        have hq3 : (q : Int) ≤ s.size := by omega
        have HPd2 : Hid (padPart s A = if noughts (s.extract (s.size - q) (s.size - 1)).data.toList = true then some (q, s.size - q) else none) := by show _ = _; rw [HPd.out, if_neg (by omega)]
        clear hq0 HPd
        have hz1 : s.size - q ≤ s.size - 1 := by omega
        have hz2 : A ≤ s.size - q := by omega
        have hz3 : s.size - q ≤ s.size := by omega
        go_wp2_with fail
        refine (allNoughts_any _ _ (by simp only [ByteArray.size_extract]; unfold maxLen; omega)).mono ?_
        rintro e w4 ⟨rfl, rfl⟩
        cases hN : noughts (s.extract (s.size - q) (s.size - 1)).data.toList with
        | false =>
          have HR : Hid (readP s = none) := by
            show _ = _
            rw [HP.out, HX.out]
            simp only [Option.bind_some]
            rw [HPd2.out, hN]
            rfl
          clear hN
          go_wp2
          go_step3
          refine jump_here 0 ?_
          go_wp2
          rw [Exit.noGoto_ret]
          refine bodyPost_ret (v := wrongV) (by simp [results, Tryz.results72, wrongV, go_sem, r0, r1, r2, r3, r4, r5, r6, r7, r8, r9, r10]) rfl ⟨?_, ?_⟩
          · exact below_fin (((bel.setCell (p := ⟨w.heap.size + 1, 5, none⟩) (by simp) _).setCell (p := ⟨w.heap.size + 1, 10, none⟩) (by simp) _))
          · rw [HR.out]
            rfl
        | true =>
          have HR : Hid (readP s = some (mkP s (0, ⟨#[]⟩, A) (q, s.size - q))) := by
            show _ = _
            rw [HP.out, HX.out]
            simp only [Option.bind_some]
            rw [HPd2.out, hN]
            rfl
          clear hN
          go_wp2_with fail
          clear bel siz r0 r1 r2 r3 r4 r5 r6 r7 r8 r9 r10 y0 y1 y2 y3 y4 y5 y6 y7 y8 y9 y10 fr fy
          refine (clone_any _ _ (by simp only [ByteArray.size_extract]; omega)).mono ?_
          rintro e w9 ⟨rfl, hb9⟩
          have hStn := ((hSt.set5 _).set10 _).below hb9
          have hownn := ((Hown.out.setCell (a := ⟨w.heap.size + 1, 5, none⟩) (by simp) _).setCell (a := ⟨w.heap.size + 1, 10, none⟩) (by simp) _).below hb9
          clear hb9 hSt Hown
          have Hown := Pk.hid hownn
          clear hownn
          have hSt := hStn
          obtain ⟨bel, siz, r0, r1, r2, r3, r4, r5, r6, r7, r8, r9, r10, y0, y1, y2, y3, y4, y5, y6, y7, y8, y9, y10, fr, fy⟩ := hStn
          go_wp2
          simp only [Exit.jump]
          obtain ⟨q1, q2⟩ := told_fin (bel.setCell (p := ⟨w.heap.size + 1, 9, none⟩) (by simp) _) (Hown.out.setCell (a := ⟨w.heap.size + 1, 9, none⟩) (by simp) _)
          refine bodyPost_ret (v := .tuple #[.agg #[.bool (decide (128 ≤ (B1 s).toNat)), .int .i64 ((B1 s).toNat % 128), .int .i64 (num ((s.data.toList.drop 2).take 2)), .int .i64 (num ((s.data.toList.drop 4).take 4)), .int .i64 (num ((s.data.toList.drop 8).take 4)), .slice ao cl.length cap, .bool false, .int .i64 0, .string ⟨#[]⟩, .string (s.extract A (s.size - q)), .int .i64 q], .int .i64 0]) (by simp [results, Tryz.results72, go_sem, r0, r1, r2, r3, r4, r5, r6, r7, r8, r9, r10]) rfl ⟨?_, ?_⟩
          · exact q1
          · rw [HR.out]
            refine ⟨.slice ao cl.length cap, ?_, ?_⟩
            · simp [okV, mkP, hxd]
            · have e : (mkP s (0, ⟨#[]⟩, A) (q, s.size - q)).cl = cl := by rw [← Hcl.out, HA.out]; rfl
              rw [e]
              exact q2.mono (by omega)
  · have hpd : (bits .and .u8 ((B0 s).toNat : Int) 32 != 0) = false := by rw [pad_bit]; exact decide_eq_false hp
    have HR : Hid (readP s = some (mkP s (0, ⟨#[]⟩, A) (0, s.size))) := by
      show _ = _
      rw [HP.out, HX.out]
      simp [padPart, hp]
    clear hp
    go_wp2_with fail
    clear bel siz r0 r1 r2 r3 r4 r5 r6 r7 r8 r9 r10 y0 y1 y2 y3 y4 y5 y6 y7 y8 y9 y10 fr fy
    refine (clone_any _ _ (by simp only [ByteArray.size_extract]; omega)).mono ?_
    rintro e w9 ⟨rfl, hb9⟩
    have hStn := (hSt.set5 _).below hb9
    have hownn := (Hown.out.setCell (a := ⟨w.heap.size + 1, 5, none⟩) (by simp) _).below hb9
    clear hb9 hSt Hown
    have Hown := Pk.hid hownn
    clear hownn
    have hSt := hStn
    obtain ⟨bel, siz, r0, r1, r2, r3, r4, r5, r6, r7, r8, r9, r10, y0, y1, y2, y3, y4, y5, y6, y7, y8, y9, y10, fr, fy⟩ := hStn
    go_wp2
    simp only [Exit.jump]
    obtain ⟨q1, q2⟩ := told_fin (bel.setCell (p := ⟨w.heap.size + 1, 9, none⟩) (by simp) _) (Hown.out.setCell (a := ⟨w.heap.size + 1, 9, none⟩) (by simp) _)
    refine bodyPost_ret (v := .tuple #[.agg #[.bool (decide (128 ≤ (B1 s).toNat)), .int .i64 ((B1 s).toNat % 128), .int .i64 (num ((s.data.toList.drop 2).take 2)), .int .i64 (num ((s.data.toList.drop 4).take 4)), .int .i64 (num ((s.data.toList.drop 8).take 4)), .slice ao cl.length cap, .bool false, .int .i64 0, .string ⟨#[]⟩, .string (s.extract A s.size), .int .i64 0], .int .i64 0]) (by simp [results, Tryz.results72, go_sem, r0, r1, r2, r3, r4, r5, r6, r7, r8, r9, r10]) rfl ⟨?_, ?_⟩
    · exact q1
    · rw [HR.out]
      refine ⟨.slice ao cl.length cap, ?_, ?_⟩
      · simp [okV, mkP, hxd]
      · have e : (mkP s (0, ⟨#[]⟩, A) (0, s.size)).cl = cl := by rw [← Hcl.out, HA.out]; rfl
        rw [e]
        exact q2.mono (by omega)

end Go.Proofs.YtdjhhnolcafkiaaGreat

/- wire.makeEntries: the entries of an asking. -/
namespace Go.Proofs.YtdjhhnolcafkiaaGreat
open Go.RowKit
namespace Pk

end Pk
open Pk

end Go.Proofs.YtdjhhnolcafkiaaGreat

/- What a packet must be to be told: the tests, and its length. -/
namespace Go.Proofs.YtdjhhnolcafkiaaGreat
open Go.RowKit

set_option maxHeartbeats 1000000 in
theorem headFits_any (mk ex : Bool) (ty nu ti so pr pa : Int) (cv : Value) (cl : List Int) (en py : ByteArray) (w : World) (B : Nat) (hBw : B ≤ w.heap.size) (hv : Pk.IsInts B w cv cl) (hl : cl.length ≤ 17592186044416) :
    Calls Tryz.prog 107 #[.agg #[.bool mk, .int .i64 ty, .int .i64 nu, .int .i64 ti, .int .i64 so, cv, .bool ex, .int .i64 pr, .string en, .string py, .int .i64 pa]] w
      fun e w' => e = .returned (.bool (Pk.headOk ty nu ti so cl)) ∧ Below w.heap.size w w' := by
  have hvo : ∀ o, Pk.IsInts B (w.alloc o) cv cl := fun o => hv.alloc hBw o
  have Hv : Hid (∀ o, Pk.IsInts B (w.alloc o) cv cl) := hvo
  clear hvo
  obtain ⟨ao, cap, rfl, _⟩ := hv
  go_enter Tryz.func107, Tryz.ntmps107
  go_wp2_with (first
    | (go_at_call 109; refine (within_any _ _ _).mono ?_; rintro e w' ⟨rfl, rfl⟩)
    | (go_at_call 128; refine (allWithin_any B _ cl _ _ ?_ hl).mono ?_; exact Hv.out _; rintro e w' ⟨rfl, rfl⟩))
  all_goals go_ret
  all_goals refine ⟨Pk.ret_bool ?_, ?_⟩
  all_goals first | exact (Below.refl _ _).alloc (Nat.le_refl _) _ | skip
  all_goals unfold Pk.headOk
  all_goals first
    | (rw [decide_eq_false ‹¬(0 ≤ ty ∧ ty ≤ 127)›]; simp)
    | (rw [decide_eq_false ‹¬(0 ≤ nu ∧ nu ≤ 65535)›]; simp)
    | (rw [decide_eq_false ‹¬(0 ≤ ti ∧ ti ≤ 4294967295)›]; simp)
    | (rw [decide_eq_false ‹¬(0 ≤ so ∧ so ≤ 4294967295)›]; simp)
    | (rw [decide_eq_false (p := cl.length ≤ 15) (by omega)]; simp)
    | (rw [decide_eq_true ‹0 ≤ ty ∧ ty ≤ 127›, decide_eq_true ‹0 ≤ nu ∧ nu ≤ 65535›, decide_eq_true ‹0 ≤ ti ∧ ti ≤ 4294967295›, decide_eq_true ‹0 ≤ so ∧ so ≤ 4294967295›, decide_eq_true (p := cl.length ≤ 15) (by omega)]; simp)

set_option maxHeartbeats 1000000 in
theorem extensionFits_any (mk ex : Bool) (ty nu ti so pr pa : Int) (cv : Value) (en py : ByteArray) (w : World) (hen : en.size ≤ maxLen) :
    Calls Tryz.prog 108 #[.agg #[.bool mk, .int .i64 ty, .int .i64 nu, .int .i64 ti, .int .i64 so, cv, .bool ex, .int .i64 pr, .string en, .string py, .int .i64 pa]] w
      fun e w' => e = .returned (.bool (Pk.extOk ex pr en)) ∧ Below w.heap.size w w' := by
  unfold maxLen at hen
  cases ex
  all_goals
    go_enter Tryz.func108, Tryz.ntmps108
    go_wp2_with (first
      | (go_at_call 109; refine (within_any _ _ _).mono ?_; rintro e w' ⟨rfl, rfl⟩))
  all_goals go_ret
  all_goals refine ⟨Pk.ret_bool ?_, (Below.refl _ _).alloc (Nat.le_refl _) _⟩
  all_goals first | rw [Pk.extOk_no] | rw [Pk.extOk_yes]
  all_goals first
    | (rw [decide_eq_false ‹¬pr = 0›]; rfl)
    | (rw [decide_eq_false ‹¬(0 ≤ pr ∧ pr ≤ 65535)›]; rfl)
    | (rw [decide_eq_true ‹pr = 0›, Bool.true_and]; exact Pk.isEmpty_size en)
    | (rw [decide_eq_true ‹0 ≤ pr ∧ pr ≤ 65535›, Bool.true_and, Bool.eq_iff_iff]; simp; omega)

set_option maxHeartbeats 1000000 in
theorem packetLength_any (mk ex : Bool) (ty nu ti so pr pa : Int) (ao : Option Addr) (n cap : Nat) (en py : ByteArray) (w : World) (hen : en.size ≤ 140737488355328) (hpy : py.size ≤ 140737488355328) (hn : n ≤ 15) (hp0 : 0 ≤ pa) (hp1 : pa ≤ 255) :
    Calls Tryz.prog 110 #[.agg #[.bool mk, .int .i64 ty, .int .i64 nu, .int .i64 ti, .int .i64 so, .slice ao n cap, .bool ex, .int .i64 pr, .string en, .string py, .int .i64 pa]] w
      fun e w' => e = .returned (.int .i64 (12 + 4 * n + py.size + pa + if ex then 4 + en.size else 0)) ∧ Below w.heap.size w w' := by
  cases ex
  all_goals
    go_enter Tryz.func110, Tryz.ntmps110
    go_wp2
    go_ret
    refine ⟨Pk.ret_int ?_, (Below.refl _ _).alloc (Nat.le_refl _) _⟩
    simp <;> omega

end Go.Proofs.YtdjhhnolcafkiaaGreat

/- The writers: each appends its bytes. -/
namespace Go.Proofs.YtdjhhnolcafkiaaGreat
open Go.RowKit Pk

set_option maxHeartbeats 1000000 in
theorem addNumber_any (base g n cap : Nat) (l : List UInt8) (x : Nat) (k : Nat) (w : World) (_hx : x < 4294967296) (hk : k ≤ 4) (hroom : n + k ≤ cap) (hB : Buf w base g n cap l) :
    Calls Tryz.prog 124 #[.slice (some ⟨g, 0, none⟩) n cap, .int .i64 x, .int .i64 k] w fun e w' =>
      e = .returned (.slice (some ⟨g, 0, none⟩) (n + k) cap) ∧ Buf w' base g (n + k) cap (l ++ told x k) ∧ w.grownBy w' (some g) := by
  go_enter Tryz.func124, Tryz.ntmps124
  go_wp2
  go_loopw [0, 9] (fun v i wr => ∃ j : Nat, j ≤ k ∧ i = .int .i64 j ∧ v = .slice (some ⟨g, 0, none⟩) (n + j) cap ∧ Buf wr base g (n + j) cap (l ++ (told x k).take j) ∧ w.grownBy wr (some g)) (fun _ i _ => k - (intOf i).toNat)
  case atStart => exact ⟨0, Nat.zero_le _, rfl, rfl, by simpa using hB, World.grownBy.refl _ _⟩
  case round =>
    obtain ⟨j, hj, rfl, rfl, hBr, hgr⟩ := hrel
    by_cases hlt : j < k
    · have hb := byte_at x (k - 1 - j)
      have Hb : Hid ((x : Int) / 2 ^ (8 * (k - 1 - j)) % 256 = ((UInt8.ofNat (x / 256 ^ (k - 1 - j) % 256)).toNat : Int)) := hb
      clear hb
      go_wp2_with (at_builtin; refine wl_bytes rfl (.tmp 12) (.tmp 21) rfl rfl (hBr.alloc _) _ 1 1 [UInt8.ofNat (x / 256 ^ (k - 1 - j) % 256)] rfl rfl (new_one _ _ rfl _ _ _ (congrArg (Value.int .u8) Hb.out)) (by omega) ?_; intro w1 hB1 hg1)
      have R := hg1
      go_roundw
      case rel => exact ⟨j + 1, by omega, by go_num, rfl, by rw [told_take x k j hlt, ← List.append_assoc]; exact hB1, grown_trans hgr (grown_trans (World.grownBy_alloc _ _ _) hg1)⟩
      case measure => simp [intOf]; omega
    · go_wp2
      go_ret
      have e : j = k := by omega
      subst e
      refine ⟨rfl, ?_, hgr⟩
      rw [List.take_of_length_le (by rw [told_length]; exact Nat.le_refl _)] at hBr
      exact hBr

theorem addNumber_int (base g n cap : Nat) (l : List UInt8) (x : Int) (k : Nat) (w : World) (hx0 : 0 ≤ x) (hx : x < 4294967296) (hk : k ≤ 4) (hroom : n + k ≤ cap) (hB : Buf w base g n cap l) :
    Calls Tryz.prog 124 #[.slice (some ⟨g, 0, none⟩) n cap, .int .i64 x, .int .i64 k] w fun e w' =>
      e = .returned (.slice (some ⟨g, 0, none⟩) (n + k) cap) ∧ Buf w' base g (n + k) cap (l ++ told x.toNat k) ∧ w.grownBy w' (some g) := by
  obtain ⟨q, rfl⟩ := Int.eq_ofNat_of_zero_le hx0
  rw [Int.toNat_natCast]
  exact addNumber_any base g n cap l q k w (by omega) hk hroom hB

set_option maxHeartbeats 1000000 in
theorem addPadding_any (base g n cap : Nat) (l : List UInt8) (p : Nat) (w : World) (hp : p ≤ 255) (hroom : n + p ≤ cap) (hB : Buf w base g n cap l) :
    Calls Tryz.prog 113 #[.slice (some ⟨g, 0, none⟩) n cap, .int .i64 p] w fun e w' =>
      e = .returned (.slice (some ⟨g, 0, none⟩) (n + p) cap) ∧ Buf w' base g (n + p) cap (l ++ padB p) ∧ w.grownBy w' (some g) := by
  by_cases h0 : p = 0
  · subst h0
    go_enter Tryz.func113, Tryz.ntmps113
    go_wp2
    go_ret
    exact ⟨rfl, by simpa [padB] using hB, World.grownBy.refl _ _⟩
  · obtain ⟨m, hm⟩ : ∃ m, p = m + 1 := ⟨p - 1, by omega⟩
    subst hm
    have Hp : Hid (padB (m + 1) = List.replicate m 0 ++ [UInt8.ofNat (m + 1)]) := by show _ = _; simp [padB]
    have hne : (((m + 1 : Nat) : Int) == 0) = false := by simp; omega
    have Hb : Hid (((m : Int) + 1) = ((UInt8.ofNat (m + 1)).toNat : Int)) := by
      show _ = _
      rw [UInt8.toNat_ofNat']; omega
    clear h0
    go_enter Tryz.func113, Tryz.ntmps113
    go_wp2_with (first
      | (at_builtin; refine wl_zeros rfl (.tmp 8) (.tmp 10) rfl rfl hB _ m ?_ (by omega) rfl (by omega) ?_; (first | rfl | omega); intro w1 hB1 hg1)
      | (at_builtin; refine wl_bytes rfl (.tmp 12) (.tmp 15) rfl rfl (hB1.alloc _) _ 1 1 [UInt8.ofNat (m + 1)] rfl rfl (new_one _ _ rfl _ _ _ (congrArg (Value.int .u8) Hb.out)) (by omega) ?_; intro w2 hB2 hg2))
    go_ret
    refine ⟨rfl, ?_, grown_trans hg1 (grown_trans (World.grownBy_alloc _ _ _) hg2)⟩
    rw [Hp.out, ← List.append_assoc]
    exact hB2

set_option maxHeartbeats 1000000 in
theorem addExtension_any (base g n cap : Nat) (l : List UInt8) (mk ex : Bool) (ty nu ti so pa : Int) (pr : Nat) (cv : Value) (en py : ByteArray) (w : World)
    (hpr : pr < 65536) (hen : en.size ≤ 2000) (hroom : n + (if ex then 4 + en.size else 0) ≤ cap) (hB : Buf w base g n cap l) :
    Calls Tryz.prog 112 #[.slice (some ⟨g, 0, none⟩) n cap, .agg #[.bool mk, .int .i64 ty, .int .i64 nu, .int .i64 ti, .int .i64 so, cv, .bool ex, .int .i64 pr, .string en, .string py, .int .i64 pa]] w fun e w' =>
      e = .returned (.slice (some ⟨g, 0, none⟩) (n + (if ex then 4 + en.size else 0)) cap) ∧ Buf w' base g (n + (if ex then 4 + en.size else 0)) cap (l ++ extB ex pr en.data.toList) ∧ w.grownBy w' (some g) := by
  cases ex
  · go_enter Tryz.func112, Tryz.ntmps112
    go_wp2
    go_ret
    exact ⟨rfl, by simpa [extB] using hB.alloc _, World.grownBy_alloc _ _ _⟩
  · have hroom' : n + 4 + en.size ≤ cap := by simpa [Nat.add_assoc] using hroom
    have hne : w.heap.size ≠ g := by have := hB.lt; omega
    clear hroom
    have Hx : Hid (extB true pr en.data.toList = told pr 2 ++ told (en.size / 4) 2 ++ en.data.toList) := by show _ = _; rw [Lib.size_eq]; rfl
    go_enter Tryz.func112, Tryz.ntmps112
    go_wp2_with fail
    refine (addNumber_any base g n cap l pr 2 _ (by omega) (by omega) (by omega) (hB.alloc _)).mono ?_
    rintro e w1 ⟨rfl, hB1, hg1⟩
    have hc1 : ∀ o, w1.cell? ⟨w.heap.size, o, none⟩ = _ := fun o => World.cell?_of_block (a := ⟨w.heap.size, o, none⟩) (hg1.block w.heap.size (by simp) (by simpa using hne))
    go_wp2_with fail
    refine (addNumber_int base g (n + 2) cap _ _ 2 _ (by omega) (by omega) (by omega) (by omega) hB1).mono ?_
    rintro e w2 ⟨rfl, hB2, hg2⟩
    have hc2 : ∀ o, w2.cell? ⟨w.heap.size, o, none⟩ = w1.cell? ⟨w.heap.size, o, none⟩ := fun o => World.cell?_of_block (a := ⟨w.heap.size, o, none⟩) (hg2.block w.heap.size (by have := hg1.size; simp at this; omega) (by simpa using hne))
    go_wp2_with (at_builtin; refine wl_string rfl (.tmp 19) (.tmp 21) rfl rfl hB2 en rfl (by omega) ?_; intro w3 hB3 hg3)
    go_ret
    refine ⟨?_, ?_, grown_trans (World.grownBy_alloc _ _ _) (grown_trans hg1 (grown_trans hg2 hg3))⟩
    · simp [Nat.add_assoc]
    · have e : (((en.size : Int) / 4).toNat) = en.size / 4 := by omega
      rw [e] at hB3
      rw [Hx.out]
      simpa [Nat.add_assoc, List.append_assoc] using hB3

end Go.Proofs.YtdjhhnolcafkiaaGreat

/- The writer of a packet's head. -/
namespace Go.Proofs.YtdjhhnolcafkiaaGreat
open Go.RowKit Pk

theorem box_kept {w w' : World} {g : Nat} (h : w.grownBy w' (some g)) (b : Nat) (hb : b < w.heap.size) (hne : b ≠ g) : ∀ o, w'.cell? ⟨b, o, none⟩ = w.cell? ⟨b, o, none⟩ :=
  fun o => World.cell?_of_block (a := ⟨b, o, none⟩) (h.block b hb (by simpa using hne))

set_option maxHeartbeats 4000000 in
theorem addHead_any (base g n cap : Nat) (l : List UInt8) (mk ex pd : Bool) (ty nu ti so pa : Nat) (pr : Int) (cv : Value) (cl : List Int) (en py : ByteArray) (w : World)
    (hty : ty ≤ 127) (hnu : nu ≤ 65535) (hti : ti ≤ 4294967295) (hso : so ≤ 4294967295) (hcl : cl.length ≤ 15) (hci : allIn cl 4294967295 = true) (hv : IsInts base w cv cl)
    (hroom : n + (12 + 4 * cl.length) ≤ cap) (hpd0 : pd = decide (0 < pa)) (hB : Buf w base g n cap l) :
    Calls Tryz.prog 111 #[.slice (some ⟨g, 0, none⟩) n cap, .agg #[.bool mk, .int .i64 ty, .int .i64 nu, .int .i64 ti, .int .i64 so, cv, .bool ex, .int .i64 pr, .string en, .string py, .int .i64 pa]] w fun e w' =>
      e = .returned (.slice (some ⟨g, 0, none⟩) (n + (12 + 4 * cl.length)) cap) ∧ Buf w' base g (n + (12 + 4 * cl.length)) cap (l ++ headB cl.length mk pd ex ty nu ti so ++ conB cl) ∧ w.grownBy w' (some g) := by
  have hne : w.heap.size ≠ g := by have := hB.lt; omega
  have hbg : base ≤ g := hB.at.2.1
  have hBw : base ≤ w.heap.size := by have := hB.lt; omega
  obtain ⟨ao, cap2, rfl, hc⟩ := hv
  have Hc : Hid (∀ j, j < cl.length → ∃ b off, ao = some ⟨b, off, none⟩ ∧ b < base ∧ w.cell? ⟨b, off + j, none⟩ = some (.int .i64 (cl.getD j 0))) := hc
  have Hi : Hid (allIn cl 4294967295 = true) := hci
  have HB : Hid (Buf w base g n cap l) := hB
  clear hc hci
  have e1 := or_n cl.length hcl
  have e2 := or_32 cl.length hcl
  have e3 := or_16 cl.length hcl
  have e4 := or_48 cl.length hcl
  have e5 := or_128 ty hty
  clear hB
  have hcase : (pd = true ∧ 0 < pa) ∨ (pd = false ∧ pa = 0) := by
    cases pd
    · exact .inr ⟨rfl, by have := of_decide_eq_false hpd0.symm; omega⟩
    · exact .inl ⟨rfl, of_decide_eq_true hpd0.symm⟩
  clear hpd0
  rcases Bool.eq_false_or_eq_true ex with hex | hex <;> rcases Bool.eq_false_or_eq_true mk with hmk | hmk <;> rcases hcase with ⟨hpd, hpa⟩ | ⟨hpd, hpa⟩
  all_goals
    go_enter Tryz.func111, Tryz.ntmps111
    go_wp2_with (at_builtin; refine wl_bytes rfl (.tmp 28) (.tmp 33) rfl rfl (HB.out.alloc _ |>.alloc _) _ 2 2 [hdB cl.length pd ex, tyB ty mk] rfl rfl (new_two _ _ (by simp) _ _ _ _ _ ?_ ?_) (by omega) ?_; exact hd_val (pad := pd) (ex := ex) hcl (by simp [hpd, hex] <;> omega); exact ty_val (mk := mk) hty (by simp [hmk]); intro w1 hB1 hg1; have hc1 := box_kept (g := g) (grown_trans (World.grownBy_alloc _ _ _) hg1) w.heap.size (by simp) hne; clear e1 e2 e3 e4 e5)
    have hs1 : w.heap.size < w1.heap.size := by have := hg1.size; simp at this; omega
    refine (addNumber_any base g (n + 2) cap _ nu 2 _ (by omega) (by omega) (by omega) hB1).mono ?_
    rintro e w2 ⟨rfl, hB2, hg2⟩
    have hs2 : w.heap.size < w2.heap.size := Nat.lt_of_lt_of_le hs1 hg2.size
    have hc2 := box_kept hg2 w.heap.size hs1 hne
    go_wp2_with fail
    refine (addNumber_any base g (n + 2 + 2) cap _ ti 4 _ (by omega) (by omega) (by omega) hB2).mono ?_
    rintro e w3 ⟨rfl, hB3, hg3⟩
    have hs3 : w.heap.size < w3.heap.size := Nat.lt_of_lt_of_le hs2 hg3.size
    have hc3 := box_kept hg3 w.heap.size hs2 hne
    go_wp2_with fail
    refine (addNumber_any base g (n + 2 + 2 + 4) cap _ so 4 _ (by omega) (by omega) (by omega) hB3).mono ?_
    rintro e w4 ⟨rfl, hB4, hg4⟩
    have hc4 := box_kept hg4 w.heap.size hs3 hne
    have hg : w.grownBy w4 (some g) := grown_trans (World.grownBy_alloc _ _ _) (grown_trans (World.grownBy_alloc _ _ _) (grown_trans hg1 (grown_trans hg2 (grown_trans hg3 hg4))))
    have HB4 : Hid (Buf w4 base g (n + 12 + 4 * 0) cap (l ++ headB cl.length mk pd ex ty nu ti so ++ conB (cl.take 0))) := by
      have h := hB4
      simp only [Nat.add_assoc, List.append_assoc] at h
      simpa [Hid, headB, conB, Nat.add_assoc, List.append_assoc] using h
    go_wp2
    clear hc1 hc2 hc3 hc4 hg1 hg2 hg3 hg4 hB1 hB2 hB3 hB4 hs1 hs2 hs3
    go_loopw [0, 50] (fun v i wr => ∃ j : Nat, j ≤ cl.length ∧ i = .int .i64 j ∧ v = .slice (some ⟨g, 0, none⟩) (n + 12 + 4 * j) cap ∧ Buf wr base g (n + 12 + 4 * j) cap (l ++ headB cl.length mk pd ex ty nu ti so ++ conB (cl.take j)) ∧ w.grownBy wr (some g)) (fun _ i _ => cl.length - (intOf i).toNat)
    case atStart => exact ⟨0, Nat.zero_le _, rfl, rfl, HB4.out, hg⟩
    case round =>
      obtain ⟨j, hj, rfl, rfl, hBr, hgr⟩ := hrel
      by_cases hlt : j < cl.length
      · obtain ⟨b, off, rfl, hb, hcell⟩ := Hc.out j hlt
        have hcr : wr.cell? ⟨b, off + j, none⟩ = some (.int .i64 (cl.getD j 0)) := (box_kept hgr b (by omega) (by omega) (off + j)).trans hcell
        clear hcell
        have Hq := allIn_at cl j _ hlt Hi.out
        have Ht : Hid (conB (cl.take (j + 1)) = conB (cl.take j) ++ told (cl.getD j 0).toNat 4) := conB_take cl j hlt
        generalize cl.getD j 0 = q at *
        go_wp2_with fail
        refine (addNumber_int base g (n + 12 + 4 * j) cap _ q 4 _ (by omega) (by omega) (by omega) (by omega) hBr).mono ?_
        rintro e w5 ⟨rfl, hB5, hg5⟩
        go_wp2
        go_roundw
        case rel => exact ⟨j + 1, by omega, by go_num, rfl, by rw [Ht.out, ← List.append_assoc]; exact hB5, grown_trans hgr hg5⟩
        case measure => simp [intOf]; omega
      · have e : j = cl.length := by omega
        subst e
        go_wp2
        go_ret
        rw [List.take_length] at hBr
        exact ⟨ret_slice (by omega), by rw [← Nat.add_assoc]; exact hBr, hgr⟩

end Go.Proofs.YtdjhhnolcafkiaaGreat

/- A packet is told. -/
namespace Go.Proofs.YtdjhhnolcafkiaaGreat
open Go.RowKit Pk

theorem box_below {w w' : World} {B : Nat} (h : Below B w w') (b : Nat) (hb : b < B) : ∀ o, w'.cell? ⟨b, o, none⟩ = w.cell? ⟨b, o, none⟩ :=
  fun o => h.cell (p := ⟨b, o, none⟩) hb

theorem ret_two {a b : ByteArray} {x y : Int} (h : a = b) (k : x = y) : Ending.returned (.tuple #[.string a, .int .i64 x]) = .returned (.tuple #[.string b, .int .i64 y]) := by rw [h, k]

theorem packetLength_p (mk ex : Bool) (ty nu ti so pr pa : Int) (ao : Option Addr) (cl : List Int) (cap : Nat) (en py : ByteArray) (w : World) (hen : en.size ≤ 140737488355328) (hpy : py.size ≤ 140737488355328) (hn : cl.length ≤ 15) (hp0 : 0 ≤ pa) (hp1 : pa ≤ 255) :
    Calls Tryz.prog 110 #[.agg #[.bool mk, .int .i64 ty, .int .i64 nu, .int .i64 ti, .int .i64 so, .slice ao cl.length cap, .bool ex, .int .i64 pr, .string en, .string py, .int .i64 pa]] w
      fun e w' => e = .returned (.int .i64 (plen ex cl en py pa)) ∧ Below w.heap.size w w' := by
  refine (packetLength_any mk ex ty nu ti so pr pa ao cl.length cap en py w hen hpy hn hp0 hp1).mono ?_
  rintro e w' ⟨rfl, h⟩
  refine ⟨ret_int ?_, h⟩
  unfold plen
  cases ex <;> simp

theorem box_grown_none {w w' : World} (h : w.grownBy w' none) (b : Nat) (hb : b < w.heap.size) : ∀ o, w'.cell? ⟨b, o, none⟩ = w.cell? ⟨b, o, none⟩ :=
  fun o => World.cell?_of_block (a := ⟨b, o, none⟩) (h.block b hb (by simp))
theorem extOk_pr {ex : Bool} {pr : Int} {en : ByteArray} (h : extOk ex pr en = true) : 0 ≤ pr ∧ pr ≤ 65535 := by
  cases ex
  · rw [extOk_no, Bool.and_eq_true, decide_eq_true_eq] at h; omega
  · rw [extOk_yes, Bool.and_eq_true, decide_eq_true_eq] at h; exact h.1
theorem extOk_en {ex : Bool} {pr : Int} {en : ByteArray} (h : extOk ex pr en = true) : ex = false → en.size = 0 := by
  intro e
  subst e
  rw [extOk_no, Bool.and_eq_true, decide_eq_true_eq, decide_eq_true_eq] at h; exact h.2

set_option maxHeartbeats 4000000 in
theorem write_refused (mk ex : Bool) (ty nu ti so pr pa : Int) (cv : Value) (cl : List Int) (en py : ByteArray) (w : World) (B : Nat) (hBw : B ≤ w.heap.size) (hv : IsInts B w cv cl) (hl : cl.length ≤ 17592186044416)
    (hen : en.size ≤ maxLen) (hno : tellOk ex ty nu ti so pr pa cl en = false) :
    Calls Tryz.prog 93 #[.agg #[.bool mk, .int .i64 ty, .int .i64 nu, .int .i64 ti, .int .i64 so, cv, .bool ex, .int .i64 pr, .string en, .string py, .int .i64 pa]] w
      fun e w' => e = .returned (.tuple #[.string ⟨#[]⟩, .int .i64 2]) ∧ Below w.heap.size w w' := by
  have hvo : ∀ o, IsInts B (w.alloc o) cv cl := fun o => hv.alloc hBw o
  have Hv : Hid (∀ o, IsInts B (w.alloc o) cv cl) := hvo
  clear hvo
  obtain ⟨ao, cap, rfl, _⟩ := hv
  have Hno : Hid ((headOk ty nu ti so cl && extOk ex pr en && decide (0 ≤ pa ∧ pa ≤ 255)) = false) := hno
  clear hno
  go_enter Tryz.func93, Tryz.ntmps93
  go_wp2_with fail
  refine (headFits_any mk ex ty nu ti so pr pa _ cl en py _ B (by simp; omega) (Hv.out _) hl).mono ?_
  rintro e w1 ⟨rfl, hb1⟩
  have hc1 := box_below hb1 w.heap.size (by simp)
  have hw1 : w.heap.size < w1.heap.size := by have := hb1.size; simp at this; omega
  have Hb1 : Hid (Below w.heap.size w w1) := ((Below.refl _ _).alloc (Nat.le_refl _) _).trans (hb1.mono (by simp))
  cases hh : headOk ty nu ti so cl with
  | false =>
    go_wp2
    go_ret2
    exact ⟨rfl, Hb1.out⟩
  | true =>
    have Hh : Hid (headOk ty nu ti so cl = true) := hh
    clear hh
    go_wp2_with fail
    refine (extensionFits_any mk ex ty nu ti so pr pa _ en py _ hen).mono ?_
    rintro e w2 ⟨rfl, hb2⟩
    have hc2 := box_below hb2 w.heap.size hw1
    have Hb2 : Hid (Below w.heap.size w w2) := Hb1.out.trans (hb2.mono (Nat.le_of_lt hw1))
    cases hx : extOk ex pr en with
    | false =>
      go_wp2
      go_ret2
      exact ⟨rfl, Hb2.out⟩
    | true =>
      have hpa : ¬ (0 ≤ pa ∧ pa ≤ 255) := by
        have h := Hno.out
        rw [Hh.out, hx] at h
        simpa using h
      have Hd : Hid (decide (0 ≤ pa ∧ pa ≤ 255) = false) := decide_eq_false hpa
      clear hx hpa
      go_wp2_with fail
      refine (within_any _ _ _).mono ?_
      rintro e w3 ⟨rfl, rfl⟩
      rw [Hd.out]
      go_wp2
      go_ret2
      exact ⟨rfl, Hb2.out⟩

set_option maxHeartbeats 4000000 in
theorem write_long (mk ex : Bool) (ty nu ti so pr pa : Int) (cv : Value) (cl : List Int) (en py : ByteArray) (w : World) (B : Nat) (hBw : B ≤ w.heap.size) (hv : IsInts B w cv cl) (hl : cl.length ≤ 17592186044416)
    (hen : en.size ≤ 140737488355328) (hpy : py.size ≤ 140737488355328) (hok : tellOk ex ty nu ti so pr pa cl en = true) (hlen : 1500 < plen ex cl en py pa) :
    Calls Tryz.prog 93 #[.agg #[.bool mk, .int .i64 ty, .int .i64 nu, .int .i64 ti, .int .i64 so, cv, .bool ex, .int .i64 pr, .string en, .string py, .int .i64 pa]] w
      fun e w' => e = .returned (.tuple #[.string ⟨#[]⟩, .int .i64 1]) ∧ Below w.heap.size w w' := by
  have hvo : ∀ o, IsInts B (w.alloc o) cv cl := fun o => hv.alloc hBw o
  have Hv : Hid (∀ o, IsInts B (w.alloc o) cv cl) := hvo
  clear hvo
  obtain ⟨ao, cap, rfl, _⟩ := hv
  simp only [tellOk, Bool.and_eq_true, decide_eq_true_eq] at hok
  obtain ⟨⟨hh, hx⟩, hp0, hp1⟩ := hok
  have Hd : Hid (decide (0 ≤ pa ∧ pa ≤ 255) = true) := decide_eq_true ⟨hp0, hp1⟩
  have Hh : Hid (headOk ty nu ti so cl = true) := hh
  have Hx : Hid (extOk ex pr en = true) := hx
  obtain ⟨hty, hnu, hti, hso, hcl, hci⟩ := headOk_of hh
  have Hi : Hid (allIn cl 4294967295 = true) := hci
  have Hlen : Hid (1500 < plen ex cl en py pa) := hlen
  clear hh hx hci hlen
  go_enter Tryz.func93, Tryz.ntmps93
  go_wp2_with fail
  refine (headFits_any mk ex ty nu ti so pr pa _ cl en py _ B (by simp; omega) (Hv.out _) hl).mono ?_
  rintro e w1 ⟨rfl, hb1⟩
  rw [Hh.out]
  have hc1 := box_below hb1 w.heap.size (by simp)
  have hw1 : w.heap.size < w1.heap.size := by have := hb1.size; simp at this; omega
  have Hb1 : Hid (Below w.heap.size w w1) := ((Below.refl _ _).alloc (Nat.le_refl _) _).trans (hb1.mono (by simp))
  go_wp2_with fail
  refine (extensionFits_any mk ex ty nu ti so pr pa _ en py _ (by unfold maxLen; omega)).mono ?_
  rintro e w2 ⟨rfl, hb2⟩
  rw [Hx.out]
  have hc2 := box_below hb2 w.heap.size hw1
  have hw2 : w.heap.size < w2.heap.size := Nat.lt_of_lt_of_le hw1 hb2.size
  have Hb2 : Hid (Below w.heap.size w w2) := Hb1.out.trans (hb2.mono (Nat.le_of_lt hw1))
  go_wp2_with fail
  refine (within_any _ _ _).mono ?_
  rintro e w3 ⟨rfl, rfl⟩
  rw [Hd.out]
  go_wp2_with fail
  refine (packetLength_p mk ex ty nu ti so pr pa _ cl _ en py _ hen hpy hcl hp0 hp1).mono ?_
  rintro e w3 ⟨rfl, hb3⟩
  have hc3 := box_below hb3 w.heap.size hw2
  have hw3 : w.heap.size < w3.heap.size := Nat.lt_of_lt_of_le hw2 hb3.size
  have Hb3 : Hid (Below w.heap.size w w3) := Hb2.out.trans (hb3.mono (Nat.le_of_lt hw2))
  have hL := Hlen.out
  generalize plen ex cl en py pa = L at *
  go_wp2
  go_ret2
  exact ⟨rfl, Hb3.out⟩

set_option maxHeartbeats 4000000 in
theorem write_ok (mk ex : Bool) (ty nu ti so pr pa : Int) (cv : Value) (cl : List Int) (en py : ByteArray) (w : World) (B : Nat) (hBw : B ≤ w.heap.size) (hv : IsInts B w cv cl) (hl : cl.length ≤ 17592186044416)
    (hen : en.size ≤ 140737488355328) (hpy : py.size ≤ 140737488355328) (hok : tellOk ex ty nu ti so pr pa cl en = true) (hlen : plen ex cl en py pa ≤ 1500) :
    Calls Tryz.prog 93 #[.agg #[.bool mk, .int .i64 ty, .int .i64 nu, .int .i64 ti, .int .i64 so, cv, .bool ex, .int .i64 pr, .string en, .string py, .int .i64 pa]] w
      fun e w' => e = .returned (.tuple #[.string ⟨(tellB mk ex ty nu ti so pr pa cl en py).toArray⟩, .int .i64 0]) ∧ Below w.heap.size w w' := by
  have hvo : ∀ o, IsInts B (w.alloc o) cv cl := fun o => hv.alloc hBw o
  have Hv : Hid (∀ o, IsInts B (w.alloc o) cv cl) := hvo
  clear hvo
  have Hv0 : Hid (IsInts B w cv cl) := hv
  obtain ⟨ao, cap, rfl, _⟩ := hv
  simp only [tellOk, Bool.and_eq_true, decide_eq_true_eq] at hok
  obtain ⟨⟨hh, hx⟩, hp0, hp1⟩ := hok
  have Hd : Hid (decide (0 ≤ pa ∧ pa ≤ 255) = true) := decide_eq_true ⟨hp0, hp1⟩
  have Hh : Hid (headOk ty nu ti so cl = true) := hh
  have Hx : Hid (extOk ex pr en = true) := hx
  obtain ⟨hty, hnu, hti, hso, hcl, hci⟩ := headOk_of hh
  have Hi : Hid (allIn cl 4294967295 = true) := hci
  have hpr := extOk_pr hx
  have hxl : (if ex then 4 + en.size else 0) + (12 + 4 * cl.length) + py.size + pa.toNat ≤ 1500 ∧ en.size ≤ 1500 ∧ py.size ≤ 1500 := by
    unfold plen at hlen
    cases ex
    · have h2 := extOk_en hx rfl
      simp at hlen ⊢; omega
    · simp at hlen ⊢; omega
  obtain ⟨ty, rfl⟩ := Int.eq_ofNat_of_zero_le hty.1
  obtain ⟨nu, rfl⟩ := Int.eq_ofNat_of_zero_le hnu.1
  obtain ⟨ti, rfl⟩ := Int.eq_ofNat_of_zero_le hti.1
  obtain ⟨so, rfl⟩ := Int.eq_ofNat_of_zero_le hso.1
  obtain ⟨pr, rfl⟩ := Int.eq_ofNat_of_zero_le hpr.1
  obtain ⟨pa, rfl⟩ := Int.eq_ofNat_of_zero_le hp0
  have Hbytes : Hid (tellB mk ex ty nu ti so pr pa cl en py = headB cl.length mk (decide (0 < pa)) ex ty nu ti so ++ conB cl ++ extB ex pr en.data.toList ++ py.data.toList ++ padB pa) := by
    show _ = _
    have e : decide (0 < (pa : Int)) = decide (0 < pa) := by simp
    unfold tellB
    rw [e]
    rfl
  have HL2 : Hid ((plen ex cl en py pa).toNat = 12 + 4 * cl.length + (if ex then 4 + en.size else 0) + py.size + pa) := by
    show _ = _
    unfold plen
    cases ex <;> simp <;> omega
  rw [Hbytes.out]
  have Hlen : Hid (plen ex cl en py pa ≤ 1500) := hlen
  clear hh hx hci hlen
  go_enter Tryz.func93, Tryz.ntmps93
  go_wp2_with fail
  refine (headFits_any mk ex _ _ _ _ _ _ _ cl en py _ B (by simp; omega) (Hv.out _) hl).mono ?_
  rintro e w1 ⟨rfl, hb1⟩
  rw [Hh.out]
  have hc1 := box_below hb1 w.heap.size (by simp)
  have hw1 : w.heap.size < w1.heap.size := by have := hb1.size; simp at this; omega
  have Hb1 : Hid (Below w.heap.size w w1) := ((Below.refl _ _).alloc (Nat.le_refl _) _).trans (hb1.mono (by simp))
  go_wp2_with fail
  refine (extensionFits_any mk ex _ _ _ _ _ _ _ en py _ (by unfold maxLen; omega)).mono ?_
  rintro e w2 ⟨rfl, hb2⟩
  rw [Hx.out]
  have hc2 := box_below hb2 w.heap.size hw1
  have hw2 : w.heap.size < w2.heap.size := Nat.lt_of_lt_of_le hw1 hb2.size
  have Hb2 : Hid (Below w.heap.size w w2) := Hb1.out.trans (hb2.mono (Nat.le_of_lt hw1))
  go_wp2_with fail
  refine (within_any _ _ _).mono ?_
  rintro e w3 ⟨rfl, rfl⟩
  rw [Hd.out]
  go_wp2_with fail
  refine (packetLength_p mk ex _ _ _ _ _ _ _ cl _ en py _ hen hpy hcl hp0 hp1).mono ?_
  rintro e w3 ⟨rfl, hb3⟩
  have hc3 := box_below hb3 w.heap.size hw2
  have hw3 : w.heap.size < w3.heap.size := Nat.lt_of_lt_of_le hw2 hb3.size
  have Hb3 : Hid (Below w.heap.size w w3) := Hb2.out.trans (hb3.mono (Nat.le_of_lt hw2))
  have hL := Hlen.out
  have hL0 : 12 ≤ plen ex cl en py pa := by unfold plen; split <;> omega
  obtain ⟨L, hLe⟩ : ∃ L : Nat, plen ex cl en py pa = L := ⟨(plen ex cl en py pa).toNat, by omega⟩
  rw [hLe] at hL hL0
  have HLe : Hid (plen ex cl en py pa = L) := hLe
  rw [hLe]
  clear hLe
  have hLn : L = 12 + 4 * cl.length + (if ex then 4 + en.size else 0) + py.size + pa := by have h := HL2.out; rw [HLe.out] at h; simpa using h
  generalize hxe : (if ex then 4 + en.size else 0) = xe at *
  have Hxe : Hid ((if ex then 4 + en.size else 0) = xe) := hxe
  have HLn : Hid (L = 12 + 4 * cl.length + xe + py.size + pa) := hLn
  have hLge : 12 + 4 * cl.length + xe + py.size + pa ≤ L := Nat.le_of_eq hLn.symm
  clear hxe hLn
  have hinfo : (Tryz.prog.info? 5).map (fun i => (i.zero, i.size, i.bytes)) = some (some (.int .u8 0), 1, 1) := by kernel_rfl
  obtain ⟨i0, hi, hz0, hz1, hz2⟩ := info_parts hinfo
  have Hm : Hid (i0.bytes * L ≤ 281474976710656) := by show _ ≤ _; rw [hz2]; omega
  have Hhi : Hid (Tryz.prog.info? 5 = some i0 ∧ i0.zero = some (.int .u8 0) ∧ i0.size = 1) := ⟨hi, hz0, hz1⟩
  clear hi hz0 hz1 hz2 hinfo
  go_wp2_with (at_make; refine wpList_make_own _ rfl (.const (.int .i64 0)) (.tmp 24) 166 rfl w.heap.size 5 i0 (.int .u8 0) 1 Tryz.underlying166 Hhi.out.1 Hhi.out.2.1 Hhi.out.2.2 .i64 .i64 _ L rfl rfl rfl Hm.out (by unfold maxLen; omega) (Nat.le_of_lt hw3) ?_; intro w4 hown4 hg4; have hc4 := box_grown_none hg4 w.heap.size hw3)
  have HB4 : Hid (Buf w4 w.heap.size w3.heap.size 0 L []) := ⟨rfl, hown4⟩
  have hw4 : w.heap.size < w4.heap.size := Nat.lt_of_lt_of_le hw3 hg4.size
  have hne : w.heap.size ≠ w3.heap.size := by omega
  have Hb4 : Hid (Below w.heap.size w w4) := Hb3.out.trans ((Below.refl _ _).grown hg4 (Nat.le_of_lt hw3) (by simp))
  have Hv4 : Hid (IsInts w.heap.size w4 (.slice ao cl.length cap) cl) := (Hv0.out.mono hBw).carry Hb4.out
  clear hown4 hg4
  generalize w3.heap.size = g at *
  refine (addHead_any w.heap.size g 0 L [] mk ex (decide (0 < pa)) ty nu ti so pa _ _ cl en py _ (by omega) (by omega) (by omega) (by omega) hcl Hi.out Hv4.out (by omega) rfl HB4.out).mono ?_
  rintro e w5 ⟨rfl, hB5, hg5⟩
  have hc5 := box_kept hg5 w.heap.size hw4 hne
  have hw5 : w.heap.size < w5.heap.size := Nat.lt_of_lt_of_le hw4 hg5.size
  have Hb5 : Hid (Below w.heap.size w w5) := Hb4.out.trans ((Below.refl _ _).grown hg5 (Nat.le_of_lt hw4) (by intro k hk; cases hk; omega))
  rw [Nat.zero_add]
  rw [Nat.zero_add, List.nil_append] at hB5
  have HB5 : Hid (Buf w5 w.heap.size g (12 + 4 * cl.length) L (headB cl.length mk (decide (0 < pa)) ex ty nu ti so ++ conB cl)) := hB5
  clear hB5
  go_wp2_with fail
  refine (addExtension_any w.heap.size g (12 + 4 * cl.length) L _ mk ex _ _ _ _ _ pr _ en py _ (by omega) (by omega) (by rw [Hxe.out]; omega) HB5.out).mono ?_
  rw [Hxe.out]
  rintro e w6 ⟨rfl, hB6, hg6⟩
  have hc6 := box_kept hg6 w.heap.size hw5 hne
  have hw6 : w.heap.size < w6.heap.size := Nat.lt_of_lt_of_le hw5 hg6.size
  have Hb6 : Hid (Below w.heap.size w w6) := Hb5.out.trans ((Below.refl _ _).grown hg6 (Nat.le_of_lt hw5) (by intro k hk; cases hk; omega))
  clear hg6 hg5
  go_wp2_with (at_builtin; refine wl_string rfl (.tmp 32) (.tmp 34) rfl rfl hB6 py rfl (by omega) ?_; intro w7 hB7 hg7; have hc7 := box_kept hg7 w.heap.size hw6 hne)
  have hw7 : w.heap.size < w7.heap.size := Nat.lt_of_lt_of_le hw6 hg7.size
  have Hb7 : Hid (Below w.heap.size w w7) := Hb6.out.trans ((Below.refl _ _).grown hg7 (Nat.le_of_lt hw6) (by intro k hk; cases hk; omega))
  refine (addPadding_any w.heap.size g (12 + 4 * cl.length + xe + py.size) L _ pa _ (by omega) (by omega) hB7).mono ?_
  rintro e w8 ⟨rfl, hB8, hg8⟩
  have Hb8 : Hid (Below w.heap.size w w8) := Hb7.out.trans ((Below.refl _ _).grown hg8 (Nat.le_of_lt hw7) (by intro k hk; cases hk; omega))
  have htx := run_text hB8
  clear hg7 hg8 hB8 hB7 hB6
  go_wp2
  go_ret2
  exact ⟨ret_two (by simp only [List.append_assoc]) rfl, Hb8.out⟩

theorem writePacket_any (mk ex : Bool) (ty nu ti so pr pa : Int) (cv : Value) (cl : List Int) (en py : ByteArray) (w : World) (B : Nat) (hBw : B ≤ w.heap.size) (hv : IsInts B w cv cl) (hl : cl.length ≤ 17592186044416)
    (hen : en.size ≤ 140737488355328) (hpy : py.size ≤ 140737488355328) :
    Calls Tryz.prog 93 #[.agg #[.bool mk, .int .i64 ty, .int .i64 nu, .int .i64 ti, .int .i64 so, cv, .bool ex, .int .i64 pr, .string en, .string py, .int .i64 pa]] w
      fun e w' => e = .returned (.tuple #[.string (tellR mk ex ty nu ti so pr pa cl en py).1, .int .i64 (tellR mk ex ty nu ti so pr pa cl en py).2]) ∧ Below w.heap.size w w' := by
  unfold tellR
  cases h : tellOk ex ty nu ti so pr pa cl en with
  | false =>
    rw [if_neg (by simp)]
    exact write_refused mk ex ty nu ti so pr pa cv cl en py w B hBw hv hl (by unfold maxLen; omega) h
  | true =>
    rw [if_pos rfl]
    by_cases hL : 1500 < plen ex cl en py pa
    · rw [if_pos hL]
      exact write_long mk ex ty nu ti so pr pa cv cl en py w B hBw hv hl hen hpy h hL
    · rw [if_neg hL]
      exact write_ok mk ex ty nu ti so pr pa cv cl en py w B hBw hv hl hen hpy h (by omega)

end Go.Proofs.YtdjhhnolcafkiaaGreat

/- wire.WriteAsking, mender.TellAsking: an asking as bytes. -/
namespace Go.Proofs.YtdjhhnolcafkiaaGreat
open Go.RowKit
namespace Pk

end Pk
open Pk

theorem rowN_mono {a : World} {base base' e size n : Nat} {v : Value} {xs : List Value} (ho : a.ownsRow base e size v n xs) (hb : base' ≤ base) : a.ownsRow base' e size v n xs := by
  obtain ⟨h1, h2 | ⟨g, cap, cur, rfl, hg, r⟩⟩ := ho
  · exact ⟨h1, .inl h2⟩
  · exact ⟨h1, .inr ⟨g, cap, cur, rfl, by omega, r⟩⟩

end Go.Proofs.YtdjhhnolcafkiaaGreat

/- One text for each packet, one packet for each text: plain facts. -/
namespace Go.Proofs.YtdjhhnolcafkiaaGreat
namespace Pk

theorem told_num (n : Nat) : ∀ l : List UInt8, l.length = n → told (num l) n = l := by
  induction n with
  | zero => intro l h; rw [List.eq_nil_of_length_eq_zero h]; rfl
  | succ n ih =>
    intro l h
    obtain ⟨i, b, rfl⟩ : ∃ i b, l = i ++ [b] := ⟨l.dropLast, l.getLast (by intro e; subst e; simp at h), (List.dropLast_concat_getLast _).symm⟩
    have hi : i.length = n := by simpa using h
    have hb := b.toNat_lt
    rw [num_snoc, told, show (num i * 256 + b.toNat) / 256 = num i by omega, ih i hi, show (num i * 256 + b.toNat) % 256 = b.toNat by omega, UInt8.ofNat_toNat]

theorem conB_words (n : Nat) : ∀ l : List UInt8, l.length = 4 * n → conB (words l) = l := by
  induction n with
  | zero => intro l h; rw [List.eq_nil_of_length_eq_zero (l := l) (by omega)]; rfl
  | succ n ih =>
    intro l h
    rw [words_step l (by omega), conB, ih (l.drop 4) (by rw [List.length_drop]; omega), Int.toNat_natCast, told_num 4 (l.take 4) (by rw [List.length_take]; omega), List.take_append_drop]
theorem words_in (n : Nat) : ∀ l : List UInt8, l.length = 4 * n → allIn (words l) 4294967295 = true := by
  induction n with
  | zero => intro l h; rw [words_stop l (by omega)]; rfl
  | succ n ih =>
    intro l h
    have hn := num_lt (l.take 4)
    have hl : (l.take 4).length = 4 := by rw [List.length_take]; omega
    rw [hl] at hn
    have h2 := ih (l.drop 4) (by rw [List.length_drop]; omega)
    rw [words_step l (by omega)]
    simp only [allIn, List.all_cons, Bool.and_eq_true, decide_eq_true_eq]
    exact ⟨by omega, h2⟩

theorem noughts_rep (n : Nat) : noughts (List.replicate n 0) = true := by simp [noughts]
theorem rep_noughts (l : List UInt8) (h : noughts l = true) : l = List.replicate l.length 0 := by
  apply List.eq_replicate_of_mem
  simpa [noughts] using h

theorem cutAt {α : Type} (l : List α) (a b : Nat) (h : a ≤ b) : l.drop a = (l.drop a).take (b - a) ++ l.drop b := by
  have e : l.drop b = (l.drop a).drop (b - a) := by rw [List.drop_drop]; congr 1; omega
  rw [e, List.take_append_drop]

theorem ext_told (s : ByteArray) (pr a1 : Nat) (en : ByteArray) (h0 : at0 s ≤ s.size) (h : extPart s = some (pr, en, a1)) :
    extOk (decide ((B0 s).toNat / 16 % 2 = 1)) pr en = true ∧ (s.data.toList.drop (at0 s)).take (a1 - at0 s) = extB (decide ((B0 s).toNat / 16 % 2 = 1)) pr en.data.toList ∧ at0 s ≤ a1 ∧ a1 ≤ s.size := by
  unfold extPart at h
  by_cases hx : (B0 s).toNat / 16 % 2 = 1
  · rw [if_pos hx] at h
    rw [decide_eq_true hx]
    by_cases h4 : s.size - at0 s < 4
    · rw [if_pos h4] at h; cases h
    · rw [if_neg h4] at h
      by_cases hL : s.size - (at0 s + 4) < extLen s
      · rw [if_pos hL] at h; cases h
      · rw [if_neg hL, Option.some.injEq, Prod.mk.injEq, Prod.mk.injEq] at h
        obtain ⟨h1, h2, h3⟩ := h
        have hen : en.data.toList = (s.data.toList.drop (at0 s + 4)).take (extLen s) := by
          rw [← h2, Lib.extract_data]; congr 1; omega
        have hel : en.size = extLen s := by
          rw [Lib.size_eq, hen, List.length_take, List.length_drop, ← Lib.size_eq]; omega
        have hp : told pr 2 = (s.data.toList.drop (at0 s)).take 2 := by
          rw [← h1, Lib.extract_data, show at0 s + 2 - at0 s = 2 by omega]
          exact told_num 2 _ (by rw [List.length_take, List.length_drop, ← Lib.size_eq]; omega)
        have hm : told (en.data.toList.length / 4) 2 = (s.data.toList.drop (at0 s + 2)).take 2 := by
          rw [← Lib.size_eq, hel]
          unfold extLen
          rw [Nat.mul_div_cancel_left _ (by omega), Lib.extract_data, show at0 s + 4 - (at0 s + 2) = 2 by omega]
          exact told_num 2 _ (by rw [List.length_take, List.length_drop, ← Lib.size_eq]; omega)
        have hpr : pr < 65536 := by
          have := num_lt (s.extract (at0 s) (at0 s + 2)).data.toList
          have h5 : (s.extract (at0 s) (at0 s + 2)).data.toList.length = 2 := by rw [← Lib.size_eq, ByteArray.size_extract]; omega
          rw [h5, h1] at this
          omega
        refine ⟨?_, ?_, by omega, by omega⟩
        · rw [extOk_yes, Bool.and_eq_true, decide_eq_true_eq, decide_eq_true_eq, hel]
          unfold extLen
          omega
        · unfold extB
          rw [if_pos rfl, hp, hm, hen, show a1 - at0 s = 2 + (2 + extLen s) by omega, List.take_add, List.take_add, List.drop_drop, List.drop_drop, List.append_assoc]
  · rw [if_neg hx, Option.some.injEq, Prod.mk.injEq, Prod.mk.injEq] at h
    obtain ⟨h1, h2, h3⟩ := h
    subst h1 h2 h3
    rw [decide_eq_false hx]
    refine ⟨rfl, ?_, by omega, h0⟩
    simp [extB]

theorem pad_told (s : ByteArray) (a pa fin : Nat) (h0 : a ≤ s.size) (h1 : 12 ≤ s.size) (h : padPart s a = some (pa, fin)) :
    s.data.toList.drop fin = padB pa ∧ a ≤ fin ∧ fin ≤ s.size ∧ pa ≤ 255 ∧ decide (0 < pa) = decide ((B0 s).toNat / 32 % 2 = 1) := by
  unfold padPart at h
  by_cases hx : (B0 s).toNat / 32 % 2 = 1
  · rw [if_pos hx] at h
    rw [decide_eq_true hx]
    by_cases h2 : (Bl s).toNat = 0 ∨ s.size - a < (Bl s).toNat
    · rw [if_pos h2] at h; cases h
    · rw [if_neg h2] at h
      by_cases hN : noughts (s.extract (s.size - (Bl s).toNat) (s.size - 1)).data.toList = true
      · rw [if_pos hN, Option.some.injEq, Prod.mk.injEq] at h
        obtain ⟨h3, h4⟩ := h
        rw [h3] at h2 hN h4
        have hb := (Bl s).toNat_lt
        have hl : s.data.toList.length = s.size := (Lib.size_eq s).symm
        refine ⟨?_, by omega, by omega, by omega, decide_eq_true (by omega)⟩
        rw [cutAt s.data.toList fin (s.size - 1) (by omega)]
        have e1 : (s.data.toList.drop fin).take (s.size - 1 - fin) = List.replicate (pa - 1) 0 := by
          have h5 := rep_noughts _ hN
          rw [Lib.extract_data, h4, List.length_take, List.length_drop, hl] at h5
          rw [h5]
          congr 1
          omega
        have e2 : s.data.toList.drop (s.size - 1) = [UInt8.ofNat pa] := by
          rw [List.drop_eq_getElem_cons (by omega), List.drop_of_length_le (by omega)]
          have h6 : s.data.toList[s.size - 1]'(by omega) = Bl s := by
            unfold Bl
            rw [List.getD_eq_getElem?_getD, List.getElem?_eq_getElem (by omega)]
            rfl
          rw [h6, ← h3, UInt8.ofNat_toNat]
        rw [e1, e2]
        unfold padB
        rw [if_neg (by omega)]
      · rw [if_neg hN] at h; cases h
  · rw [if_neg hx, Option.some.injEq, Prod.mk.injEq] at h
    obtain ⟨h3, h4⟩ := h
    subst h3 h4
    rw [decide_eq_false hx]
    refine ⟨?_, h0, by omega, by omega, rfl⟩
    rw [List.drop_of_length_le (by rw [← Lib.size_eq]; omega)]
    rfl

end Pk
end Go.Proofs.YtdjhhnolcafkiaaGreat

/- What a report is read as, and that an asking for numbers that rise is read as it was: plain facts. -/
namespace Go.Proofs.YtdjhhnolcafkiaaGreat
namespace Pk

/-! an asking is read again -/
/-! numbers that rise -/
end Pk
end Go.Proofs.YtdjhhnolcafkiaaGreat

/- wire.findBits, addSet: the bits of a byte, and their numbers. -/
namespace Go.Proofs.YtdjhhnolcafkiaaGreat
open Go.RowKit
namespace Pk

theorem cell_new (w : World) (xs : Array Value) (t : TypeId) (o : Nat) : (w.alloc (.cells xs t)).cell? ⟨w.heap.size, o, none⟩ = xs[o]? :=
  cell_of_row _ w.heap.size o xs t (0, 0) (heap_alloc_new w _)
theorem frozen_new (w : World) (xs : Array Value) (t : TypeId) (o : Nat) : (w.alloc (.cells xs t)).frozen? ⟨w.heap.size, o, none⟩ = false := by
  unfold World.frozen?
  rw [heap_alloc_new]
  simp
theorem cell_newAt (w : World) (xs : Array Value) (t : TypeId) (k o : Nat) (hk : w.heap.size = k) : (w.alloc (.cells xs t)).cell? ⟨k, o, none⟩ = xs[o]? := by subst hk; exact cell_new w xs t o
theorem frozen_newAt (w : World) (xs : Array Value) (t : TypeId) (k o : Nat) (hk : w.heap.size = k) : (w.alloc (.cells xs t)).frozen? ⟨k, o, none⟩ = false := by subst hk; exact frozen_new w xs t o
end Pk
open Pk

end Go.Proofs.YtdjhhnolcafkiaaGreat

/- (*stream[kept]).find: where a number is listed. -/
namespace Go.Proofs.YtdjhhnolcafkiaaGreat
open Go.RowKit Pk

set_option maxHeartbeats 1000000 in
theorem find1K_any (x : Kp) (num B : Nat) (W : World) (hc : W.cell? ⟨B, 0, none⟩ = some (.int .u16 num)) :
    Calls Tryz.prog 133 #[.agg #[.int .u16 x.n, .bool x.x.mrk, .int .i64 x.x.ty, .int .i64 x.x.nu, .int .i64 x.x.ti, .int .i64 x.x.so, x.cv, .bool x.x.ex, .int .i64 x.x.pr, .string x.x.en, .string x.x.py, .int .i64 x.x.pa, .int .i64 x.rests], .pointer (some ⟨B, 0, none⟩)] W fun e w' => e = .returned (.bool (decide (x.n = num))) ∧ Below W.heap.size W w' := by
  have hne : B ≠ W.heap.size := by have := lt_of_cell hc; simp only at this; omega
  have hlt : B < W.heap.size := lt_of_cell hc
  have Heq : Hid (((x.n : Int) == (num : Int)) = decide (x.n = num)) := by
    show _ = _
    rw [Bool.eq_iff_iff]
    simp only [beq_iff_eq, decide_eq_true_eq]
    omega
  go_enter Tryz.func133, Tryz.ntmps133
  go_wp2
  go_ret
  exact ⟨ret_bool (by first | exact Heq.out | simpa using Heq.out), (Below.refl _ _).alloc (Nat.le_refl _) _⟩

set_option maxRecDepth 20000 in
set_option maxHeartbeats 2000000 in
theorem indexK_any (base : Nat) (v : Value) (l : List Kp) (num B : Nat) (w : World) (hown : w.ownsRow base 194 13 v l.length (l.flatMap cellsK)) (hc : w.cell? ⟨B, 0, none⟩ = some (.int .u16 num)) (hn : l.length ≤ 100000) :
    Calls Tryz.prog 132 #[v, .func (.func 133) #[] #[.pointer (some ⟨B, 0, none⟩)]] w fun e w' => e = .returned (.int .i64 (posF num (l.map (·.n)))) ∧ Below w.heap.size w w' := by
  obtain ⟨ao, cap, rfl⟩ := rowA_shape hown
  have Hown := Pk.hid hown
  have Hc := Pk.hid hc
  clear hown hc
  go_enter Tryz.func132, Tryz.ntmps132
  go_wp2
  go_loopw [8] (fun s8 wr => ∃ k : Nat, k ≤ l.length ∧ s8 = .int .i64 k ∧ (∀ m (hm : m < l.length), m < k → (l[m]).n ≠ num) ∧ Below w.heap.size w wr) (fun s8 _ => l.length - (intOf s8).toNat)
  case atStart => exact ⟨0, Nat.zero_le _, rfl, fun m _ hm => by omega, Below.refl _ _⟩
  case round =>
    obtain ⟨k, hk, rfl, hno, hbel⟩ := hrel
    have Hno := Pk.hid hno
    have Hbel := Pk.hid hbel
    clear hno hbel
    by_cases hlt : k < l.length
    · have hlt' : (k : Int) < l.length := by omega
      obtain ⟨g, rfl⟩ := rowA_some Hown.out (by omega)
      have hglt : g < w.heap.size := (Hown.out.lt g rfl).2
      obtain ⟨x, hx⟩ : ∃ x, l[k] = x := ⟨_, rfl⟩
      have at_ : ∀ j, j < 13 → ∀ u, (cellsK x)[j]? = some u → wr.cell? ⟨g, k * 13 + j, none⟩ = some u := fun j hj u hu => by
        refine (Hbel.out.cell (p := ⟨g, k * 13 + j, none⟩) hglt).trans ?_
        rw [Hown.out.cellAt (k * 13 + j) (by omega), flat_at cellsK_len l k j hlt hj, hx]
        exact hu
      have d0 : wr.cell? ⟨g, k * 13, none⟩ = some (.int .u16 x.n) := at_ 0 (by omega) _ rfl
      have d1 : wr.cell? ⟨g, k * 13 + 1, none⟩ = some (.bool x.x.mrk) := at_ 1 (by omega) _ rfl
      have d2 : wr.cell? ⟨g, k * 13 + 2, none⟩ = some (.int .i64 x.x.ty) := at_ 2 (by omega) _ rfl
      have d3 : wr.cell? ⟨g, k * 13 + 3, none⟩ = some (.int .i64 x.x.nu) := at_ 3 (by omega) _ rfl
      have d4 : wr.cell? ⟨g, k * 13 + 4, none⟩ = some (.int .i64 x.x.ti) := at_ 4 (by omega) _ rfl
      have d5 : wr.cell? ⟨g, k * 13 + 5, none⟩ = some (.int .i64 x.x.so) := at_ 5 (by omega) _ rfl
      have d6 : wr.cell? ⟨g, k * 13 + 6, none⟩ = some (x.cv) := at_ 6 (by omega) _ rfl
      have d7 : wr.cell? ⟨g, k * 13 + 7, none⟩ = some (.bool x.x.ex) := at_ 7 (by omega) _ rfl
      have d8 : wr.cell? ⟨g, k * 13 + 8, none⟩ = some (.int .i64 x.x.pr) := at_ 8 (by omega) _ rfl
      have d9 : wr.cell? ⟨g, k * 13 + 9, none⟩ = some (.string x.x.en) := at_ 9 (by omega) _ rfl
      have d10 : wr.cell? ⟨g, k * 13 + 10, none⟩ = some (.string x.x.py) := at_ 10 (by omega) _ rfl
      have d11 : wr.cell? ⟨g, k * 13 + 11, none⟩ = some (.int .i64 x.x.pa) := at_ 11 (by omega) _ rfl
      have d12 : wr.cell? ⟨g, k * 13 + 12, none⟩ = some (.int .i64 x.rests) := at_ 12 (by omega) _ rfl
      have hcB : wr.cell? ⟨B, 0, none⟩ = some (.int .u16 num) := (Hbel.out.cell (p := ⟨B, 0, none⟩) (lt_of_cell Hc.out)).trans Hc.out
      have Hx := Pk.hid hx
      clear at_ hx
      go_wp2_with fail
      refine (find1K_any x num B _ hcB).mono ?_
      rintro e w1 ⟨rfl, hb1⟩
      have Hb1 : Hid (Below w.heap.size w w1) := Hbel.out.trans (hb1.mono Hbel.out.size)
      clear hb1 d0 d1 d2 d3 d4 d5 d6 d7 d8 d9 d10 d11 d12 hcB
      by_cases he : x.n = num
      · rw [decide_eq_true he]
        have Hp : Hid (posF num (l.map (·.n)) = (k : Int)) := by
          refine posF_at num (l.map (·.n)) k (by simpa using hlt) (fun m hm => ?_) ?_
          · rw [List.getElem_map]; exact Hno.out m (by omega) hm
          · rw [List.getElem_map, Hx.out]; exact he
        go_wp2
        go_ret
        exact ⟨ret_int Hp.out.symm, Hb1.out⟩
      · rw [decide_eq_false he]
        have He := Pk.hid he
        clear he
        go_wp2
        go_roundw
        case rel => exact ⟨k + 1, by omega, by go_num, fun m hm hmk => by
          rcases Nat.lt_or_ge m k with h | h
          · exact Hno.out m hm h
          · obtain rfl : m = k := by omega
            rw [Hx.out]; exact He.out, Hb1.out⟩
        case measure => simp [intOf]; omega
    · have hlt' : ¬ (k : Int) < l.length := by omega
      have Hp : Hid (posF num (l.map (·.n)) = -1) := by
        refine posF_no num _ (fun y hy => ?_)
        obtain ⟨z, hz, rfl⟩ := List.mem_map.1 hy
        obtain ⟨m, hm, rfl⟩ := List.mem_iff_getElem.1 hz
        exact Hno.out m hm (by omega)
      go_wp2
      go_ret
      exact ⟨ret_int Hp.out.symm, Hbel.out⟩

set_option maxRecDepth 20000 in
set_option maxHeartbeats 2000000 in
theorem findK_any (base sb : Nat) (v : Value) (l : List Kp) (num : Nat) (w : World) (hv : w.cell? ⟨sb, 2, none⟩ = some v) (hown : w.ownsRow base 194 13 v l.length (l.flatMap cellsK)) (hn : l.length ≤ 100000) :
    Calls Tryz.prog 117 #[.pointer (some ⟨sb, 0, none⟩), .int .u16 num] w fun e w' => e = .returned (.int .i64 (posF num (l.map (·.n)))) ∧ Below w.heap.size w w' := by
  obtain ⟨ao, cap, rfl⟩ := rowA_shape hown
  have Hown := Pk.hid hown
  have hlt : sb < w.heap.size := lt_of_cell hv
  have hne : sb ≠ w.heap.size := by omega
  clear hown
  go_enter Tryz.func117, Tryz.ntmps117
  go_wp2_with fail
  refine (indexK_any base _ l num w.heap.size _ (World.ownsRow.alloc Hown.out _) (cell_new _ _ _ 0) hn).mono ?_
  rintro e w1 ⟨rfl, hb1⟩
  have Hb1 : Hid (Below w.heap.size w w1) := ((Below.refl _ _).alloc (Nat.le_refl _) _).trans (hb1.mono (by simp))
  clear hb1
  go_wp2
  go_ret
  exact ⟨rfl, Hb1.out⟩

end Go.Proofs.YtdjhhnolcafkiaaGreat
