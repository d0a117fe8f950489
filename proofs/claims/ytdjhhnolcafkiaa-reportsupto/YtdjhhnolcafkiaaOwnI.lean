/- Lists of numbers of the call's own: how they are kept. -/
import Derived.Test.YtdjhhnolcafkiaaNum
namespace Go.Proofs.Ytdjhhnolcafkiaa
open Go.RowKit
namespace Pk
/-- a list of the call's own holds l -/
def OwnInts (w : World) (base : Nat) (v : Value) (l : List Int) : Prop := w.ownsRow base 3 1 v l.length (l.map (Value.int .i64))
theorem OwnInts.isInts {w : World} {base : Nat} {v : Value} {l : List Int} (h : OwnInts w base v l) : IsInts w.heap.size w v l := by
  obtain ⟨h1, h2 | ⟨g, cap, cur, rfl, hb, hg, hn, hc, hs, ht⟩⟩ := h
  · obtain ⟨rfl, h0⟩ := h2
    refine ⟨none, 0, by rw [h0], fun j hj => by omega⟩
  · have hlt : g < w.heap.size := by
      rcases Nat.lt_or_ge g w.heap.size with h' | h'
      · exact h'
      · rw [Array.getElem?_eq_none h'] at hg; cases hg
    refine ⟨some ⟨g, 0, none⟩, cap, rfl, fun j hj => ⟨g, 0, rfl, hlt, ?_⟩⟩
    have e : cur.toList[j]? = some (.int .i64 (l.getD j 0)) := by
      have e1 : (cur.toList.take (l.length * 1))[j]? = some (.int .i64 (l.getD j 0)) := by
        rw [ht]; simp [hj]
      rw [List.getElem?_take] at e1
      rwa [if_pos (by omega)] at e1
    simp [World.cell?, hg]
    simpa using e
theorem OwnInts.alloc {w : World} {base : Nat} {v : Value} {l : List Int} (h : OwnInts w base v l) (o : Obj) : OwnInts (w.alloc o) base v l := World.ownsRow.alloc h o

theorem OwnInts.shape {w : World} {base : Nat} {v : Value} {l : List Int} (h : OwnInts w base v l) : ∃ ao cap, v = .slice ao l.length cap := by
  obtain ⟨_, h2 | ⟨g, cap, cur, rfl, _⟩⟩ := h
  · exact ⟨none, 0, by rw [h2.1, h2.2]⟩
  · exact ⟨_, _, rfl⟩
theorem OwnInts.mono {w : World} {base base' : Nat} {v : Value} {l : List Int} (h : OwnInts w base v l) (hb : base' ≤ base) : OwnInts w base' v l := by
  obtain ⟨h1, h2 | ⟨g, cap, cur, e, hg, r⟩⟩ := h
  · exact ⟨h1, .inl h2⟩
  · exact ⟨h1, .inr ⟨g, cap, cur, e, by omega, r⟩⟩
theorem OwnInts.below {w w' : World} {base : Nat} {v : Value} {l : List Int} (h : OwnInts w base v l) (hb : Below w.heap.size w w') : OwnInts w' base v l := by
  obtain ⟨h1, h2 | ⟨g, cap, cur, e, hg, hh, r⟩⟩ := h
  · exact ⟨h1, .inl h2⟩
  · have hlt : g < w.heap.size := by
      rcases Nat.lt_or_ge g w.heap.size with h' | h'
      · exact h'
      · rw [Array.getElem?_eq_none h'] at hh; cases hh
    exact ⟨h1, .inr ⟨g, cap, cur, e, hg, (hb.block g hlt).trans hh, r⟩⟩
theorem OwnInts.setCell {w : World} {base : Nat} {v : Value} {l : List Int} (h : OwnInts w base v l) {a : Addr} (ha : a.block < base) (u : Value) : OwnInts (w.setCell a u) base v l :=
  ownsRow_setCell_below h ha u
end Pk
end Go.Proofs.Ytdjhhnolcafkiaa
