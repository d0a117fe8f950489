/- Askings in new memory, each with a list of numbers of its own: plain facts. -/
import Derived.Test.YtdjhhnolcafkiaaBook
namespace Go.Proofs.Ytdjhhnolcafkiaa
open Go.RowKit
namespace Pk

/-- an asking as it was handed in: its two sources, its list, what that holds -/
structure Ask1 where
  a : Int
  b : Int
  v : Value
  l : List Int
def flatA (xs : List Ask1) : List Value := xs.flatMap fun x => [.int .i64 x.a, .int .i64 x.b, x.v]
theorem flatA_length (xs : List Ask1) : (flatA xs).length = xs.length * 3 := by
  induction xs with
  | nil => rfl
  | cons x xs ih => rw [show flatA (x :: xs) = .int .i64 x.a :: .int .i64 x.b :: x.v :: flatA xs from rfl, List.length_cons, List.length_cons, List.length_cons, ih, List.length_cons]; omega
theorem flatA_at (xs : List Ask1) : ∀ k (h : k < xs.length), (flatA xs)[k * 3 + 2]? = some (xs[k]).v := by
  induction xs with
  | nil => intro k h; simp at h
  | cons x xs ih =>
    intro k h
    rw [show flatA (x :: xs) = .int .i64 x.a :: .int .i64 x.b :: x.v :: flatA xs from rfl]
    cases k with
    | zero => rfl
    | succ k =>
      have := ih k (by simpa using h)
      rw [show (k + 1) * 3 + 2 = k * 3 + 2 + 1 + 1 + 1 by omega]
      simpa using this

structure OwnAsks (W : World) (base : Nat) (lv : Value) (xs : List Ask1) : Prop where
  row : W.ownsRow base 40 3 lv xs.length (flatA xs)
  each : ∀ (i : Nat) (x : Ask1), xs[i]? = some x → OwnInts W base x.v x.l ∧ x.l.length ≤ 6400
  apart : ∀ (i j : Nat) (x y : Ask1), i ≠ j → xs[i]? = some x → xs[j]? = some y → ∀ b, x.v.ownBlock = some b → y.v.ownBlock ≠ some b
  out : ∀ (i : Nat) (x : Ask1), xs[i]? = some x → ∀ b, x.v.ownBlock = some b → lv.ownBlock ≠ some b

theorem rowA_chg {T : Nat → Prop} {a b : World} {base e size n : Nat} {v : Value} {xs : List Value} (h : Chg T a b) (ho : a.ownsRow base e size v n xs) (hn : ∀ x, v.ownBlock = some x → ¬ T x) : b.ownsRow base e size v n xs := by
  have hl := ho.lt
  obtain ⟨h1, h2 | ⟨g, cap, cur, rfl, hb, hh, r⟩⟩ := ho
  · exact ⟨h1, .inl h2⟩
  · exact ⟨h1, .inr ⟨g, cap, cur, rfl, hb, (h.block g (hl g rfl).2 (hn g rfl)).trans hh, r⟩⟩
theorem rowA_some {W : World} {base e size n cap : Nat} {ao : Option Addr} {xs : List Value} (h : W.ownsRow base e size (.slice ao n cap) n xs) (hn : 0 < n) : ∃ g, ao = some ⟨g, 0, none⟩ := by
  obtain ⟨_, h2 | ⟨g, cap', cur, e', _⟩⟩ := h
  · omega
  · simp only [Value.slice.injEq] at e'
    exact ⟨g, e'.1⟩
theorem rowA_shape {W : World} {base e size n : Nat} {v : Value} {xs : List Value} (h : W.ownsRow base e size v n xs) : ∃ ao cap, v = .slice ao n cap := by
  obtain ⟨_, h2 | ⟨g, cap, cur, rfl, _⟩⟩ := h
  · exact ⟨none, 0, by rw [h2.1, h2.2]⟩
  · exact ⟨_, _, rfl⟩

theorem flatA_snoc (xs : List Ask1) (x : Ask1) : flatA (xs ++ [x]) = flatA xs ++ [.int .i64 x.a, .int .i64 x.b, x.v] := by
  unfold flatA
  rw [List.flatMap_append]
  rfl
theorem flatA_at0 (xs : List Ask1) : ∀ k (h : k < xs.length), (flatA xs)[k * 3]? = some (.int .i64 (xs[k]).a) ∧ (flatA xs)[k * 3 + 1]? = some (.int .i64 (xs[k]).b) := by
  induction xs with
  | nil => intro k h; simp at h
  | cons x xs ih =>
    intro k h
    rw [show flatA (x :: xs) = .int .i64 x.a :: .int .i64 x.b :: x.v :: flatA xs from rfl]
    cases k with
    | zero => exact ⟨rfl, rfl⟩
    | succ k =>
      have := ih k (by simpa using h)
      rw [show (k + 1) * 3 = k * 3 + 1 + 1 + 1 by omega, show k * 3 + 1 + 1 + 1 + 1 = k * 3 + 1 + 1 + 1 + 1 by omega]
      simpa using this

theorem OwnAsks.nil (W : World) (base : Nat) : OwnAsks W base (.slice none 0 0) [] :=
  ⟨World.ownsRow_nil _ _ _ _, fun i x h => by simp at h, fun i j x y _ h => by simp at h, fun i x h => by simp at h⟩

/-- one asking more -/
theorem OwnAsks.snoc {wr w1 w2 : World} {base : Nat} {lv lv' : Value} {xs : List Ask1} {x : Ask1} (h : OwnAsks wr base lv xs) (hb1 : Below wr.heap.size wr w1) (hx : OwnInts w1 wr.heap.size x.v x.l) (hl : x.l.length ≤ 6400) (hbase : base ≤ wr.heap.size)
    (hrow : w2.ownsRow base 40 3 lv' (xs.length + 1) (flatA xs ++ [.int .i64 x.a, .int .i64 x.b, x.v])) (hg : w1.grownBy w2 lv.ownBlock) (ho : lv'.ownBlock = lv.ownBlock ∨ ∀ b, lv'.ownBlock = some b → w1.heap.size ≤ b) : OwnAsks w2 base lv' (xs ++ [x]) := by
  have lvlt : ∀ b, lv.ownBlock = some b → b < wr.heap.size := fun b hb => (h.row.lt b hb).2
  have xlt : ∀ b, x.v.ownBlock = some b → wr.heap.size ≤ b ∧ b < w1.heap.size := fun b hb => World.ownsRow.lt hx b hb
  have olt : ∀ (i : Nat) (y : Ask1), xs[i]? = some y → ∀ b, y.v.ownBlock = some b → b < wr.heap.size := fun i y hy b hb => (World.ownsRow.lt (h.each i y hy).1 b hb).2
  have hc : Chg (fun b => lv.ownBlock = some b) w1 w2 := Chg.ofGrown hg
  have lo : ∀ b, lv'.ownBlock = some b → lv.ownBlock = some b ∨ w1.heap.size ≤ b := fun b hb => by
    rcases ho with e | e
    · exact .inl (e ▸ hb)
    · exact .inr (e b hb)
  have part : ∀ (i : Nat) (y : Ask1), (xs ++ [x])[i]? = some y → xs[i]? = some y ∧ i < xs.length ∨ y = x ∧ i = xs.length := fun i y hy => by
    rcases Nat.lt_or_ge i xs.length with hi | hi
    · rw [List.getElem?_append_left hi] at hy
      exact .inl ⟨hy, hi⟩
    · rw [List.getElem?_append_right hi] at hy
      have hlt := (List.getElem?_eq_some_iff.1 hy).1
      simp at hlt
      have e : i - xs.length = 0 := by omega
      rw [e] at hy
      simp at hy
      exact .inr ⟨hy.symm, by omega⟩
  refine ⟨?_, ?_, ?_, ?_⟩
  · rw [List.length_append, flatA_snoc]
    exact hrow
  · intro i y hy
    rcases part i y hy with ⟨hy, _⟩ | ⟨rfl, _⟩
    · obtain ⟨o1, o2⟩ := h.each i y hy
      exact ⟨hc.row (o1.below hb1) (fun b hb e => h.out i y hy b hb e), o2⟩
    · exact ⟨OwnInts.mono (base := wr.heap.size) (hc.row hx (fun b hb e => by have := lvlt b e; have := (xlt b hb).1; omega)) hbase, hl⟩
  · intro i j y z hij hy hz b hb e
    rcases part i y hy with ⟨hy', hi⟩ | ⟨hyx, hi⟩
    · rcases part j z hz with ⟨hz', _⟩ | ⟨hzx, hj⟩
      · exact h.apart i j y z hij hy' hz' b hb e
      · have := olt i y hy' b hb; have := (xlt b (hzx ▸ e)).1; omega
    · rcases part j z hz with ⟨hz', _⟩ | ⟨hzx, hj⟩
      · have := olt j z hz' b e; have := (xlt b (hyx ▸ hb)).1; omega
      · omega
  · intro i y hy b hb e
    rcases part i y hy with ⟨hy, _⟩ | ⟨rfl, _⟩
    · rcases lo b e with e | e
      · exact h.out i y hy b hb e
      · have := olt i y hy b hb; have := hb1.size; omega
    · rcases lo b e with e | e
      · have := lvlt b e; have := (xlt b hb).1; omega
      · have := (xlt b hb).2; omega

theorem asks_info : (Try.prog.info? 40).map (fun i => (i.zero, i.size, i.bytes)) = some (some (.agg #[.int .i64 0, .int .i64 0, .slice none 0 0]), 3, 40) := by kernel_rfl

end Pk
end Go.Proofs.Ytdjhhnolcafkiaa
