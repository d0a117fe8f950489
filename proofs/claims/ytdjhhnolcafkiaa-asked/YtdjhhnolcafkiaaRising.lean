/- menderkeep.rising: numbers that rise. -/
import Derived.Test.YtdjhhnolcafkiaaAskPure
import Derived.Test.YtdjhhnolcafkiaaAppAt
import Derived.Test.YtdjhhnolcafkiaaFits
namespace Go.Proofs.Ytdjhhnolcafkiaa
open Go.RowKit
namespace Pk

/-- the numbers behind n -/
def riseF (n : Int) : List Int → List Int
  | [] => []
  | s :: r => (n + 1 + pickF s 300) % 65536 :: riseF ((n + 1 + pickF s 300) % 65536) r
def risingF (first : Int) (steps : List Int) : List Int := pickF first 65536 :: riseF (pickF first 65536) (steps.take 100)

theorem riseF_length (l : List Int) : ∀ n, (riseF n l).length = l.length := by
  induction l with
  | nil => intro n; rfl
  | cons s r ih => intro n; simp [riseF, ih]
theorem risingF_length (first : Int) (steps : List Int) : (risingF first steps).length ≤ 101 := by
  unfold risingF
  rw [List.length_cons, riseF_length, List.length_take]
  omega
theorem riseF_rises (l : List Int) : ∀ n : Int, 0 ≤ n → n ≤ 65535 → Rises (n :: riseF n l) ∧ In16 (n :: riseF n l) := by
  induction l with
  | nil => intro n h0 h1; exact ⟨trivial, fun m hm => by simp [riseF] at hm; omega⟩
  | cons s r ih =>
    intro n h0 h1
    have p0 := pickF_lo s 300 (by omega)
    have p1 := pickF_hi s 300 (by omega)
    obtain ⟨i1, i2⟩ := ih ((n + 1 + pickF s 300) % 65536) (by omega) (by omega)
    refine ⟨⟨⟨(1 + pickF s 300).toNat, by omega, by omega, ?_⟩, i1⟩, fun m hm => ?_⟩
    · rw [Int.toNat_of_nonneg (by omega), Int.add_assoc]
    · rcases List.mem_cons.1 hm with rfl | hm
      · omega
      · exact i2 m hm
theorem risingF_rises (first : Int) (steps : List Int) : Rises (risingF first steps) ∧ In16 (risingF first steps) := by
  have p0 := pickF_lo first 65536 (by omega)
  have p1 := pickF_hi first 65536 (by omega)
  exact riseF_rises _ _ p0 (by omega)

theorem own_new (w : World) (n : Int) : OwnInts (w.alloc (.cells #[.int .i64 n] 3)) w.heap.size (.slice (some ⟨w.heap.size, 0, none⟩) 1 1) [n] :=
  ⟨rfl, .inr ⟨w.heap.size, 1, #[.int .i64 n], rfl, Nat.le_refl _, heap_alloc_new w _, Nat.le_refl _, by unfold maxLen; omega, rfl, rfl⟩⟩

end Pk
open Pk

set_option maxRecDepth 20000 in
set_option maxHeartbeats 2000000 in
theorem rising_any (first : Int) (v : Value) (l : List Int) (w : World) (hv : IsInts w.heap.size w v l) (hf : -9223372036854775808 ≤ first ∧ first ≤ 9223372036854775807) (hl : ∀ c ∈ l, -9223372036854775808 ≤ c ∧ c ≤ 9223372036854775807) (hn : l.length ≤ maxLen) :
    Calls Try.prog 21 #[.int .i64 first, v] w fun e w' => ∃ v', e = .returned v' ∧ OwnInts w' w.heap.size v' (risingF first l) ∧ Below w.heap.size w w' := by
  unfold maxLen at hn
  obtain ⟨ao, cap, rfl, hc⟩ := hv
  have Hc : Hid (∀ j, j < l.length → ∃ b off, ao = some ⟨b, off, none⟩ ∧ b < w.heap.size ∧ w.cell? ⟨b, off + j, none⟩ = some (.int .i64 (l.getD j 0))) := hc
  have Hl : Hid (∀ c ∈ l, -9223372036854775808 ≤ c ∧ c ≤ 9223372036854775807) := hl
  clear hc hl
  go_enter Try.func21, Try.ntmps21
  go_wp2_with fail
  refine (pick_any _ _ _ (by omega) (by omega) (by omega) (by omega)).mono ?_
  rintro e w1 ⟨rfl, hw1⟩
  rw [hw1]
  clear hw1 w1
  have p0 := pickF_lo first 65536 (by omega)
  have p1 := pickF_hi first 65536 (by omega)
  have Hr : Hid (risingF first l = pickF first 65536 :: riseF (pickF first 65536) (l.take 100)) := rfl
  generalize pickF first 65536 = n0 at *
  go_wp2
  go_loopw [5, 6, 7] (fun s5 s6 s7 wr => ∃ (k : Nat) (n : Int) (L : List Int), k ≤ l.length ∧ k ≤ 100 ∧ s5 = .int .i64 n ∧ 0 ≤ n ∧ n ≤ 65535 ∧ s7 = .int .i64 k ∧ L.length = k + 1 ∧ OwnInts wr w.heap.size s6 L ∧ L ++ riseF n ((l.take 100).drop k) = risingF first l ∧ Below w.heap.size w wr) (fun _ _ s7 _ => l.length - (intOf s7).toNat)
  case atStart => exact ⟨0, n0, [n0], Nat.zero_le _, Nat.zero_le _, rfl, p0, by omega, rfl, rfl, own_new w n0, by rw [Hr.out]; rfl, (Below.refl _ _).alloc (Nat.le_refl _) _⟩
  case round =>
    obtain ⟨k, n, L, hk, hk1, rfl, hn0, hn1, rfl, hL, hown, hLL, hb⟩ := hrel
    obtain ⟨a1, c1, rfl⟩ := hown.shape
    have Hown : Hid (OwnInts wr w.heap.size (.slice a1 L.length c1) L) := hown
    have HLL : Hid (L ++ riseF n ((l.take 100).drop k) = risingF first l) := hLL
    have Hb : Hid (Below w.heap.size w wr) := hb
    have hws := hb.size
    have HL : Hid (L.length = k + 1) := hL
    have hLb : L.length ≤ 101 := by omega
    clear hown hLL hb hL
    by_cases hlt : k < l.length ∧ k < 100
    · obtain ⟨hlt, hlt1⟩ := hlt
      obtain ⟨b1, o1, rfl, hb1, hx1⟩ := Hc.out k hlt
      have hx2 := (Hb.out.cell (p := ⟨b1, o1 + k, none⟩) hb1).trans hx1
      have hi1 : (k : Int) < l.length := by omega
      have hi2 : (k : Int) < 100 := by omega
      obtain ⟨q, hq⟩ : ∃ q, l.getD k 0 = q := ⟨_, rfl⟩
      have hqr : -9223372036854775808 ≤ q ∧ q ≤ 9223372036854775807 := by
        rw [← hq, List.getD_eq_getElem?_getD, List.getElem?_eq_getElem hlt]
        exact Hl.out _ (List.getElem_mem hlt)
      have Hd : Hid ((l.take 100).drop k = q :: (l.take 100).drop (k + 1)) := by
        show _ = _
        rw [List.drop_eq_getElem_cons (by rw [List.length_take]; omega), ← hq, List.getElem_take, List.getD_eq_getElem?_getD, List.getElem?_eq_getElem hlt]
        rfl
      rw [hq] at hx2
      clear hq hx1
      go_wp2_with fail
      refine (pick_any _ _ _ (by omega) (by omega) (by omega) (by omega)).mono ?_
      rintro e w1 ⟨rfl, hw1⟩
      rw [hw1]
      clear hw1 w1
      have q0 := pickF_lo q 300 (by omega)
      have q1 := pickF_hi q 300 (by omega)
      have Hrs : Hid (riseF n (q :: (l.take 100).drop (k + 1)) = (n + 1 + pickF q 300) % 65536 :: riseF ((n + 1 + pickF q 300) % 65536) ((l.take 100).drop (k + 1))) := rfl
      generalize pickF q 300 = p at *
      have htm : (n + 1 + p).tmod 65536 = (n + 1 + p) % 65536 := Int.tmod_eq_emod_of_nonneg (by omega)
      have hm0 : 0 ≤ (n + 1 + p) % 65536 ∧ (n + 1 + p) % 65536 ≤ 65535 := by omega
      generalize hmm : (n + 1 + p) % 65536 = m at *
      have Hmm : Hid ((n + 1 + p) % 65536 = m) := hmm
      clear hmm
      go_wp2_with (at_builtin; (
        refine wpList_append_int rfl (.tmp 31) (.tmp 33) rfl w.heap.size _ L m rfl (Hown.out.alloc _) _ 1 rfl ?_ (by omega) (by simp; omega) ?_
        · exact cell_one_new _ _ _ 0 _ rfl
        intro v' w2 hown' hgrow _
        refine stop_here ?_))
      have R1 : Hid (OwnInts w2 w.heap.size v' (L ++ [m])) := hown'
      have R2 : Hid (Below w.heap.size w w2) := (Hb.out.alloc hws _).grown hgrow (by simp; omega) (fun x hx => (World.ownsRow.lt Hown.out x hx).1)
      obtain ⟨a2, c2, rfl⟩ := hown'.shape
      clear hown' hgrow
      refine hid_in ?_
      go_wp2
      go_roundw
      case rel => exact ⟨k + 1, m, L ++ [m], by omega, by omega, rfl, by omega, by omega, by go_num, by simp [HL.out], R1.out, by rw [← HLL.out, Hd.out, Hrs.out, List.append_assoc]; rfl, R2.out⟩
      case measure => simp [intOf]; omega
    · have Hd : Hid ((l.take 100).drop k = []) := by
        show _ = _
        rw [List.drop_eq_nil_iff, List.length_take]
        omega
      have hfin : OwnInts wr w.heap.size (.slice a1 L.length c1) (risingF first l) := by
        have h := HLL.out
        rw [Hd.out] at h
        simp only [riseF, List.append_nil] at h
        rw [← h]
        exact Hown.out
      have Hfin : Hid (OwnInts wr w.heap.size (.slice a1 L.length c1) (risingF first l)) := hfin
      clear hfin
      by_cases hlt1 : k < l.length
      · have hi1 : (k : Int) < l.length := by omega
        have hi2 : ¬ (k : Int) < 100 := by omega
        go_wp2
        go_ret
        exact ⟨_, rfl, Hfin.out, Hb.out⟩
      · have hi1 : ¬ (k : Int) < l.length := by omega
        go_wp2
        go_ret
        exact ⟨_, rfl, Hfin.out, Hb.out⟩

end Go.Proofs.Ytdjhhnolcafkiaa
