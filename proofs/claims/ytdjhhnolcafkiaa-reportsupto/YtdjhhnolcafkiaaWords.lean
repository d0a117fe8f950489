/- Numbers of four bytes each are read into a new list. -/
import Derived.Test.YtdjhhnolcafkiaaRead
import Derived.Test.YtdjhhnolcafkiaaOwnI
namespace Go.Proofs.Ytdjhhnolcafkiaa
open Go.RowKit
namespace Pk

/-- numbers of four bytes each -/
def words : List UInt8 → List Int
  | a :: b :: c :: d :: r => (num [a, b, c, d] : Int) :: words r
  | _ => []
theorem words_step (l : List UInt8) (h : 4 ≤ l.length) : words l = (num (l.take 4) : Int) :: words (l.drop 4) := by
  match l, h with
  | a :: b :: c :: d :: r, _ => rfl
theorem words_stop (l : List UInt8) (h : l.length < 4) : words l = [] := by
  match l, h with
  | [], _ => rfl
  | [_], _ => rfl
  | [_, _], _ => rfl
  | [_, _, _], _ => rfl
theorem words_length (n : Nat) : ∀ l : List UInt8, l.length = 4 * n → (words l).length = n := by
  induction n with
  | zero => intro l h; rw [words_stop l (by omega)]; rfl
  | succ n ih =>
    intro l h
    rw [words_step l (by omega), List.length_cons, ih (l.drop 4) (by rw [List.length_drop]; omega)]
def strLen : Value → Nat | .string s => s.size | _ => 0

end Pk
open Pk

set_option maxHeartbeats 1000000 in
theorem readWords_any (s : ByteArray) (w : World) (hs : s.size ≤ 1500) :
    Calls Try.prog 75 #[.string s] w fun e w' => ∃ v, e = .returned v ∧ OwnInts w' w.heap.size v (words s.data.toList) ∧ Below w.heap.size w w' := by
  have hinfo : (Try.prog.info? 3).map (fun i => (i.zero, i.size, i.bytes)) = some (some (.int .i64 0), 1, 8) := by kernel_rfl
  obtain ⟨i0, hi, hz0, hz1, hz2⟩ := info_parts hinfo
  have Hi : Hid (Try.prog.info? 3 = some i0 ∧ i0.zero = some (.int .i64 0) ∧ i0.size = 1 ∧ i0.bytes = 8) := ⟨hi, hz0, hz1, hz2⟩
  clear hi hz0 hz1 hz2 hinfo
  go_enter Try.func75, Try.ntmps75
  go_wp2
  go_loopw [0, 3] (fun tv v wr => ∃ (t : ByteArray) (l : List Int), tv = .string t ∧ l ++ words t.data.toList = words s.data.toList ∧ t.size + 4 * l.length ≤ s.size ∧ OwnInts wr w.heap.size v l ∧ Below w.heap.size w wr) (fun tv _ _ => strLen tv)
  case atStart => exact ⟨s, [], rfl, rfl, by simp, World.ownsRow_nil _ _ _ _, Below.refl _ _⟩
  case round =>
    obtain ⟨t, l, rfl, hl, ht, hown, hb⟩ := hrel
    have Hl : Hid (l ++ words t.data.toList = words s.data.toList) := hl
    clear hl
    by_cases h4 : 4 ≤ t.size
    · have Hs : Hid (words t.data.toList = (num (t.extract 0 4).data.toList : Int) :: words (t.extract 4 t.size).data.toList) := by
        show _ = _
        rw [words_step _ (by rw [← Lib.size_eq]; exact h4), Lib.extract_data, Lib.extract_data, List.drop_zero, List.take_of_length_le (i := t.size - 4) (by rw [List.length_drop, ← Lib.size_eq]; exact Nat.le_refl _)]
      have h4i : (4 : Int) ≤ t.size := by omega
      go_wp2_with fail
      refine (readNumber_any _ _ (by simp only [ByteArray.size_extract]; omega)).mono ?_
      rintro e w1 ⟨rfl, rfl⟩
      generalize num (t.extract 0 4).data.toList = q at *
      go_wp2_with (at_builtin; refine wpList_append_own _ rfl (.tmp 9) (.tmp 13) 27 rfl w.heap.size 3 i0 (.int .i64 0) 1 8 Try.underlying27 Hi.out.1 Hi.out.2.1 Hi.out.2.2.1 Hi.out.2.2.2 rfl (by decide) _ l.length (l.map (Value.int .i64)) rfl (hown.alloc _) _ 1 1 [.int .i64 q] rfl rfl (cell_one_new _ _ _) ?_ ?_ ?_ ?_ ?_; (intro u hu; simp at hu; subst hu; rfl); (unfold maxLen; omega); omega; (have := hb.size; simp; omega); intro v' w1 hown' hgrow _)
      have R1 : OwnInts w1 w.heap.size v' (l ++ [(q : Int)]) := by simpa [OwnInts] using hown'
      have R2 : Below w.heap.size w w1 := (hb.alloc hb.size _).grown hgrow (by have := hb.size; simp; omega) (fun k hk => (World.ownsRow.lt hown k hk).1)
      clear hown hown' hgrow
      go_roundw
      case rel => exact ⟨t.extract 4 t.size, l ++ [(q : Int)], rfl, by rw [List.append_assoc, ← Hl.out, Hs.out]; rfl, by simp only [ByteArray.size_extract, List.length_append, List.length_singleton]; omega, R1, R2⟩
      case measure => simp only [strLen, ByteArray.size_extract]; omega
    · have h4i : ¬ (4 : Int) ≤ t.size := by omega
      go_wp2
      go_ret
      refine ⟨_, rfl, ?_, hb⟩
      have h := Hl.out
      rw [words_stop t.data.toList (by rw [← Lib.size_eq]; omega), List.append_nil] at h
      rw [← h]
      exact hown

end Go.Proofs.Ytdjhhnolcafkiaa
