/- wire.readEntries, readAsking: what an asking asks for. -/
import Derived.Test.YtdjhhnolcafkiaaFindBits
import Derived.Test.YtdjhhnolcafkiaaReadHead
import Derived.Deep.RegionHeld3
namespace Go.Proofs.Ytdjhhnolcafkiaa
open Go.RowKit
namespace Pk

/-- a byte of a text -/
def byteAt (s : ByteArray) (k : Nat) : UInt8 := s.data.toList.getD k 0
theorem index_at (s : ByteArray) (k : Nat) (h : k < s.size) (W : World) : (Instr.index 9 (.string s) (.int .i64 (k : Int))).run Try.prog W = .ok (.int .u8 ((byteAt s k).toNat : Int)) W := by
  rw [run_index_string W 9 s .i64 k Try.underlying9, dif_pos ⟨by omega, by omega⟩]
  have e : s[((k : Nat) : Int).toNat]'(by omega) = byteAt s k := by
    unfold byteAt
    rw [List.getD_eq_getElem?_getD, List.getElem?_eq_getElem (by simpa using h)]
    rfl
  rw [e]
theorem list_four (s : ByteArray) (h : 4 ≤ s.size) : s.data.toList = byteAt s 0 :: byteAt s 1 :: byteAt s 2 :: byteAt s 3 :: (s.extract 4 s.size).data.toList := by
  have hl : s.data.toList.length = s.size := (Lib.size_eq s).symm
  rw [Lib.extract_data, List.take_of_length_le (by rw [List.length_drop]; omega)]
  unfold byteAt
  match hm : s.data.toList, (show 4 ≤ s.data.toList.length by omega) with
  | a :: b :: c :: d :: r, _ => rfl
theorem num_first (s : ByteArray) (h : 2 ≤ s.size) : num (s.extract 0 2).data.toList = num [byteAt s 0, byteAt s 1] := by
  have hl : s.data.toList.length = s.size := (Lib.size_eq s).symm
  rw [Lib.extract_data, List.drop_zero]
  unfold byteAt
  match hm : s.data.toList, (show 2 ≤ s.data.toList.length by omega) with
  | a :: b :: r, _ => rfl
theorem ents_four (s : ByteArray) (h : 4 ≤ s.size) : entsR s.data.toList = ((num [byteAt s 0, byteAt s 1] : Nat) : Int) :: (byteNums (num [byteAt s 0, byteAt s 1] + 1) (byteAt s 3).toNat ++ byteNums (num [byteAt s 0, byteAt s 1] + 9) (byteAt s 2).toNat) ++ entsR (s.extract 4 s.size).data.toList := by
  rw [list_four s h, entsR_bytes]
theorem num_two_lt (a b : UInt8) : num [a, b] < 65536 := by
  have h1 := a.toNat_lt
  have h2 := b.toNat_lt
  rw [num_pair]
  omega

end Pk
open Pk

set_option maxRecDepth 20000 in
set_option maxHeartbeats 2000000 in
theorem readEntries_any (s : ByteArray) (w : World) (hs : s.size ≤ 1500) (h4 : s.size % 4 = 0) :
    Calls Try.prog 101 #[.string s] w fun e w' => ∃ v, e = .returned v ∧ OwnInts w' w.heap.size v (entsR s.data.toList) ∧ Below w.heap.size w w' := by
  go_enter Try.func101, Try.ntmps101
  go_wp2
  go_loopw [0, 3] (fun tv v wr => ∃ (t : ByteArray) (l : List Int), tv = .string t ∧ l ++ entsR t.data.toList = entsR s.data.toList ∧ t.size ≤ s.size ∧ t.size % 4 = 0 ∧ 4 * l.length + 17 * t.size ≤ 17 * s.size ∧ OwnInts wr w.heap.size v l ∧ Below w.heap.size w wr) (fun tv _ _ => strLen tv)
  case atStart => exact ⟨s, [], rfl, rfl, Nat.le_refl _, h4, by simp, World.ownsRow_nil _ _ _ _, Below.refl _ _⟩
  case round =>
    obtain ⟨t, l, rfl, hl, ht, ht4, hlen, hown, hb⟩ := hrel
    have Hl : Hid (l ++ entsR t.data.toList = entsR s.data.toList) := hl
    obtain ⟨a1, c1, rfl⟩ := hown.shape
    have Hown : Hid (OwnInts wr w.heap.size (.slice a1 l.length c1) l) := hown
    have Hb : Hid (Below w.heap.size w wr) := hb
    have hws := hb.size
    clear hl hown hb
    by_cases h0 : 4 ≤ t.size
    · have hne : t.toList.isEmpty = false := by rw [isEmpty_size]; exact decide_eq_false (by omega)
      have h4i : (4 : Int) ≤ t.size := by omega
      have Hs : Hid (entsR t.data.toList = _) := ents_four t h0
      have j3 : ∀ W : World, (Instr.index 9 (.string t) (.int .i64 3)).run Try.prog W = .ok (.int .u8 ((byteAt t 3).toNat : Int)) W := fun W => index_at t 3 (by omega) W
      have j2 : ∀ W : World, (Instr.index 9 (.string t) (.int .i64 2)).run Try.prog W = .ok (.int .u8 ((byteAt t 2).toNat : Int)) W := fun W => index_at t 2 (by omega) W
      have hnf := num_first t (by omega)
      have hp := num_two_lt (byteAt t 0) (byteAt t 1)
      have hb3 := (byteAt t 3).toNat_lt
      have hb2 := (byteAt t 2).toNat_lt
      generalize num [byteAt t 0, byteAt t 1] = p at *
      generalize (byteAt t 3).toNat = d at *
      generalize (byteAt t 2).toNat = c at *
      have hwp : IntKind.u16.wrap (p : Int) = (p : Int) := by simp [IntKind.wrap, IntKind.signed, IntKind.bits]; omega
      have hw1 : IntKind.u16.wrap ((p : Int) + 1) = (((p + 1) % 65536 : Nat) : Int) := by simp [IntKind.wrap, IntKind.signed, IntKind.bits]
      have hw9 : IntKind.u16.wrap ((p : Int) + 9) = (((p + 9) % 65536 : Nat) : Int) := by simp [IntKind.wrap, IntKind.signed, IntKind.bits]
      have hr1 : (p + 1) % 65536 < 65536 := Nat.mod_lt _ (by decide)
      have hr9 : (p + 9) % 65536 < 65536 := Nat.mod_lt _ (by decide)
      have M1 : Hid (byteNums ((p + 1) % 65536) d = byteNums (p + 1) d) := byteNums_mod _ _
      have M9 : Hid (byteNums ((p + 9) % 65536) c = byteNums (p + 9) c) := byteNums_mod _ _
      generalize (p + 1) % 65536 = r1 at *
      generalize (p + 9) % 65536 = r9 at *
      go_wp2_with fail
      refine (readNumber_any _ _ (by simp only [ByteArray.size_extract]; omega)).mono ?_
      rintro e w1 ⟨rfl, hw1e⟩
      rw [hnf, hw1e]
      clear hnf hw1e w1
      go_wp2_with (at_builtin; (
        refine wpList_append_int rfl (.tmp 13) (.tmp 16) rfl w.heap.size _ l (p : Int) rfl (Hown.out.alloc _) _ 1 rfl ?_ (by omega) (by simp; omega) ?_
        · exact cell_one_new _ _ _ 0 _ rfl
        intro v' w2 hown' hgrow _
        refine stop_here ?_))
      have R1 : Hid (OwnInts w2 w.heap.size v' (l ++ [(p : Int)])) := hown'
      have hx2 : wr.heap.size ≤ w2.heap.size := by have := hgrow.size; simp at this; omega
      have R2 : Hid (Below w.heap.size w w2) := (Hb.out.alloc hws _).grown hgrow (by simp; omega) (fun x hx => (World.ownsRow.lt Hown.out x hx).1)
      obtain ⟨a2, c2, rfl⟩ := hown'.shape
      have hl2 : (l ++ [(p : Int)]).length ≤ l.length + 1 := by simp
      clear hown' hgrow Hown Hb
      generalize hLL : l ++ [(p : Int)] = L at *
      have HL : Hid (l ++ [(p : Int)] = L) := hLL
      clear hLL
      refine hid_in ?_
      go_wp2_with fail
      refine (addSet_any w.heap.size _ L r1 d _ (by omega) hr1 R1.out (by omega) (by omega)).mono ?_
      rintro e w3 ⟨v3, rfl, hown3, hb3w⟩
      rw [M1.out] at hown3
      have R3 : Hid (OwnInts w3 w.heap.size v3 (L ++ byteNums (p + 1) d)) := hown3
      have R4 : Hid (Below w.heap.size w w3) := R2.out.trans hb3w
      have hx3 : wr.heap.size ≤ w3.heap.size := Nat.le_trans hx2 hb3w.size
      obtain ⟨a3, c3, rfl⟩ := hown3.shape
      have hn1 := byteNums_length (p + 1) d
      have hn2 := byteNums_length (p + 9) c
      have hl3 : (L ++ byteNums (p + 1) d).length ≤ l.length + 9 := by rw [List.length_append]; omega
      clear hown3 hb3w R1 R2
      generalize hLL : L ++ byteNums (p + 1) d = L3 at *
      have HL3 : Hid (L ++ byteNums (p + 1) d = L3) := hLL
      clear hLL
      go_wp2_with fail
      refine (addSet_any w.heap.size _ L3 r9 c _ (by omega) hr9 R3.out (by omega) (by omega)).mono ?_
      rintro e w4 ⟨v4, rfl, hown4, hb4w⟩
      rw [M9.out] at hown4
      have R5 : Hid (OwnInts w4 w.heap.size v4 (L3 ++ byteNums (p + 9) c)) := hown4
      have R6 : Hid (Below w.heap.size w w4) := R4.out.trans hb4w
      obtain ⟨a4, c4, rfl⟩ := hown4.shape
      have hl4 : (L3 ++ byteNums (p + 9) c).length ≤ l.length + 17 := by rw [List.length_append]; omega
      clear hown4 hb4w R3 R4
      generalize hLL : L3 ++ byteNums (p + 9) c = L4 at *
      have HL4 : Hid (L3 ++ byteNums (p + 9) c = L4) := hLL
      clear hLL
      go_wp2
      go_roundw
      case rel =>
        refine ⟨t.extract 4 t.size, L4, rfl, ?_, by simp only [ByteArray.size_extract]; omega, by simp only [ByteArray.size_extract]; omega, by simp only [ByteArray.size_extract]; omega, R5.out, R6.out⟩
        rw [← HL4.out, ← HL3.out, ← HL.out, ← Hl.out, Hs.out]
        simp
      case measure => simp only [strLen, ByteArray.size_extract]; omega
    · have ht0 : t.size = 0 := by omega
      have hne : t.toList.isEmpty = true := by rw [isEmpty_size]; exact decide_eq_true ht0
      have Hn : Hid (entsR t.data.toList = []) := by
        show _ = _
        rw [show t.data.toList = [] from List.eq_nil_of_length_eq_zero (by rw [← Lib.size_eq]; exact ht0)]
        rfl
      go_wp2
      go_ret
      refine ⟨_, rfl, ?_, Hb.out⟩
      have h := Hl.out
      rw [Hn.out, List.append_nil] at h
      rw [← h]
      exact Hown.out

set_option maxHeartbeats 2000000 in
theorem readAsking_any (s : ByteArray) (w : World) (hs0 : 12 ≤ s.size) (hs : s.size ≤ 1500) (h4 : s.size % 4 = 0) :
    Calls Try.prog 82 #[.string s] w fun e w' => ∃ v, e = .returned (.agg #[.int .i64 (num (s.extract 4 8).data.toList), .int .i64 (num (s.extract 8 12).data.toList), v]) ∧ OwnInts w' w.heap.size v (entsR (s.extract 12 s.size).data.toList) ∧ Below w.heap.size w w' := by
  have i8 : (8 : Int) ≤ s.size := by omega
  have i12 : (12 : Int) ≤ s.size := by omega
  go_enter Try.func82, Try.ntmps82
  go_wp2
  refine wp_region_noPanic ?_
  refine wp_region_held_drew (S := fun _ => True) (by kernel_rfl) trivial (fun hHeld => ?_)
  refine wpAnyH_take (i := 0) (v := ?v0) rfl (by kernel_rfl) (by kernel_rfl) (by kernel_rfl) (fun _ _ _ h => h) (Or.inl ⟨by rfl, ?y0⟩) hHeld ?r0
  case y0 => ((intro W _; go_simp) <;> with_reducible rfl)
  try simp only [Act.put]
  try simp only [List.setIfInBounds_toArray]
  try simp only [List.set_cons_succ]
  try simp only [List.set_cons_zero]
  refine wpAnyH_take (i := 1) (v := ?v1) rfl (by kernel_rfl) (by kernel_rfl) (by kernel_rfl) (fun _ _ _ h => h) (Or.inl ⟨by rfl, ?y1⟩) hHeld ?r1
  case y1 => ((intro W _; go_simp) <;> with_reducible rfl)
  try simp only [Act.put]
  try simp only [List.setIfInBounds_toArray]
  try simp only [List.set_cons_succ]
  try simp only [List.set_cons_zero]
  refine wpAnyH_take (i := 3) (v := ?v3) rfl (by kernel_rfl) (by kernel_rfl) (by kernel_rfl) (fun _ _ _ h => h) (Or.inl ⟨by rfl, ?y3⟩) hHeld ?r3
  case y3 => ((intro W _; go_simp) <;> with_reducible rfl)
  try simp only [Act.put]
  try simp only [List.setIfInBounds_toArray]
  try simp only [List.set_cons_succ]
  try simp only [List.set_cons_zero]
  refine wpAnyH_take (i := 4) (v := ?v4) rfl (by kernel_rfl) (by kernel_rfl) (by kernel_rfl) (fun _ _ _ h => h) (Or.inl ⟨by rfl, ?y4⟩) hHeld ?r4
  case y4 => ((intro W _; go_simp) <;> with_reducible rfl)
  try simp only [Act.put]
  try simp only [List.setIfInBounds_toArray]
  try simp only [List.set_cons_succ]
  try simp only [List.set_cons_zero]
  refine wpAnyH_take (i := 6) (v := ?v6) rfl (by kernel_rfl) (by kernel_rfl) (by kernel_rfl) (fun _ _ _ h => h) (Or.inl ⟨by rfl, ?y6⟩) hHeld ?r6
  case y6 => ((intro W _; go_simp) <;> with_reducible rfl)
  try simp only [Act.put]
  try simp only [List.setIfInBounds_toArray]
  try simp only [List.set_cons_succ]
  try simp only [List.set_cons_zero]
  refine wpAnyH_take (i := 7) (v := ?v7) rfl (by kernel_rfl) (by kernel_rfl) (by kernel_rfl) (fun _ _ _ h => h) (Or.inl ⟨by rfl, ?y7⟩) hHeld ?r7
  case y7 => ((intro W _; go_simp) <;> with_reducible rfl)
  try simp only [Act.put]
  try simp only [List.setIfInBounds_toArray]
  try simp only [List.set_cons_succ]
  try simp only [List.set_cons_zero]
  refine wpAnyH_ready (rs := [2]) (by kernel_rfl) (by simp) ?_
  refine AllReadyH.cons rfl (fun K hK => ?_) AllReadyH.nil
  go_simp
  refine (readNumber_any _ _ (by simp only [ByteArray.size_extract]; omega)).mono ?_
  rintro e w1 ⟨rfl, hw1e⟩
  rw [hw1e]
  clear hw1e w1
  go_wp2_with fail
  refine hK.out _ _ trivial (fun hHeld => ?_)
  clear hK K
  refine wpAnyH_ready (rs := [5]) (by kernel_rfl) (by simp) ?_
  refine AllReadyH.cons rfl (fun K hK => ?_) AllReadyH.nil
  go_simp
  refine (readNumber_any _ _ (by simp only [ByteArray.size_extract]; omega)).mono ?_
  rintro e w1 ⟨rfl, hw1e⟩
  rw [hw1e]
  clear hw1e w1
  go_wp2_with fail
  refine hK.out _ _ trivial (fun hHeld => ?_)
  clear hK K
  refine wpAnyH_ready (rs := [8]) (by kernel_rfl) (by simp) ?_
  refine AllReadyH.cons rfl (fun K hK => ?_) AllReadyH.nil
  go_simp
  refine (readEntries_any _ _ (by simp only [ByteArray.size_extract]; omega) (by simp only [ByteArray.size_extract]; omega)).mono ?_
  rintro e w1 ⟨v1, rfl, hown1, hb1⟩
  obtain ⟨a1, c1, rfl⟩ := hown1.shape
  have hsz : w.heap.size < w1.heap.size := by have := hb1.size; simp at this; omega
  have hc1 := box_below hb1 w.heap.size (by simp)
  have hz1 : ∀ o, w1.frozen? ⟨w.heap.size, o, none⟩ = false := fun o => (hb1.frozen (p := ⟨w.heap.size, o, none⟩) (by simp)).trans (frozen_new w _ _ o)
  have d0 : w1.cell? ⟨w.heap.size, 0, none⟩ = some (.int .i64 0) := (hc1 0).trans (cell_new w _ _ 0)
  have d1 : w1.cell? ⟨w.heap.size, 1, none⟩ = some (.int .i64 0) := (hc1 1).trans (cell_new w _ _ 1)
  have d2 : w1.cell? ⟨w.heap.size, 2, none⟩ = some (.slice none 0 0) := (hc1 2).trans (cell_new w _ _ 2)
  have Hown1 : Hid (OwnInts w1 (w.heap.size + 1) (.slice a1 (entsR (s.extract 12 s.size).data.toList).length c1) (entsR (s.extract 12 s.size).data.toList)) := hown1.mono (by simp)
  have Hb1 : Hid (Below w.heap.size w w1) := ((Below.refl _ _).alloc (Nat.le_refl _) _).drew.trans (hb1.mono (by simp))
  clear hown1 hb1 hc1
  generalize hLe : entsR (s.extract 12 s.size).data.toList = L at *
  have HLe : Hid (entsR (s.extract 12 s.size).data.toList = L) := hLe
  clear hLe
  go_wp2_with fail
  refine hK.out _ _ trivial (fun hHeld => ?_)
  clear hK K
  refine wpAnyH_take (i := 9) (v := ?v9) rfl (by kernel_rfl) (by kernel_rfl) (by kernel_rfl) (fun _ _ _ h => h) (Or.inl ⟨by rfl, ?y9⟩) hHeld ?r9
  case y9 => ((intro W _; go_simp) <;> with_reducible rfl)
  try simp only [Act.put]
  try simp only [List.setIfInBounds_toArray]
  try simp only [List.set_cons_succ]
  try simp only [List.set_cons_zero]
  refine wpAnyH_ready (rs := [10]) (by kernel_rfl) (by simp) ?_
  refine AllReadyH.cons rfl (fun K hK => ?_) AllReadyH.nil
  go_simp
  refine hK.out _ _ trivial (fun hHeld => ?_)
  clear hK K
  refine wpAnyH_done (by kernel_rfl) ?_ _
  refine NoPanic.normal ?_
  go_wp2
  refine bodyPost_ret (v := .agg #[.int .i64 (num (s.extract 4 8).data.toList), .int .i64 (num (s.extract 8 12).data.toList), .slice a1 L.length c1]) (by simp [results, Try.results82, go_sem, d0, d1, d2]) rfl ⟨_, rfl, ?_, ?_⟩
  · rw [HLe.out]
    exact ((((Hown1.out.setCell (a := ⟨w.heap.size, 0, none⟩) (Nat.lt_succ_self _) _).setCell (a := ⟨w.heap.size, 1, none⟩) (Nat.lt_succ_self _) _).setCell (a := ⟨w.heap.size, 2, none⟩) (Nat.lt_succ_self _) _)).mono (Nat.le_succ _)
  · exact ((Hb1.out.setCell (p := ⟨w.heap.size, 0, none⟩) (Nat.le_refl _) _).setCell (p := ⟨w.heap.size, 1, none⟩) (Nat.le_refl _) _).setCell (p := ⟨w.heap.size, 2, none⟩) (Nat.le_refl _) _

end Go.Proofs.Ytdjhhnolcafkiaa
