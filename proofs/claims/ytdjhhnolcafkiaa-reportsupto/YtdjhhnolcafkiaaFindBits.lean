/- wire.findBits, addSet: the bits of a byte, and their numbers. -/
import Derived.Test.YtdjhhnolcafkiaaAskPure
import Derived.Test.YtdjhhnolcafkiaaWords
import Derived.Test.YtdjhhnolcafkiaaAppAt
import Derived.Laws.BitsAllLaws
namespace Go.Proofs.Ytdjhhnolcafkiaa
open Go.RowKit
namespace Pk

/-- which of the lowest k bits are set -/
def bitsF (b k : Nat) : List Nat := (List.range k).filter fun i => b.testBit i
theorem bitsF_succ (b k : Nat) : bitsF b (k + 1) = bitsF b k ++ (if b.testBit k then [k] else []) := by
  unfold bitsF
  rw [List.range_succ, List.filter_append]
  congr 1
  cases h : b.testBit k <;> simp [h]
theorem bitsF_length (b k : Nat) : (bitsF b k).length ≤ k := by
  have := List.length_filter_le (fun i => b.testBit i) (List.range k)
  rwa [List.length_range] at this
theorem bitsF_lt {b k i : Nat} (h : i ∈ bitsF b k) : i < k := List.mem_range.1 (List.mem_filter.1 h).1
theorem bits16 (c d : Nat) (hd : d < 256) : (List.range 16).filter (fun i => (c * 256 + d).testBit i) = bitsF d 8 ++ (bitsF c 8).map (· + 8) := by
  have hr : List.range 16 = List.range 8 ++ (List.range 8).map (· + 8) := by decide
  have e : c * 256 + d = 2 ^ 8 * c + d := by omega
  unfold bitsF
  rw [hr, List.filter_append, e]
  congr 1
  · refine List.filter_congr fun i hi => ?_
    rw [Nat.testBit_two_pow_mul_add c hd i, if_pos (List.mem_range.1 hi)]
  · rw [List.filter_map]
    congr 1
    refine List.filter_congr fun i hi => ?_
    show (2 ^ 8 * c + d).testBit (i + 8) = _
    rw [Nat.testBit_two_pow_mul_add c hd (i + 8), if_neg (by omega), Nat.add_sub_cancel]
/-- the numbers of the bits of one byte -/
def byteNums (lo b : Nat) : List Int := (bitsF b 8).map fun i => (((lo + i) % 65536 : Nat) : Int)
theorem setOf_bytes (p c d : Nat) (hd : d < 256) : setOf p (c * 256 + d) = byteNums (p + 1) d ++ byteNums (p + 9) c := by
  unfold setOf byteNums
  rw [bits16 c d hd, List.map_append, List.map_map]
  congr 1
  refine List.map_congr_left fun i _ => ?_
  show (((p + 1 + (i + 8)) % 65536 : Nat) : Int) = _
  rw [show p + 1 + (i + 8) = p + 9 + i by omega]
theorem byteNums_mod (lo b : Nat) : byteNums (lo % 65536) b = byteNums lo b := by
  unfold byteNums
  refine List.map_congr_left fun i _ => ?_
  rw [Nat.mod_add_mod]
theorem byteNums_length (lo b : Nat) : (byteNums lo b).length ≤ 8 := by
  unfold byteNums
  rw [List.length_map]
  exact bitsF_length b 8
theorem num_pair (c d : UInt8) : num [c, d] = c.toNat * 256 + d.toNat := by simp [num]
theorem entsR_bytes (a b c d : UInt8) (r : List UInt8) : entsR (a :: b :: c :: d :: r) = ((num [a, b] : Nat) : Int) :: (byteNums (num [a, b] + 1) d.toNat ++ byteNums (num [a, b] + 9) c.toNat) ++ entsR r := by
  show entNums _ _ ++ _ = _
  rw [entNums, num_pair c d, setOf_bytes _ _ _ d.toNat_lt]
theorem entsR_length : ∀ (n : Nat) (l : List UInt8), l.length ≤ 4 * n → (entsR l).length ≤ 17 * n := by
  intro n
  induction n with
  | zero => intro l h; cases l with | nil => simp [entsR] | cons a l => simp at h
  | succ n ih =>
    intro l h
    match l with
    | [] => simp [entsR]
    | [_] => simp [entsR]
    | [_, _] => simp [entsR]
    | [_, _, _] => simp [entsR]
    | a :: b :: c :: d :: r =>
      have h1 := ih r (by simp at h; omega)
      have h2 := byteNums_length (num [a, b] + 1) d.toNat
      have h3 := byteNums_length (num [a, b] + 9) c.toNat
      rw [entsR_bytes]
      simp only [List.length_append, List.length_cons]
      omega

/-- what findBits answers -/
def rowV (l : List Nat) : Value := .agg #[.int .u8 l.length, .int .u8 (l[0]?.getD 0 : Nat), .int .u8 (l[1]?.getD 0 : Nat), .int .u8 (l[2]?.getD 0 : Nat), .int .u8 (l[3]?.getD 0 : Nat), .int .u8 (l[4]?.getD 0 : Nat), .int .u8 (l[5]?.getD 0 : Nat), .int .u8 (l[6]?.getD 0 : Nat), .int .u8 (l[7]?.getD 0 : Nat)]
theorem getD_snoc (l : List Nat) (x j : Nat) : (l ++ [x]).getD j 0 = if j = l.length then x else l.getD j 0 := by
  simp only [List.getD_eq_getElem?_getD, List.getElem?_append]
  split
  · rw [if_neg (by omega)]
  · rename_i h
    split
    · rename_i h2; subst h2; simp
    · rename_i h2
      rw [List.getElem?_eq_none (by simp; omega), List.getElem?_eq_none (by omega)]
def zero9 : Obj := .cells #[.int .u8 0, .int .u8 0, .int .u8 0, .int .u8 0, .int .u8 0, .int .u8 0, .int .u8 0, .int .u8 0, .int .u8 0] 194
theorem cell_new (w : World) (xs : Array Value) (t : TypeId) (o : Nat) : (w.alloc (.cells xs t)).cell? ⟨w.heap.size, o, none⟩ = xs[o]? :=
  cell_of_row _ w.heap.size o xs t (0, 0) (heap_alloc_new w _)
theorem frozen_new (w : World) (xs : Array Value) (t : TypeId) (o : Nat) : (w.alloc (.cells xs t)).frozen? ⟨w.heap.size, o, none⟩ = false := by
  unfold World.frozen?
  rw [heap_alloc_new]
  simp
theorem cell_newAt (w : World) (xs : Array Value) (t : TypeId) (k o : Nat) (hk : w.heap.size = k) : (w.alloc (.cells xs t)).cell? ⟨k, o, none⟩ = xs[o]? := by subst hk; exact cell_new w xs t o
theorem frozen_newAt (w : World) (xs : Array Value) (t : TypeId) (k o : Nat) (hk : w.heap.size = k) : (w.alloc (.cells xs t)).frozen? ⟨k, o, none⟩ = false := by subst hk; exact frozen_new w xs t o
structure Fb (w wr : World) (l : List Nat) : Prop where
  bel : Below (w.heap.size + 1) (w.alloc zero9) wr
  c0 : wr.cell? ⟨w.heap.size + 1, 0, none⟩ = some (.int .u8 l.length)
  cs : ∀ j, j < 8 → wr.cell? ⟨w.heap.size + 1, 1 + j, none⟩ = some (.int .u8 (l.getD j 0))
  fz : ∀ o, wr.frozen? ⟨w.heap.size + 1, o, none⟩ = false
theorem Fb.set {w wr : World} {l : List Nat} (h : Fb w wr l) (hl : l.length < 8) (x : Nat) : Fb w ((wr.setCell ⟨w.heap.size + 1, 1 + l.length, none⟩ (.int .u8 x)).setCell ⟨w.heap.size + 1, 0, none⟩ (.int .u8 (l.length + 1 : Nat))) (l ++ [x]) := by
  have n0 : (⟨w.heap.size + 1, 0, none⟩ : Addr) ≠ ⟨w.heap.size + 1, 1 + l.length, none⟩ := fun e => by injection e with _ e _; omega
  refine ⟨(h.bel.setCell (p := ⟨w.heap.size + 1, 1 + l.length, none⟩) (Nat.le_refl _) _).setCell (p := ⟨w.heap.size + 1, 0, none⟩) (Nat.le_refl _) _, ?_, ?_, fun o => by rw [World.frozen?_setCell, World.frozen?_setCell]; exact h.fz o⟩
  · rw [List.length_append, List.length_singleton]
    exact World.cell?_setCell_same _ _ _ ((World.cell?_setCell_other _ _ _ _ (Ne.symm n0)).trans h.c0)
  · intro j hj
    rw [World.cell?_setCell_other _ _ _ _ (fun e => by injection e with _ e _; omega), getD_snoc]
    by_cases hjl : j = l.length
    · subst hjl
      rw [if_pos rfl, World.cell?_setCell_same _ _ _ (h.cs _ hl)]
    · rw [if_neg hjl, World.cell?_setCell_other _ _ _ _ (fun e => by injection e with _ e _; omega)]
      exact h.cs j hj
theorem bit_test (b k : Nat) (hb : b < 256) : (bits .and .u8 ((b : Int) / 2 ^ k) 1 == 1) = b.testBit k := by
  have e : (b : Int) / 2 ^ k = ((b / 2 ^ k : Nat) : Int) := by simp
  have hd : b / 2 ^ k < 256 := Nat.lt_of_le_of_lt (Nat.div_le_self _ _) hb
  rw [e]
  have h := u8_and_nat (b / 2 ^ k) 1 hd (by omega)
  rw [show ((1 : Nat) : Int) = 1 from rfl] at h
  rw [h, Nat.testBit_eq_decide_div_mod_eq, Nat.and_one_is_mod]
  rw [Bool.eq_iff_iff]
  simp only [beq_iff_eq, decide_eq_true_eq]
  omega
end Pk
open Pk

set_option maxHeartbeats 1000000 in
theorem findBits_any (b : Nat) (w : World) (hb : b < 256) :
    Calls Try.prog 129 #[.int .u8 b] w fun e w' => e = .returned (rowV (bitsF b 8)) ∧ Below w.heap.size w w' := by
  go_enter Try.func129, Try.ntmps129
  go_wp2
  go_loopw [5] (fun s5 wr => ∃ k : Nat, k ≤ 8 ∧ s5 = .int .u8 k ∧ Fb w wr (bitsF b k)) (fun s5 _ => 8 - (intOf s5).toNat)
  case atStart =>
    exact ⟨0, by omega, rfl, (Below.refl _ _).alloc (by simp) _, cell_newAt _ _ _ _ 0 (by simp), fun j hj => by
      rw [cell_newAt _ _ _ _ (1 + j) (by simp)]
      rcases (show j = 0 ∨ j = 1 ∨ j = 2 ∨ j = 3 ∨ j = 4 ∨ j = 5 ∨ j = 6 ∨ j = 7 by omega) with rfl | rfl | rfl | rfl | rfl | rfl | rfl | rfl <;> rfl, fun o => frozen_newAt _ _ _ _ o (by simp)⟩
  case round =>
    obtain ⟨k, hk, rfl, hF⟩ := hrel
    have HF : Hid (Fb w wr (bitsF b k)) := hF
    have hc0 := hF.c0
    have hfz := hF.fz
    have hcs := hF.cs
    have hL : (bitsF b k).length ≤ k := bitsF_length b k
    have Hsc : Hid (bitsF b (k + 1) = bitsF b k ++ (if b.testBit k then [k] else [])) := bitsF_succ b k
    clear hF
    generalize hl : bitsF b k = l at *
    by_cases hlt : k < 8
    · have hlt' : (k : Int) < 8 := by omega
      have hbit := bit_test b k hb
      cases ht : b.testBit k with
      | true =>
        rw [ht] at hbit Hsc
        have hc1 := hcs l.length (by omega)
        clear hcs
        go_wp2
        refine ⟨⟨k + 1, by omega, by go_num, ?_⟩, by simp [intOf]; omega⟩
        rw [Hsc.out, if_pos rfl]
        exact HF.out.set (by omega) k
      | false =>
        rw [ht] at hbit Hsc
        clear hcs
        go_wp2
        refine ⟨⟨k + 1, by omega, by go_num, ?_⟩, by simp [intOf]; omega⟩
        rw [Hsc.out, if_neg (by simp), List.append_nil]
        exact HF.out
    · have hk8 : k = 8 := by omega
      subst hk8
      have d1 := hcs 0 (by omega)
      have d2 := hcs 1 (by omega)
      have d3 := hcs 2 (by omega)
      have d4 := hcs 3 (by omega)
      have d5 := hcs 4 (by omega)
      have d6 := hcs 5 (by omega)
      have d7 := hcs 6 (by omega)
      have d8 := hcs 7 (by omega)
      have hr : ∀ o, wr.cell? ⟨w.heap.size, o, none⟩ = (w.alloc zero9).cell? ⟨w.heap.size, o, none⟩ := fun o => HF.out.bel.cell (p := ⟨w.heap.size, o, none⟩) (Nat.lt_succ_self _)
      have hz : ∀ o, wr.frozen? ⟨w.heap.size, o, none⟩ = false := fun o => (HF.out.bel.frozen (p := ⟨w.heap.size, o, none⟩) (Nat.lt_succ_self _)).trans (frozen_new w _ _ o)
      have e0 : ∀ o, o < 9 → wr.cell? ⟨w.heap.size, o, none⟩ = some (.int .u8 0) := fun o ho => by
        rw [hr o]
        rcases (show o = 0 ∨ o = 1 ∨ o = 2 ∨ o = 3 ∨ o = 4 ∨ o = 5 ∨ o = 6 ∨ o = 7 ∨ o = 8 by omega) with rfl | rfl | rfl | rfl | rfl | rfl | rfl | rfl | rfl <;> exact cell_new w _ _ _
      have f0 := e0 0 (by omega)
      have f1 := e0 1 (by omega)
      have f2 := e0 2 (by omega)
      have f3 := e0 3 (by omega)
      have f4 := e0 4 (by omega)
      have f5 := e0 5 (by omega)
      have f6 := e0 6 (by omega)
      have f7 := e0 7 (by omega)
      have f8 := e0 8 (by omega)
      clear hcs hr e0
      have Hb : Hid (Below w.heap.size w wr) := ((Below.refl _ _).alloc (Nat.le_refl _) _).trans (HF.out.bel.mono (Nat.le_succ _))
      go_wp2
      refine bodyPost_ret (v := rowV l) (by simp [results, Try.results129, rowV, go_sem, f0, f1, f2, f3, f4, f5, f6, f7, f8]) rfl ⟨by rw [hl], ?_⟩
      exact ((((((((Hb.out.setCell (p := ⟨w.heap.size, 0, none⟩) (Nat.le_refl _) _).setCell (p := ⟨w.heap.size, 1, none⟩) (Nat.le_refl _) _).setCell (p := ⟨w.heap.size, 2, none⟩) (Nat.le_refl _) _).setCell (p := ⟨w.heap.size, 3, none⟩) (Nat.le_refl _) _).setCell (p := ⟨w.heap.size, 4, none⟩) (Nat.le_refl _) _).setCell (p := ⟨w.heap.size, 5, none⟩) (Nat.le_refl _) _).setCell (p := ⟨w.heap.size, 6, none⟩) (Nat.le_refl _) _).setCell (p := ⟨w.heap.size, 7, none⟩) (Nat.le_refl _) _).setCell (p := ⟨w.heap.size, 8, none⟩) (Nat.le_refl _) _

set_option maxHeartbeats 1000000 in
theorem addSet_any (base : Nat) (v : Value) (l : List Int) (lo b : Nat) (w : World) (hb : b < 256) (_hlo : lo < 65536) (hown : OwnInts w base v l) (hbase : base ≤ w.heap.size) (hl : l.length ≤ 10000) :
    Calls Try.prog 117 #[v, .int .u16 lo, .int .u8 b] w fun e w' => ∃ v', e = .returned v' ∧ OwnInts w' base v' (l ++ byteNums lo b) ∧ Below base w w' := by
  obtain ⟨ao, cap, rfl⟩ := hown.shape
  have Hown : Hid (OwnInts w base (.slice ao l.length cap) l) := hown
  clear hown
  go_enter Try.func117, Try.ntmps117
  go_wp2_with fail
  refine (findBits_any b _ hb).mono ?_
  rintro e w1 ⟨rfl, hb1⟩
  have hown1 := Hown.out.below hb1
  have Hown1 : Hid (OwnInts w1 base (.slice ao l.length cap) l) := hown1
  have Hb1 : Hid (Below base w w1) := hb1.mono hbase
  have hw1 : base ≤ w1.heap.size := Nat.le_trans hbase hb1.size
  clear hown1 Hown hb1
  have hF := bitsF_length b 8
  have HF : Hid (byteNums lo b = (bitsF b 8).map fun i => (((lo + i) % 65536 : Nat) : Int)) := rfl
  generalize hf : bitsF b 8 = f at *
  unfold rowV
  go_wp2
  obtain ⟨W1, hW1⟩ : ∃ W1, W1 = w1.alloc (.cells #[.int .u8 f.length, .int .u8 (f[0]?.getD 0 : Nat), .int .u8 (f[1]?.getD 0 : Nat), .int .u8 (f[2]?.getD 0 : Nat), .int .u8 (f[3]?.getD 0 : Nat), .int .u8 (f[4]?.getD 0 : Nat), .int .u8 (f[5]?.getD 0 : Nat), .int .u8 (f[6]?.getD 0 : Nat), .int .u8 (f[7]?.getD 0 : Nat)] 194) := ⟨_, rfl⟩
  have Hcell : Hid (∀ j, j < 8 → W1.cell? ⟨w1.heap.size, 1 + j, none⟩ = some (.int .u8 (f[j]?.getD 0 : Nat))) := fun j hj => by
    rw [hW1, cell_new]
    rcases (show j = 0 ∨ j = 1 ∨ j = 2 ∨ j = 3 ∨ j = 4 ∨ j = 5 ∨ j = 6 ∨ j = 7 by omega) with rfl | rfl | rfl | rfl | rfl | rfl | rfl | rfl <;> rfl
  have Hb2 : Hid (Below base w W1) := by show Below _ _ _; rw [hW1]; exact Hb1.out.alloc hw1 _
  have HownW : Hid (OwnInts W1 base (.slice ao l.length cap) l) := by show OwnInts _ _ _ _; rw [hW1]; exact Hown1.out.alloc _
  have hgs : w1.heap.size < W1.heap.size := by rw [hW1]; simp
  have hng : (Value.slice ao l.length cap).ownBlock ≠ some w1.heap.size := fun e => by have := (World.ownsRow.lt Hown1.out _ e).2; omega
  rw [← hW1]
  clear hW1 Hb1 Hown1
  generalize w1.heap.size = g at *
  go_loopw [0, 13] (fun s0 s13 wr => ∃ k : Nat, k ≤ f.length ∧ s13 = .int .u8 k ∧ OwnInts wr base s0 (l ++ (f.take k).map fun i => (((lo + i) % 65536 : Nat) : Int)) ∧ Below base w wr ∧ wr.heap[g]? = W1.heap[g]? ∧ g < wr.heap.size ∧ s0.ownBlock ≠ some g ∧ base ≤ wr.heap.size) (fun _ s13 _ => f.length - (intOf s13).toNat)
  case atStart => exact ⟨0, Nat.zero_le _, rfl, by simpa using HownW.out, Hb2.out, rfl, hgs, hng, by omega⟩
  case round =>
    obtain ⟨k, hk, rfl, hown, hbw, hbl, hgl, hne, hbs⟩ := hrel
    obtain ⟨a1, c1, rfl⟩ := hown.shape
    obtain ⟨n, hn⟩ : ∃ n, n = (l ++ (f.take k).map fun i => (((lo + i) % 65536 : Nat) : Int)).length := ⟨_, rfl⟩
    rw [← hn] at hown ⊢
    have Hown : Hid (OwnInts wr base (.slice a1 n c1) (l ++ (f.take k).map fun i => (((lo + i) % 65536 : Nat) : Int))) := hown
    rw [← hn] at hne
    clear hn
    have Hbw : Hid (Below base w wr) := hbw
    clear hown hbw
    by_cases hlt : k < f.length
    · have hlt' : (k : Int) < f.length := by omega
      have hck : wr.cell? ⟨g, 1 + k, none⟩ = some (.int .u8 (f[k]?.getD 0 : Nat)) := (World.cell?_of_block (a := ⟨g, 1 + k, none⟩) (w := W1) (w' := wr) hbl).trans (Hcell.out k (by omega))
      have hfk : (f[k]?.getD 0) < 256 := by
        have hm : f[k]?.getD 0 ∈ bitsF b 8 := by rw [hf, List.getElem?_eq_getElem hlt]; exact List.getElem_mem hlt
        have := bitsF_lt hm
        omega
      have Htk : Hid ((f.take (k + 1)).map (fun i => (((lo + i) % 65536 : Nat) : Int)) = (f.take k).map (fun i => (((lo + i) % 65536 : Nat) : Int)) ++ [(((lo + f[k]?.getD 0) % 65536 : Nat) : Int)]) := by
        show _ = _
        rw [List.take_succ_eq_append_getElem hlt, List.map_append, List.getElem?_eq_getElem hlt]
        rfl
      have hlen : (l ++ (f.take k).map fun i => (((lo + i) % 65536 : Nat) : Int)).length ≤ 10008 := by rw [List.length_append, List.length_map, List.length_take]; omega
      generalize f[k]?.getD 0 = q at *
      generalize hLL : l ++ (f.take k).map (fun i => (((lo + i) % 65536 : Nat) : Int)) = L at *
      have HL : Hid (l ++ (f.take k).map (fun i => (((lo + i) % 65536 : Nat) : Int)) = L) := hLL
      have Hbl : Hid (wr.heap[g]? = W1.heap[g]?) := hbl
      clear hLL
      have hwq : IntKind.u16.wrap ((lo : Int) + q) = (((lo + q) % 65536 : Nat) : Int) := by simp [IntKind.wrap, IntKind.signed, IntKind.bits]
      have hq2 : ((lo + q) % 65536) < 65536 := Nat.mod_lt _ (by decide)
      generalize (lo + q) % 65536 = r at *
      clear hbl
      go_wp2_with (at_builtin; (
        refine wpList_append_int rfl (.tmp 16) (.tmp 25) rfl base _ L (r : Int) rfl (Hown.out.alloc _) _ 1 rfl ?_ (by omega) (by simp; omega) ?_
        · exact cell_one_new _ _ _ 0 _ rfl
        intro v' w2 hown' hgrow hob
        refine stop_here ?_))
      have R1 : Hid (OwnInts w2 base v' (L ++ [(r : Int)])) := hown'
      have hx2 : wr.heap.size < w2.heap.size := by have := hgrow.size; simp at this; omega
      have R2 : Hid (Below base w w2) := (Hbw.out.alloc hbs _).grown hgrow (by simp; omega) (fun x hx => (World.ownsRow.lt Hown.out x hx).1)
      have R3 : Hid (w2.heap[g]? = W1.heap[g]?) := (hgrow.block g (by simp; omega) (fun e => hne e.symm)).trans ((heap_alloc_old wr _ hgl).trans Hbl.out)
      have R4 : Hid (v'.ownBlock ≠ some g) := fun e => by
        rcases hob with h | h
        · exact hne (h ▸ e)
        · rw [e] at h; simp at h; omega
      obtain ⟨a2, c2, rfl⟩ := hown'.shape
      clear hown' hgrow hob
      refine hid_in ?_
      go_wp2
      go_roundw
      case rel => exact ⟨k + 1, by omega, by go_num, by rw [Htk.out, ← List.append_assoc, HL.out]; exact R1.out, R2.out, R3.out, by omega, R4.out, by omega⟩
      case measure => simp [intOf]; omega
    · have hke : k = f.length := by omega
      have hlt' : ¬ (k : Int) < f.length := by omega
      rw [hke, List.take_of_length_le (Nat.le_refl _), ← HF.out] at Hown
      go_wp2
      go_ret
      exact ⟨_, rfl, Hown.out, Hbw.out⟩

end Go.Proofs.Ytdjhhnolcafkiaa
