/- Plain facts on bytes and numbers: no program is named here. -/
import Derived.WalkKit
import Derived.Lib.Strings
import Derived.Laws.BitsAllLaws
import Derived.Test.YtdjhhnolcafkiaaChecked
import Derived.WalkSpells
import Derived.WalkLawsBesides
import Derived.Lib.AppendStr
import Derived.Laws.BytesString
import Derived.Maps.AppendAt
import Derived.Laws.OwnMore
import Derived.Lib.SliceRun
import Derived.ArgAppend
import Derived.Test.YtdjhhnolcafkiaaProg
namespace Go.Proofs.Ytdjhhnolcafkiaa
namespace Pk

theorem ret_int {k : IntKind} {a b : Int} (h : a = b) : Ending.returned (.int k a) = .returned (.int k b) := by rw [h]
theorem ret_bool {a b : Bool} (h : a = b) : Ending.returned (.bool a) = .returned (.bool b) := by rw [h]
theorem ret_string {a b : ByteArray} (h : a = b) : Ending.returned (.string a) = .returned (.string b) := by rw [h]

/-- a number out of bytes, the highest first -/
def num (l : List UInt8) : Nat := l.foldl (fun n b => n * 256 + b.toNat) 0

theorem num_snoc (l : List UInt8) (b : UInt8) : num (l ++ [b]) = num l * 256 + b.toNat := by
  simp [num, List.foldl_append]

theorem num_from (l : List UInt8) (a : Nat) : l.foldl (fun n b => n * 256 + b.toNat) a < (a + 1) * 256 ^ l.length := by
  induction l generalizing a with
  | nil => simp
  | cons b l ih =>
    have h := ih (a * 256 + b.toNat)
    have hb := b.toNat_lt
    rw [List.length_cons, Nat.pow_succ, List.foldl_cons]
    refine Nat.lt_of_lt_of_le h ?_
    rw [Nat.mul_comm (256 ^ l.length) 256, ← Nat.mul_assoc]
    exact Nat.mul_le_mul_right _ (by omega)

theorem num_lt (l : List UInt8) : num l < 256 ^ l.length := by
  have := num_from l 0
  simpa [num] using this

theorem take_snoc (s : ByteArray) (k : Nat) (h : k < s.size) : s.data.toList.take (k + 1) = s.data.toList.take k ++ [s[k]] := by
  rw [List.take_succ_eq_append_getElem (by simpa using h)]; rfl

theorem take_all (s : ByteArray) (k : Nat) (h : s.size ≤ k) : s.data.toList.take k = s.data.toList := List.take_of_length_le (by simpa using h)

theorem ofInt64 (a : Nat) (ha : a < 9223372036854775808) : (BitVec.ofInt 64 (a : Int)).toNat = a := by
  rw [BitVec.ofInt_natCast, BitVec.toNat_ofNat]; exact Nat.mod_eq_of_lt (by omega)
theorem wrapI64 (n : Int) (h0 : 0 ≤ n) (h1 : n < 9223372036854775808) : IntKind.i64.wrap n = n := by
  simp [IntKind.wrap, IntKind.bits, IntKind.signed]; omega
theorem or64 (a b : Nat) (ha : a < 9223372036854775808) (hb : b < 9223372036854775808) : bits .or .i64 (a : Int) (b : Int) = ((a ||| b : Nat) : Int) := by
  have hx : a ||| b < 2 ^ 63 := Nat.or_lt_two_pow (by omega) (by omega)
  show IntKind.i64.wrap ((BitVec.ofInt 64 (a : Int) ||| BitVec.ofInt 64 (b : Int)).toNat : Int) = _
  rw [BitVec.toNat_or, ofInt64 a ha, ofInt64 b hb, wrapI64 _ (by omega) (by omega)]
theorem wrap64_id (n : Int) (h0 : 0 ≤ n) (h1 : n < 9223372036854775808) : Go.RowKit.wrap64 n = n := by unfold Go.RowKit.wrap64; omega
/-- 'n << 8 | b' -/
theorem or_byte (n : Nat) (b : UInt8) (h : n < 4294967296) : bits .or .i64 (Go.RowKit.wrap64 ((n : Int) * 256)) (Go.RowKit.wrap64 (b.toNat : Int)) = ((n * 256 + b.toNat : Nat) : Int) := by
  have hb := b.toNat_lt
  rw [wrap64_id _ (by omega) (by omega), wrap64_id _ (by omega) (by omega)]
  have e : ((n : Int) * 256) = ((n * 256 : Nat) : Int) := by omega
  rw [e, or64 _ _ (by omega) (by omega), nat_join 8 (n * 256) b.toNat (by omega) (by omega)]
theorem num_byte (s : ByteArray) (k : Nat) (h : k < s.size) (hs : s.size ≤ 4) :
    bits .or .i64 (Go.RowKit.wrap64 ((num (s.data.toList.take k) : Int) * 256)) (Go.RowKit.wrap64 (s[k].toNat : Int)) = (num (s.data.toList.take (k + 1)) : Int) := by
  rw [take_snoc s k h, num_snoc]
  refine or_byte _ _ ?_
  have h1 := num_lt (s.data.toList.take k)
  have h2 : (s.data.toList.take k).length ≤ 4 := by rw [List.length_take]; omega
  have h3 : 256 ^ (s.data.toList.take k).length ≤ 256 ^ 4 := Nat.pow_le_pow_right (by omega) h2
  omega

/-- are all bytes noughts? -/
def noughts (l : List UInt8) : Bool := l.all (· == 0)
theorem noughts_snoc (l : List UInt8) (b : UInt8) : noughts (l ++ [b]) = (noughts l && b == 0) := by simp [noughts]
theorem noughts_false (l : List UInt8) (k : Nat) (h : noughts (l.take k) = false) : noughts l = false := by
  cases e : noughts l with
  | false => rfl
  | true =>
    have : noughts (l.take k) = true := by
      simp only [noughts, List.all_eq_true] at e ⊢
      exact fun x hx => e x (List.mem_of_mem_take hx)
    rw [this] at h; cases h

/-- are all numbers from 0 to most? -/
def allIn (l : List Int) (most : Int) : Bool := l.all fun n => decide (0 ≤ n ∧ n ≤ most)

/-- which of n things a raw number speaks of -/
def pickF (c n : Int) : Int := (if c < 0 then -(c + 1) else c) % n
theorem pickF_lo (c n : Int) (h : 1 ≤ n) : 0 ≤ pickF c n := Int.emod_nonneg _ (by omega)
theorem pickF_hi (c n : Int) (h : 1 ≤ n) : pickF c n < n := Int.emod_lt_of_pos _ (by omega)
/-- a text of at most n bytes -/
def cutF (s : ByteArray) (n : Nat) : ByteArray := if n < s.size then s.extract 0 n else s
theorem cutF_size (s : ByteArray) (n : Nat) : (cutF s n).size ≤ n := by
  unfold cutF
  split
  · simp only [ByteArray.size_extract]; omega
  · omega

theorem lt_of_cell {w : World} {a : Addr} {v : Value} (h : w.cell? a = some v) : a.block < w.heap.size := by
  rcases Nat.lt_or_ge a.block w.heap.size with h' | h'
  · exact h'
  · have e : w.heap[a.block]? = none := Array.getElem?_eq_none h'
    simp [World.cell?, e] at h

/-- the slice v, of memory below block B, holds the numbers l -/
def IsInts (B : Nat) (w : World) (v : Value) (l : List Int) : Prop :=
  ∃ ao cap, v = .slice ao l.length cap ∧ ∀ j, j < l.length → ∃ b off, ao = some ⟨b, off, none⟩ ∧ b < B ∧ w.cell? ⟨b, off + j, none⟩ = some (.int .i64 (l.getD j 0))

theorem IsInts.carry {B : Nat} {w w' : World} {v : Value} {l : List Int} (h : IsInts B w v l) (hb : Go.RowKit.Below B w w') : IsInts B w' v l := by
  obtain ⟨ao, cap, rfl, hc⟩ := h
  refine ⟨ao, cap, rfl, fun j hj => ?_⟩
  obtain ⟨b, off, e, hlt, hcell⟩ := hc j hj
  exact ⟨b, off, e, hlt, (hb.cell hlt).trans hcell⟩

theorem IsInts.mono {B B' : Nat} {w : World} {v : Value} {l : List Int} (h : IsInts B w v l) (hB : B ≤ B') : IsInts B' w v l := by
  obtain ⟨ao, cap, rfl, hc⟩ := h
  refine ⟨ao, cap, rfl, fun j hj => ?_⟩
  obtain ⟨b, off, e, hlt, hcell⟩ := hc j hj
  exact ⟨b, off, e, by omega, hcell⟩

theorem IsInts.alloc {B : Nat} {w : World} {v : Value} {l : List Int} (h : IsInts B w v l) (hB : B ≤ w.heap.size) (o : Obj) : IsInts B (w.alloc o) v l :=
  h.carry ((Go.RowKit.Below.refl _ _).alloc hB _)

/-- nothing is in it, or it lies in one row -/
theorem IsInts.cases {B : Nat} {w : World} {v : Value} {l : List Int} (h : IsInts B w v l) :
    (∃ ao cap, v = .slice ao 0 cap ∧ l = []) ∨ ∃ b off cap, v = .slice (some ⟨b, off, none⟩) l.length cap ∧ 0 < l.length ∧ b < B ∧ ∀ j, j < l.length → w.cell? ⟨b, off + j, none⟩ = some (.int .i64 (l.getD j 0)) := by
  obtain ⟨ao, cap, rfl, hc⟩ := h
  cases l with
  | nil => exact .inl ⟨ao, cap, rfl, rfl⟩
  | cons x l =>
    obtain ⟨b, off, rfl, hlt, hcell⟩ := hc 0 (by simp)
    refine .inr ⟨b, off, cap, rfl, by simp, hlt, fun j hj => ?_⟩
    obtain ⟨b', off', e, _, h'⟩ := hc j hj
    simp only [Option.some.injEq, Addr.mk.injEq, and_true] at e
    obtain ⟨rfl, rfl⟩ := e
    exact h'

theorem allIn_take_succ (l : List Int) (k : Nat) (m : Int) (h : k < l.length) : allIn (l.take (k + 1)) m = (allIn (l.take k) m && decide (0 ≤ l.getD k 0 ∧ l.getD k 0 ≤ m)) := by
  rw [List.take_succ_eq_append_getElem h, allIn, allIn, List.all_append]
  simp [h]
theorem allIn_false (l : List Int) (k : Nat) (m : Int) (h : allIn (l.take k) m = false) : allIn l m = false := by
  cases e : allIn l m with
  | false => rfl
  | true =>
    have : allIn (l.take k) m = true := by
      simp only [allIn, List.all_eq_true] at e ⊢
      exact fun x hx => e x (List.mem_of_mem_take hx)
    rw [this] at h; cases h

/-- the tests of a packet that is to be told -/
def headOk (ty nu ti so : Int) (cl : List Int) : Bool := decide (0 ≤ ty ∧ ty ≤ 127) && decide (0 ≤ nu ∧ nu ≤ 65535) && decide (0 ≤ ti ∧ ti ≤ 4294967295) && decide (0 ≤ so ∧ so ≤ 4294967295) && decide (cl.length ≤ 15) && allIn cl 4294967295
def extOk (ex : Bool) (pr : Int) (en : ByteArray) : Bool := if ex then decide (0 ≤ pr ∧ pr ≤ 65535) && decide (en.size % 4 = 0) else decide (pr = 0) && decide (en.size = 0)
theorem extOk_no (pr : Int) (en : ByteArray) : extOk false pr en = (decide (pr = 0) && decide (en.size = 0)) := rfl
theorem isEmpty_size (s : ByteArray) : s.toList.isEmpty = decide (s.size = 0) := by
  rw [Go.Lib.toList_data, Bool.eq_iff_iff, List.isEmpty_iff, decide_eq_true_iff]
  constructor
  · intro h; rw [Go.Lib.size_eq, h]; rfl
  · intro h; exact List.eq_nil_of_length_eq_zero (by rw [← Go.Lib.size_eq, h])
theorem extOk_yes (pr : Int) (en : ByteArray) : extOk true pr en = (decide (0 ≤ pr ∧ pr ≤ 65535) && decide (en.size % 4 = 0)) := rfl

theorem allIn_at (l : List Int) (k : Nat) (m : Int) (h : k < l.length) (hi : allIn l m = true) : 0 ≤ l.getD k 0 ∧ l.getD k 0 ≤ m := by
  simp only [allIn, List.all_eq_true, decide_eq_true_eq] at hi
  have e : l.getD k 0 = l[k] := by simp [List.getD, h]
  rw [e]
  exact hi _ (List.getElem_mem h)

/-- a number as k bytes, the highest first -/
def told : Nat → Nat → List UInt8
  | _, 0 => []
  | v, k + 1 => told (v / 256) k ++ [UInt8.ofNat (v % 256)]
theorem told_length (v k : Nat) : (told v k).length = k := by
  induction k generalizing v with
  | zero => rfl
  | succ k ih => simp [told, ih]
theorem told_get (v k i : Nat) (h : i < k) : (told v k)[i]? = some (UInt8.ofNat (v / 256 ^ (k - 1 - i) % 256)) := by
  induction k generalizing v with
  | zero => omega
  | succ k ih =>
    rw [told]
    by_cases h' : i < k
    · rw [List.getElem?_append_left (by rw [told_length]; exact h'), ih (v / 256) h', Nat.div_div_eq_div_mul, ← Nat.pow_succ']
      rw [show (k - 1 - i).succ = k + 1 - 1 - i by omega]
    · have e : i = k := by omega
      subst e
      rw [List.getElem?_append_right (by rw [told_length]; exact Nat.le_refl _), told_length]
      simp
theorem told_take (v k i : Nat) (h : i < k) : (told v k).take (i + 1) = (told v k).take i ++ [UInt8.ofNat (v / 256 ^ (k - 1 - i) % 256)] := by
  have hl : i < (told v k).length := by rw [told_length]; exact h
  have hg := told_get v k i h
  rw [List.getElem?_eq_getElem hl, Option.some.injEq] at hg
  rw [List.take_succ_eq_append_getElem hl, hg]

/-- 'byte(x >> (8 * m))' -/
theorem byte_at (x m : Nat) : ((x : Int) / 2 ^ (8 * m) % 256) = ((UInt8.ofNat (x / 256 ^ m % 256)).toNat : Int) := by
  have e : (256 : Nat) ^ m = 2 ^ (8 * m) := by rw [Nat.pow_mul]
  have h2 : (UInt8.ofNat (x / 256 ^ m % 256)).toNat = x / 2 ^ (8 * m) % 256 := by
    rw [UInt8.toNat_ofNat', e]; exact Nat.mod_mod _ _
  rw [h2, Int.natCast_emod, Int.natCast_ediv, Int.natCast_pow]
  rfl

/-- the padding's bytes -/
def padB (p : Nat) : List UInt8 := if p = 0 then [] else List.replicate (p - 1) 0 ++ [UInt8.ofNat p]
theorem padB_length (p : Nat) : (padB p).length = p := by
  unfold padB
  split
  · simp; omega
  · simp; omega
/-- the extension's bytes -/
def extB (ex : Bool) (pr : Nat) (en : List UInt8) : List UInt8 := if ex then told pr 2 ++ told (en.length / 4) 2 ++ en else []
theorem extB_length (ex : Bool) (pr : Nat) (en : List UInt8) : (extB ex pr en).length = if ex then 4 + en.length else 0 := by
  cases ex
  · rfl
  · simp [extB, told_length]; omega
/-- the contributors' bytes -/
def conB : List Int → List UInt8
  | [] => []
  | c :: l => told c.toNat 4 ++ conB l
theorem conB_length (l : List Int) : (conB l).length = 4 * l.length := by
  induction l with
  | nil => rfl
  | cons c l ih => simp [conB, told_length, ih]; omega
theorem conB_append (a b : List Int) : conB (a ++ b) = conB a ++ conB b := by
  induction a with
  | nil => rfl
  | cons c l ih => simp [conB, ih]
theorem conB_take (l : List Int) (k : Nat) (h : k < l.length) : conB (l.take (k + 1)) = conB (l.take k) ++ told (l.getD k 0).toNat 4 := by
  rw [List.take_succ_eq_append_getElem h, conB_append]
  simp [conB, h]

/-- a packet's first byte, its second -/
def hdB (n : Nat) (pad ex : Bool) : UInt8 := UInt8.ofNat (128 + n + (if pad then 32 else 0) + if ex then 16 else 0)
def tyB (ty : Nat) (mk : Bool) : UInt8 := UInt8.ofNat (ty + if mk then 128 else 0)
theorem hdB_toNat (n : Nat) (pad ex : Bool) (h : n ≤ 15) : (hdB n pad ex).toNat = 128 + n + (if pad then 32 else 0) + if ex then 16 else 0 := by
  rw [hdB, UInt8.toNat_ofNat']
  exact Nat.mod_eq_of_lt (by cases pad <;> cases ex <;> simp <;> omega)
theorem tyB_toNat (ty : Nat) (mk : Bool) (h : ty ≤ 127) : (tyB ty mk).toNat = ty + if mk then 128 else 0 := by
  rw [tyB, UInt8.toNat_ofNat']
  exact Nat.mod_eq_of_lt (by cases mk <;> simp <;> omega)
theorem hd_val {v : Int} {n : Nat} {pad ex : Bool} (hn : n ≤ 15) (h : v = 128 + n + (if pad then 32 else 0) + if ex then 16 else 0) : Value.int .u8 v = .int .u8 ((hdB n pad ex).toNat : Int) := by
  rw [h, hdB_toNat n pad ex hn]; cases pad <;> cases ex <;> simp
theorem ty_val {v : Int} {ty : Nat} {mk : Bool} (hn : ty ≤ 127) (h : v = ty + if mk then 128 else 0) : Value.int .u8 v = .int .u8 ((tyB ty mk).toNat : Int) := by
  rw [h, tyB_toNat ty mk hn]; cases mk <;> simp
theorem or_n (n : Nat) (h : n ≤ 15) : bits .or .i64 128 (n : Int) = 128 + n := by
  have e := or64 128 n (by omega) (by omega)
  have d : ∀ m, m < 16 → (128 ||| m : Nat) = 128 + m := by decide
  rw [d n (by omega)] at e
  exact e
theorem or_32 (n : Nat) (h : n ≤ 15) : bits .or .i64 (128 + (n : Int)) 32 = 160 + n := by
  have e := or64 (128 + n) 32 (by omega) (by omega)
  have d : ∀ m, m < 16 → ((128 + m) ||| 32 : Nat) = 160 + m := by decide
  rw [d n (by omega)] at e
  exact e
theorem or_16 (n : Nat) (h : n ≤ 15) : bits .or .i64 (128 + (n : Int)) 16 = 144 + n := by
  have e := or64 (128 + n) 16 (by omega) (by omega)
  have d : ∀ m, m < 16 → ((128 + m) ||| 16 : Nat) = 144 + m := by decide
  rw [d n (by omega)] at e
  exact e
theorem or_48 (n : Nat) (h : n ≤ 15) : bits .or .i64 (160 + (n : Int)) 16 = 176 + n := by
  have e := or64 (160 + n) 16 (by omega) (by omega)
  have d : ∀ m, m < 16 → ((160 + m) ||| 16 : Nat) = 176 + m := by decide
  rw [d n (by omega)] at e
  exact e
theorem or_128 (n : Nat) (h : n ≤ 127) : bits .or .i64 (n : Int) 128 = n + 128 := by
  have e := or64 n 128 (by omega) (by omega)
  rw [Nat.or_comm, nat_join 7 128 n (by omega) (by omega), Nat.add_comm] at e
  exact e

/-- the bytes ahead of the contributors -/
def headB (n : Nat) (mk pad ex : Bool) (ty nu ti so : Nat) : List UInt8 := [hdB n pad ex, tyB ty mk] ++ told nu 2 ++ told ti 4 ++ told so 4
theorem headB_length (n : Nat) (mk pad ex : Bool) (ty nu ti so : Nat) : (headB n mk pad ex ty nu ti so).length = 12 := by simp [headB, told_length]

/-- how long a packet is; its bytes; what is told of it -/
def plen (ex : Bool) (cl : List Int) (en py : ByteArray) (pa : Int) : Int := 12 + 4 * cl.length + py.size + pa + if ex then 4 + en.size else 0
def tellB (mk ex : Bool) (ty nu ti so pr pa : Int) (cl : List Int) (en py : ByteArray) : List UInt8 :=
  headB cl.length mk (decide (0 < pa)) ex ty.toNat nu.toNat ti.toNat so.toNat ++ conB cl ++ extB ex pr.toNat en.data.toList ++ py.data.toList ++ padB pa.toNat
def tellOk (ex : Bool) (ty nu ti so pr pa : Int) (cl : List Int) (en : ByteArray) : Bool := headOk ty nu ti so cl && extOk ex pr en && decide (0 ≤ pa ∧ pa ≤ 255)
def tellR (mk ex : Bool) (ty nu ti so pr pa : Int) (cl : List Int) (en py : ByteArray) : ByteArray × Int :=
  if tellOk ex ty nu ti so pr pa cl en then (if 1500 < plen ex cl en py pa then (⟨#[]⟩, 1) else (⟨(tellB mk ex ty nu ti so pr pa cl en py).toArray⟩, 0)) else (⟨#[]⟩, 2)
theorem headOk_of {ty nu ti so : Int} {cl : List Int} (h : headOk ty nu ti so cl = true) :
    (0 ≤ ty ∧ ty ≤ 127) ∧ (0 ≤ nu ∧ nu ≤ 65535) ∧ (0 ≤ ti ∧ ti ≤ 4294967295) ∧ (0 ≤ so ∧ so ≤ 4294967295) ∧ cl.length ≤ 15 ∧ allIn cl 4294967295 = true := by
  simp only [headOk, Bool.and_eq_true, decide_eq_true_eq] at h
  exact ⟨h.1.1.1.1.1, h.1.1.1.1.2, h.1.1.1.2, h.1.1.2, h.1.2, h.2⟩

end Pk
end Go.Proofs.Ytdjhhnolcafkiaa

/- Lists of numbers of the call's own: how they are kept. -/
namespace Go.Proofs.Ytdjhhnolcafkiaa
open Go.RowKit
namespace Pk
/-- a list of the call's own holds l -/
def OwnInts (w : World) (base : Nat) (v : Value) (l : List Int) : Prop := w.ownsRow base 3 1 v l.length (l.map (Value.int .i64))
theorem OwnInts.isInts {w : World} {base : Nat} {v : Value} {l : List Int} (h : OwnInts w base v l) : IsInts w.heap.size w v l := by
  obtain ⟨h1, h2 | ⟨g, cap, cur, rfl, hb, hg, hn, hc, hs, ht⟩⟩ := h
  · obtain ⟨rfl, h0⟩ := h2
    refine ⟨none, 0, by rw [h0], fun j hj => by omega⟩
  · have hlt : g < w.heap.size := by
      rcases Nat.lt_or_ge g w.heap.size with h' | h'
      · exact h'
      · rw [Array.getElem?_eq_none h'] at hg; cases hg
    refine ⟨some ⟨g, 0, none⟩, cap, rfl, fun j hj => ⟨g, 0, rfl, hlt, ?_⟩⟩
    have e : cur.toList[j]? = some (.int .i64 (l.getD j 0)) := by
      have e1 : (cur.toList.take (l.length * 1))[j]? = some (.int .i64 (l.getD j 0)) := by
        rw [ht]; simp [hj]
      rw [List.getElem?_take] at e1
      rwa [if_pos (by omega)] at e1
    simp [World.cell?, hg]
    simpa using e
theorem OwnInts.alloc {w : World} {base : Nat} {v : Value} {l : List Int} (h : OwnInts w base v l) (o : Obj) : OwnInts (w.alloc o) base v l := World.ownsRow.alloc h o

theorem OwnInts.shape {w : World} {base : Nat} {v : Value} {l : List Int} (h : OwnInts w base v l) : ∃ ao cap, v = .slice ao l.length cap := by
  obtain ⟨_, h2 | ⟨g, cap, cur, rfl, _⟩⟩ := h
  · exact ⟨none, 0, by rw [h2.1, h2.2]⟩
  · exact ⟨_, _, rfl⟩
theorem OwnInts.mono {w : World} {base base' : Nat} {v : Value} {l : List Int} (h : OwnInts w base v l) (hb : base' ≤ base) : OwnInts w base' v l := by
  obtain ⟨h1, h2 | ⟨g, cap, cur, e, hg, r⟩⟩ := h
  · exact ⟨h1, .inl h2⟩
  · exact ⟨h1, .inr ⟨g, cap, cur, e, by omega, r⟩⟩
theorem OwnInts.below {w w' : World} {base : Nat} {v : Value} {l : List Int} (h : OwnInts w base v l) (hb : Below w.heap.size w w') : OwnInts w' base v l := by
  obtain ⟨h1, h2 | ⟨g, cap, cur, e, hg, hh, r⟩⟩ := h
  · exact ⟨h1, .inl h2⟩
  · have hlt : g < w.heap.size := by
      rcases Nat.lt_or_ge g w.heap.size with h' | h'
      · exact h'
      · rw [Array.getElem?_eq_none h'] at hh; cases hh
    exact ⟨h1, .inr ⟨g, cap, cur, e, hg, (hb.block g hlt).trans hh, r⟩⟩
theorem OwnInts.setCell {w : World} {base : Nat} {v : Value} {l : List Int} (h : OwnInts w base v l) {a : Addr} (ha : a.block < base) (u : Value) : OwnInts (w.setCell a u) base v l :=
  ownsRow_setCell_below h ha u
end Pk
end Go.Proofs.Ytdjhhnolcafkiaa

/- The book of lists that came out: plain facts on what it holds. -/
namespace Go.Proofs.Ytdjhhnolcafkiaa
open Go.RowKit
namespace Pk

/-- only the blocks T, and new ones, have turned -/
structure Chg (T : Nat → Prop) (W W' : World) : Prop where
  os : W'.os = W.os
  tape : W'.tape = W.tape
  output : W'.output = W.output
  size : W.heap.size ≤ W'.heap.size
  block : ∀ k, k < W.heap.size → ¬ T k → W'.heap[k]? = W.heap[k]?

theorem Chg.refl (T : Nat → Prop) (W : World) : Chg T W W := ⟨rfl, rfl, rfl, Nat.le_refl _, fun _ _ _ => rfl⟩
theorem Chg.trans {T T' : Nat → Prop} {a b c : World} (h : Chg T a b) (k : Chg T' b c) (hT : ∀ x, x < a.heap.size → T' x → T x) : Chg T a c :=
  ⟨k.os.trans h.os, k.tape.trans h.tape, k.output.trans h.output, Nat.le_trans h.size k.size, fun x hx hn => (k.block x (Nat.lt_of_lt_of_le hx h.size) (fun e => hn (hT x hx e))).trans (h.block x hx hn)⟩
theorem Chg.mono {T T' : Nat → Prop} {a b : World} (h : Chg T a b) (hT : ∀ x, x < a.heap.size → T x → T' x) : Chg T' a b :=
  ⟨h.os, h.tape, h.output, h.size, fun x hx hn => h.block x hx (fun e => hn (hT x hx e))⟩
theorem Chg.ofBelow {T : Nat → Prop} {a b : World} (h : Below a.heap.size a b) : Chg T a b := ⟨h.os, h.tape, h.output, h.size, fun x hx _ => h.block x hx⟩
theorem Chg.ofGrown {a b : World} {row : Option Nat} (h : a.grownBy b row) : Chg (fun x => row = some x) a b := ⟨h.os, h.tape, h.output, h.size, fun x hx hn => h.block x hx (fun e => hn e.symm)⟩
theorem Chg.below {T : Nat → Prop} {a b : World} {B : Nat} (h : Chg T a b) (hB : B ≤ a.heap.size) (hT : ∀ x, T x → B ≤ x) : Below B a b :=
  ⟨h.os, h.tape, h.output, h.size, fun x hx => h.block x (by omega) (fun e => by have := hT x e; omega)⟩
theorem Chg.alloc {T : Nat → Prop} {a b : World} (h : Chg T a b) (o : Obj) : Chg T a (b.alloc o) :=
  h.trans (Chg.ofBelow (T := T) ((Below.refl _ _).alloc (Nat.le_refl _) o)) (fun _ _ e => e)
theorem Chg.setCell {T : Nat → Prop} {a b : World} (h : Chg T a b) (p : Addr) (hp : T p.block ∨ a.heap.size ≤ p.block) (u : Value) : Chg T a (b.setCell p u) :=
  h.trans (T' := fun x => x = p.block) ⟨rfl, rfl, rfl, by simp, fun x _ hn => heap_setCell_other b p x u (fun e => hn e)⟩ (fun x hx e => by subst e; rcases hp with h | h; exact h; omega)
theorem Chg.drew {T : Nat → Prop} {a b : World} (h : Chg T a b) : Chg T a b.drew := ⟨h.os, h.tape, h.output, h.size, h.block⟩
theorem Chg.cell {T : Nat → Prop} {a b : World} (h : Chg T a b) {p : Addr} {u : Value} (hp : a.cell? p = some u) (hn : ¬ T p.block) : b.cell? p = some u :=
  (World.cell?_of_block (h.block p.block (lt_of_cell hp) hn)).trans hp
theorem Chg.frozen {T : Nat → Prop} {a b : World} (h : Chg T a b) {p : Addr} (hl : p.block < a.heap.size) (hn : ¬ T p.block) : b.frozen? p = a.frozen? p :=
  World.frozen?_of_block (h.block p.block hl hn)
theorem Chg.row {T : Nat → Prop} {a b : World} {base e n : Nat} {v : Value} {xs : List Value} (h : Chg T a b) (ho : a.ownsRow base e 1 v n xs) (hn : ∀ x, v.ownBlock = some x → ¬ T x) : b.ownsRow base e 1 v n xs := by
  have hl := ho.lt
  obtain ⟨h1, h2 | ⟨g, cap, cur, rfl, hb, hh, r⟩⟩ := ho
  · exact ⟨h1, .inl h2⟩
  · exact ⟨h1, .inr ⟨g, cap, cur, rfl, hb, (h.block g (hl g rfl).2 (hn g rfl)).trans hh, r⟩⟩

/-- a list of the caller's, all of one mark -/
def Mk (W : World) (base : Nat) (v : Value) (n : Nat) (m : Int) : Prop := W.ownsRow base 3 1 v n (List.replicate n (.int .i64 m))

theorem Mk.chg {T : Nat → Prop} {a b : World} {base n : Nat} {v : Value} {m : Int} (h : Mk a base v n m) (hc : Chg T a b) (hn : ∀ x, v.ownBlock = some x → ¬ T x) : Mk b base v n m := hc.row h hn
theorem Mk.shape {W : World} {base n : Nat} {v : Value} {m : Int} (h : Mk W base v n m) : ∃ ao cap, v = .slice ao n cap := by
  obtain ⟨_, h2 | ⟨g, cap, cur, rfl, _⟩⟩ := h
  · exact ⟨none, 0, by rw [h2.1, h2.2]⟩
  · exact ⟨_, _, rfl⟩
theorem Mk.cell {W : World} {base n cap : Nat} {ao : Option Addr} {m : Int} (h : Mk W base (.slice ao n cap) n m) (k : Nat) (hk : k < n) : ∃ b, ao = some ⟨b, 0, none⟩ ∧ base ≤ b ∧ b < W.heap.size ∧ W.cell? ⟨b, 0 + k, none⟩ = some (.int .i64 m) := by
  obtain ⟨h1, h2 | ⟨g, cap', cur, e, hb, hg, hn, hc, hs, ht⟩⟩ := h
  · obtain ⟨_, h0⟩ := h2; omega
  · simp only [Value.slice.injEq] at e
    obtain ⟨rfl, _, rfl⟩ := e
    have hM : Mk W base (.slice (some ⟨g, 0, none⟩) n cap) n m := ⟨h1, .inr ⟨g, cap, cur, rfl, hb, hg, hn, hc, hs, ht⟩⟩
    have h3 := World.ownsRow.cellAt hM k (by omega)
    refine ⟨g, rfl, hb, (World.ownsRow.lt hM g rfl).2, ?_⟩
    rw [Nat.zero_add, h3]
    simp [hk]

/-- append of marks: whatever lists of that mark there were, they are still -/
theorem append_marks (w : World) (base : Nat) (ty : TypeId) (i : TypeInfo) (hi : Try.prog.info? 3 = some i) (hz : i.zero = some (.int .i64 0)) (hsize : i.size = 1) (hby : i.bytes = 8)
    (v : Value) (n j : Nat) (m : Int) (hown : Mk w base v n m) (ad : Addr) (c : Nat) (hnews : ∀ k u, (List.replicate j (Value.int .i64 m))[k]? = some u → w.cell? (ad.add k) = some u)
    (hn : n + j ≤ 100) (hbase : base ≤ w.heap.size) :
    ∃ v' w', (Builtin.append_ #[27, 27] ty #[v, .slice (some ad) j c]).run Try.prog w = .ok v' w' ∧ Mk w' base v' (n + j) m ∧ (∀ u k, k ≤ n + j → Mk w base u k m → Mk w' base u k m) ∧ w.grownBy w' v.ownBlock ∧
      (v'.ownBlock = v.ownBlock ∨ v'.ownBlock = some w.heap.size) := by
  obtain ⟨v', w', hr, h2, h3, h4, h5⟩ := run_append_own_at (P := Try.prog) w base 27 ty 3 i (.int .i64 0) 1 8 Try.underlying27 hi hz hsize hby rfl (by decide) v n (List.replicate n (.int .i64 m)) hown ad j c (List.replicate j (.int .i64 m))
    (by simp) hnews (by intro u hu; rw [List.mem_replicate] at hu; rw [hu.2]; rfl) (by unfold maxLen; omega) (by omega) hbase
  have h2' : Mk w' base v' (n + j) m := by
    unfold Mk
    rw [← List.replicate_append_replicate]
    exact h2
  refine ⟨v', w', hr, h2', ?_, h3, h5⟩
  intro u k hk hu
  by_cases hb : u.ownBlock = none ∨ u.ownBlock ≠ v.ownBlock
  · exact World.ownsRow.kept hu h3 hb
  · have hb1 : u.ownBlock = v.ownBlock := by
      rcases Decidable.em (u.ownBlock = v.ownBlock) with h | h
      · exact h
      · exact absurd (.inr h) hb
    have hb2 : u.ownBlock ≠ none := fun e => hb (.inl e)
    obtain ⟨hu1, hu2 | ⟨g, cap, cur, rfl, hbg, hg, hnc, hcm, hcs, hct⟩⟩ := hu
    · rw [hu2.1] at hb2; exact absurd rfl hb2
    · have hvg : v.ownBlock = some g := hb1.symm
      have hglt : g < w.heap.size := (World.ownsRow.lt hown g hvg).2
      obtain ⟨_, hv2 | ⟨g', capv, curv, rfl, hbv, hgv, hncv, hcmv, hcsv, hctv⟩⟩ := hown
      · rw [hv2.1] at hvg; cases hvg
      · have eg : g' = g := by simpa [Value.ownBlock] using hvg
        subst eg
        rw [hg] at hgv
        simp only [Option.some.injEq, Obj.cells.injEq, and_true] at hgv
        obtain ⟨rfl, _⟩ := hgv
        rcases h5 with h5 | h5
        · obtain ⟨_, hw2 | ⟨g2, cap2, cur2, rfl, hb2', hg2, hnc2, hcm2, hcs2, hct2⟩⟩ := h2'
          · rw [hw2.1] at h5; cases h5
          · have eg2 : g2 = g' := by simpa [Value.ownBlock] using h5
            subst eg2
            by_cases hroom : n + j ≤ capv
            · have hr2 := run_append_room (P := Try.prog) w 27 ty 3 i Try.underlying27 hi g2 n capv cur hg ad j c (List.replicate j (.int .i64 m)) (by rw [hsize]; simp) hnews (by intro u hu; rw [List.mem_replicate] at hu; rw [hu.2]; rfl) hroom (by rw [hsize, List.length_replicate]; omega)
              rw [hr] at hr2
              simp only [Result.ok.injEq, Value.slice.injEq] at hr2
              have hcc : cap2 = capv := hr2.1.2.2
              refine ⟨hu1, .inr ⟨g2, cap, cur2, rfl, hbg, hg2, hnc, hcm, by omega, ?_⟩⟩
              rw [Nat.mul_one] at hct2 ⊢
              have := congrArg (List.take k) hct2
              rw [List.take_take, Nat.min_eq_left hk] at this
              rw [this, List.take_replicate, Nat.min_eq_left hk]
            · exfalso
              have hr2 := run_append_grow (P := Try.prog) w 27 ty 3 i (.int .i64 0) Try.underlying27 hi hz ⟨g2, 0, none⟩ n capv (List.replicate n (.int .i64 m)) (by rw [hsize]; simp) (World.ownsRow.cells (e := 3) (size := 1) (base := base) (v := .slice (some ⟨g2, 0, none⟩) n capv) (n := n) ⟨by simp, .inr ⟨g2, capv, cur, rfl, hbv, hg, hncv, hcmv, hcsv, hctv⟩⟩ rfl) ad j c (List.replicate j (.int .i64 m)) (by rw [hsize]; simp) hnews (by omega) (by omega) (by rw [hby]; exact growslice_fits (by omega) (by omega))
              rw [hr] at hr2
              simp only [Result.ok.injEq, Value.slice.injEq, Option.some.injEq, Addr.mk.injEq] at hr2
              omega
        · by_cases hroom : n + j ≤ capv
          · exfalso
            have hr2 := run_append_room (P := Try.prog) w 27 ty 3 i Try.underlying27 hi g' n capv cur hg ad j c (List.replicate j (.int .i64 m)) (by rw [hsize]; simp) hnews (by intro u hu; rw [List.mem_replicate] at hu; rw [hu.2]; rfl) hroom (by rw [hsize, List.length_replicate]; omega)
            rw [hr] at hr2
            simp only [Result.ok.injEq] at hr2
            rw [hr2.1] at h5
            simp [Value.ownBlock] at h5
            omega
          · have hr2 := run_append_grow (P := Try.prog) w 27 ty 3 i (.int .i64 0) Try.underlying27 hi hz ⟨g', 0, none⟩ n capv (List.replicate n (.int .i64 m)) (by rw [hsize]; simp) (World.ownsRow.cells (e := 3) (size := 1) (base := base) (v := .slice (some ⟨g', 0, none⟩) n capv) (n := n) ⟨by simp, .inr ⟨g', capv, cur, rfl, hbv, hg, hncv, hcmv, hcsv, hctv⟩⟩ rfl) ad j c (List.replicate j (.int .i64 m)) (by rw [hsize]; simp) hnews (by omega) (by omega) (by rw [hby]; exact growslice_fits (by omega) (by omega))
            rw [hr] at hr2
            simp only [Result.ok.injEq] at hr2
            rw [hr2.2]
            exact World.ownsRow.alloc (World.ownsRow.drew ⟨hu1, .inr ⟨g', cap, cur, rfl, hbg, hg, hnc, hcm, hcs, hct⟩⟩) _

end Pk
end Go.Proofs.Ytdjhhnolcafkiaa

/- The book takes a list: it is written full, and more is put behind it. -/
namespace Go.Proofs.Ytdjhhnolcafkiaa
open Go.RowKit
namespace Pk

structure Bk (W : World) (g : Nat) (free : Nat → Prop) (nv mv : Value) (NL : List Value) (ML : List Int) (nx : Int) : Prop where
  c0 : W.cell? ⟨g, 0, none⟩ = some (.slice none 0 0)
  c1 : W.cell? ⟨g, 1, none⟩ = some (.slice none 0 0)
  c2 : W.cell? ⟨g, 2, none⟩ = some nv
  c3 : W.cell? ⟨g, 3, none⟩ = some mv
  c4 : W.cell? ⟨g, 4, none⟩ = some (.slice none 0 0)
  c5 : W.cell? ⟨g, 5, none⟩ = some (.slice none 0 0)
  c6 : W.cell? ⟨g, 6, none⟩ = some (.int .i64 nx)
  fz : ∀ o, W.frozen? ⟨g, o, none⟩ = false
  hg : ¬ free g
  rn : W.ownsRow (g + 1) 27 1 nv NL.length NL
  rm : W.ownsRow (g + 1) 3 1 mv ML.length (ML.map (Value.int .i64))
  fn : ∀ b, nv.ownBlock = some b → ¬ free b ∧ mv.ownBlock ≠ some b
  fm : ∀ b, mv.ownBlock = some b → ¬ free b
  len : NL.length = ML.length
  ent : ∀ i u, NL[i]? = some u → ∃ n ao cap, u = .slice ao n cap ∧ n ≤ 18 ∧ ∀ k, k < n → ∃ b, ao = some ⟨b, 0, none⟩ ∧ ¬ free b ∧ b ≠ g ∧ nv.ownBlock ≠ some b ∧ mv.ownBlock ≠ some b ∧ W.cell? ⟨b, 0 + k, none⟩ = some (.int .i64 (ML.getD i 0))

theorem Bk.lt {W : World} {g : Nat} {free : Nat → Prop} {nv mv : Value} {NL : List Value} {ML : List Int} {nx : Int} (h : Bk W g free nv mv NL ML nx) : g < W.heap.size := lt_of_cell h.c0

theorem Bk.chg {W W' : World} {g : Nat} {free T : Nat → Prop} {nv mv : Value} {NL : List Value} {ML : List Int} {nx : Int} (h : Bk W g free nv mv NL ML nx) (hc : Chg T W W') (hT : ∀ b, T b → free b) : Bk W' g free nv mv NL ML nx := by
  have hng : ¬ T g := fun e => h.hg (hT g e)
  refine ⟨hc.cell h.c0 hng, hc.cell h.c1 hng, hc.cell h.c2 hng, hc.cell h.c3 hng, hc.cell h.c4 hng, hc.cell h.c5 hng, hc.cell h.c6 hng, fun o => (hc.frozen (p := ⟨g, o, none⟩) h.lt hng).trans (h.fz o), h.hg, hc.row h.rn (fun x hx e => (h.fn x hx).1 (hT x e)), hc.row h.rm (fun x hx e => h.fm x hx (hT x e)), h.fn, h.fm, h.len, ?_⟩
  intro i u hu
  obtain ⟨n, ao, cap, rfl, hn, hk⟩ := h.ent i u hu
  refine ⟨n, ao, cap, rfl, hn, fun k hkn => ?_⟩
  obtain ⟨b, rfl, b1, b2, b3, b4, b5⟩ := hk k hkn
  exact ⟨b, rfl, b1, b2, b3, b4, hc.cell b5 (fun e => b1 (hT b e))⟩

theorem Bk.widen {W : World} {g : Nat} {free free' : Nat → Prop} {nv mv : Value} {NL : List Value} {ML : List Int} {nx : Int} (h : Bk W g free nv mv NL ML nx) (hf : ∀ b, b < W.heap.size → free' b → free b) : Bk W g free' nv mv NL ML nx := by
  refine ⟨h.c0, h.c1, h.c2, h.c3, h.c4, h.c5, h.c6, h.fz, fun e => h.hg (hf g h.lt e), h.rn, h.rm, fun b hb => ⟨fun e => (h.fn b hb).1 (hf b (h.rn.lt b hb).2 e), (h.fn b hb).2⟩, fun b hb e => h.fm b hb (hf b (h.rm.lt b hb).2 e), h.len, ?_⟩
  intro i u hu
  obtain ⟨n, ao, cap, rfl, hn, hk⟩ := h.ent i u hu
  refine ⟨n, ao, cap, rfl, hn, fun k hkn => ?_⟩
  obtain ⟨b, rfl, b1, b2, b3, b4, b5⟩ := hk k hkn
  exact ⟨b, rfl, fun e => b1 (hf b (lt_of_cell b5) e), b2, b3, b4, b5⟩

theorem Bk.set6 {W : World} {g : Nat} {free : Nat → Prop} {nv mv : Value} {NL : List Value} {ML : List Int} {nx : Int} (h : Bk W g free nv mv NL ML nx) (ny : Int) : Bk (W.setCell ⟨g, 6, none⟩ (.int .i64 ny)) g free nv mv NL ML ny := by
  have o : ∀ i u, i ≠ 6 → W.cell? ⟨g, i, none⟩ = some u → (W.setCell ⟨g, 6, none⟩ (.int .i64 ny)).cell? ⟨g, i, none⟩ = some u := fun i u hi hu => (World.cell?_setCell_other _ ⟨g, 6, none⟩ ⟨g, i, none⟩ _ (fun e => hi (by injection e with _ e2 _; exact e2.symm))).trans hu
  refine ⟨o _ _ (by omega) h.c0, o _ _ (by omega) h.c1, o _ _ (by omega) h.c2, o _ _ (by omega) h.c3, o _ _ (by omega) h.c4, o _ _ (by omega) h.c5, World.cell?_setCell_same _ _ _ h.c6, fun o => by rw [World.frozen?_setCell]; exact h.fz o, h.hg,
    ownsRow_setCell_below h.rn (Nat.lt_succ_self g) _, ownsRow_setCell_below h.rm (Nat.lt_succ_self g) _, h.fn, h.fm, h.len, ?_⟩
  intro i u hu
  obtain ⟨n, ao, cap, rfl, hn, hk⟩ := h.ent i u hu
  refine ⟨n, ao, cap, rfl, hn, fun k hkn => ?_⟩
  obtain ⟨b, rfl, b1, b2, b3, b4, b5⟩ := hk k hkn
  exact ⟨b, rfl, b1, b2, b3, b4, (World.cell?_setCell_other _ ⟨g, 6, none⟩ _ _ (fun e => b2 (by injection e with e1 _ _; exact e1.symm))).trans b5⟩

theorem cells_new (w : World) (xs : List Value) (t : TypeId) : ∀ j u, xs[j]? = some u → (w.alloc (.cells xs.toArray t)).cell? ((⟨w.heap.size, 0, none⟩ : Addr).add j) = some u := by
  intro j u hj
  have h := cell_of_row (w.alloc (.cells xs.toArray t)) w.heap.size j xs.toArray t (0, 0) (heap_alloc_new w _)
  rw [show (⟨w.heap.size, 0, none⟩ : Addr).add j = ⟨w.heap.size, j, none⟩ by unfold Addr.add; split <;> simp_all, h]
  simpa using hj

theorem cells_newAt (w : World) (xs : List Value) (t : TypeId) (k : Nat) (hk : w.heap.size = k) : ∀ j u, xs[j]? = some u → (w.alloc (.cells xs.toArray t)).cell? ((⟨k, 0, none⟩ : Addr).add j) = some u := by
  subst hk
  exact cells_new w xs t

theorem row_shape {W : World} {base e n : Nat} {v : Value} {xs : List Value} (h : W.ownsRow base e 1 v n xs) : ∃ ao cap, v = .slice ao n cap := by
  obtain ⟨_, h2 | ⟨g, cap, cur, rfl, _⟩⟩ := h
  · exact ⟨none, 0, by rw [h2.1, h2.2]⟩
  · exact ⟨_, _, rfl⟩

theorem stop_here {p : Prop} (h : Hid p) : p := h
theorem hid_in {p : Prop} (h : p) : Hid p := h

theorem wpList_append_marks {ops : Array Oper} {rest : List Oper} {o : Oper} {a : Act} {w : World} {Q : Exit → Act → World → Prop} (hgd : o.guard = none) (s x : Operand)
    (ho : o.op = .call { callee := .builtin .append, args := #[s, x], argTypes := #[27, 27] })
    (base : Nat) (i : TypeInfo) (hi : Try.prog.info? 3 = some i ∧ i.zero = some (.int .i64 0) ∧ i.size = 1 ∧ i.bytes = 8)
    (v : Value) (n j : Nat) (m : Int) (hs : a.eval s = v) (hown : Mk w base v n m) (ad : Addr) (c : Nat) (hx : a.eval x = .slice (some ad) j c) (hnews : ∀ k u, (List.replicate j (Value.int .i64 m))[k]? = some u → w.cell? (ad.add k) = some u)
    (hn : n + j ≤ 100) (hbase : base ≤ w.heap.size)
    (h : ∀ v' w', Mk w' base v' (n + j) m → (∀ u k, k ≤ n + j → Mk w base u k m → Mk w' base u k m) → w.grownBy w' v.ownBlock → (v'.ownBlock = v.ownBlock ∨ v'.ownBlock = some w.heap.size) → wpList Try.prog ops Q rest (a.put o.dst v') w') :
    wpList Try.prog ops Q (o :: rest) a w := by
  refine wpList_plain hgd fun K hK => ?_
  obtain ⟨v', w', hr, h2, h3, h4, h5⟩ := append_marks w base o.type i hi.1 hi.2.1 hi.2.2.1 hi.2.2.2 v n j m hown ad c hnews hn hbase
  unfold Oper.wp execOp
  simp only [ho, resolve, invoke, builtin, Sem.run_bind, Sem.run_pure, Result.andThen_ok, List.map_toArray, List.map_cons, List.map_nil, hs, hx, hr]
  exact hK _ _ (h v' w' h2 h3 h4 h5)

theorem bk_taken {free : Nat → Prop} {w wr w3 w4 w5 : World} {g n : Nat} {nv mv v v1 v2 v3 v4 v5 : Value} {NL : List Value} {ML : List Int} {nx m : Int}
    (hBr : Bk wr g free nv mv NL ML nx) (hB3 : Bk w3 g free nv mv NL ML nx) (hww : w.heap.size ≤ wr.heap.size) (hw3 : wr.heap.size ≤ w3.heap.size) (hv : ∀ b, v.ownBlock = some b → free b)
    (C0 : Mk w3 (g + 1) v n m) (C1 : Mk w3 (g + 1) v1 (n + 1) m) (C2 : Mk w3 (g + 1) v2 (n + 2) m) (C3 : Mk w3 (g + 1) v3 (n + 3) m) (hn : n ≤ 15)
    (D1 : v1.ownBlock = v.ownBlock ∨ ∀ b, v1.ownBlock = some b → wr.heap.size ≤ b) (D2 : v2.ownBlock = v.ownBlock ∨ ∀ b, v2.ownBlock = some b → wr.heap.size ≤ b) (D3 : v3.ownBlock = v.ownBlock ∨ ∀ b, v3.ownBlock = some b → wr.heap.size ≤ b)
    (H4 : w4.ownsRow (g + 1) 27 1 v4 (NL.length + 4) (NL ++ [v, v1, v2, v3])) (X4 : Chg (fun b => nv.ownBlock = some b) w3 w4) (D4 : v4.ownBlock = nv.ownBlock ∨ ∀ b, v4.ownBlock = some b → w3.heap.size ≤ b)
    (H5 : w5.ownsRow (g + 1) 3 1 v5 (ML.length + 4) (ML.map (Value.int .i64) ++ [.int .i64 m, .int .i64 m, .int .i64 m, .int .i64 m])) (X5 : Chg (fun b => mv.ownBlock = some b) (w4.setCell ⟨g, 2, none⟩ v4) w5)
    (D5 : v5.ownBlock = mv.ownBlock ∨ ∀ b, v5.ownBlock = some b → w4.heap.size ≤ b) :
    Bk (w5.setCell ⟨g, 3, none⟩ v5) g (fun b => free b ∧ b < w.heap.size ∧ v.ownBlock ≠ some b) v4 v5 (NL ++ [v, v1, v2, v3]) (ML ++ List.replicate 4 m) nx := by
  have hng : ¬ nv.ownBlock = some g := fun e => by have := (hB3.rn.lt g e).1; omega
  have hmg : ¬ mv.ownBlock = some g := fun e => by have := (hB3.rm.lt g e).1; omega
  have hs4 : w3.heap.size ≤ w4.heap.size := X4.size
  have hs4' : (w4.setCell ⟨g, 2, none⟩ v4).heap.size = w4.heap.size := by simp
  have k4 : ∀ b, v4.ownBlock = some b → nv.ownBlock = some b ∨ w3.heap.size ≤ b := fun b hb => by
    rcases D4 with h | h
    · exact .inl (h ▸ hb)
    · exact .inr (h b hb)
  have k5 : ∀ b, v5.ownBlock = some b → mv.ownBlock = some b ∨ w4.heap.size ≤ b := fun b hb => by
    rcases D5 with h | h
    · exact .inl (h ▸ hb)
    · exact .inr (h b hb)
  have nlt : ∀ b, nv.ownBlock = some b → b < wr.heap.size := fun b hb => (hBr.rn.lt b hb).2
  have mlt : ∀ b, mv.ownBlock = some b → b < wr.heap.size := fun b hb => (hBr.rm.lt b hb).2
  -- a cell of another block reads as it did
  have far : ∀ b o u, b ≠ g → nv.ownBlock ≠ some b → mv.ownBlock ≠ some b → w3.cell? ⟨b, o, none⟩ = some u → (w5.setCell ⟨g, 3, none⟩ v5).cell? ⟨b, o, none⟩ = some u := fun b o u h1 h2 h3 h4 => by
    rw [World.cell?_setCell_other _ ⟨g, 3, none⟩ ⟨b, o, none⟩ _ (fun e => h1 (by injection e with e1 _ _; exact e1.symm))]
    refine X5.cell ?_ h3
    rw [World.cell?_setCell_other _ ⟨g, 2, none⟩ ⟨b, o, none⟩ _ (fun e => h1 (by injection e with e1 _ _; exact e1.symm))]
    exact X4.cell h4 h2
  have own : ∀ o u, o ≠ 2 → o ≠ 3 → w3.cell? ⟨g, o, none⟩ = some u → (w5.setCell ⟨g, 3, none⟩ v5).cell? ⟨g, o, none⟩ = some u := fun o u h2 h3 h4 => by
    rw [World.cell?_setCell_other _ ⟨g, 3, none⟩ ⟨g, o, none⟩ _ (fun e => h3 (by injection e with _ e2 _; exact e2.symm))]
    refine X5.cell ?_ hmg
    rw [World.cell?_setCell_other _ ⟨g, 2, none⟩ ⟨g, o, none⟩ _ (fun e => h2 (by injection e with _ e2 _; exact e2.symm))]
    exact X4.cell h4 hng
  have new : ∀ (u : Value) (k i : Nat), Mk w3 (g + 1) u k m → k ≤ 18 → (∀ b, u.ownBlock = some b → v.ownBlock = some b ∨ wr.heap.size ≤ b) → (ML ++ List.replicate 4 m).getD i 0 = m →
      ∃ n ao cap, u = .slice ao n cap ∧ n ≤ 18 ∧ ∀ k, k < n → ∃ b, ao = some ⟨b, 0, none⟩ ∧ ¬ (free b ∧ b < w.heap.size ∧ v.ownBlock ≠ some b) ∧ b ≠ g ∧ v4.ownBlock ≠ some b ∧ v5.ownBlock ≠ some b ∧ (w5.setCell ⟨g, 3, none⟩ v5).cell? ⟨b, 0 + k, none⟩ = some (.int .i64 ((ML ++ List.replicate 4 m).getD i 0)) := by
    intro u k i hM hk hD hi
    obtain ⟨ao, cap, rfl⟩ := hM.shape
    refine ⟨k, ao, cap, rfl, hk, fun j hj => ?_⟩
    obtain ⟨b, rfl, hb1, hb2, hc⟩ := hM.cell j hj
    have hDb := hD b rfl
    have hn1 : nv.ownBlock ≠ some b := fun e => by
      rcases hDb with h | h
      · exact (hB3.fn b e).1 (hv b h)
      · have := nlt b e; omega
    have hm1 : mv.ownBlock ≠ some b := fun e => by
      rcases hDb with h | h
      · exact hB3.fm b e (hv b h)
      · have := mlt b e; omega
    refine ⟨b, rfl, ?_, by omega, ?_, ?_, ?_⟩
    · rintro ⟨_, h2, h3⟩
      rcases hDb with h | h
      · exact h3 h
      · omega
    · intro e
      rcases k4 b e with h | h
      · exact hn1 h
      · omega
    · intro e
      rcases k5 b e with h | h
      · exact hm1 h
      · omega
    · rw [hi]
      exact far b (0 + j) _ (by omega) hn1 hm1 hc
  have blk : ∀ (u : Value), (u.ownBlock = v.ownBlock ∨ ∀ b, u.ownBlock = some b → wr.heap.size ≤ b) → ∀ b, u.ownBlock = some b → v.ownBlock = some b ∨ wr.heap.size ≤ b := fun u h b hb => by
    rcases h with h | h
    · exact .inl (h ▸ hb)
    · exact .inr (h b hb)
  have c3 : (w4.setCell ⟨g, 2, none⟩ v4).cell? ⟨g, 3, none⟩ = some mv := (World.cell?_setCell_other _ ⟨g, 2, none⟩ ⟨g, 3, none⟩ _ (by simp)).trans (X4.cell hB3.c3 hng)
  refine ⟨own 0 _ (by omega) (by omega) hB3.c0, own 1 _ (by omega) (by omega) hB3.c1, ?_, World.cell?_setCell_same _ _ _ (X5.cell c3 hmg), own 4 _ (by omega) (by omega) hB3.c4, own 5 _ (by omega) (by omega) hB3.c5, own 6 _ (by omega) (by omega) hB3.c6, ?_, fun e => hB3.hg e.1, ?_, ?_, ?_, ?_, ?_, ?_⟩
  · rw [World.cell?_setCell_other _ ⟨g, 3, none⟩ ⟨g, 2, none⟩ _ (by simp)]
    exact X5.cell (World.cell?_setCell_same _ _ _ (X4.cell hB3.c2 hng)) hmg
  · intro o
    rw [World.frozen?_setCell, X5.frozen (p := ⟨g, o, none⟩) (by have := hB3.lt; rw [hs4']; show g < _; omega) hmg, World.frozen?_setCell, X4.frozen (p := ⟨g, o, none⟩) hB3.lt hng]
    exact hB3.fz o
  · refine ownsRow_setCell_below ?_ (Nat.lt_succ_self g) _
    rw [List.length_append]
    refine X5.row (ownsRow_setCell_below H4 (Nat.lt_succ_self g) _) ?_
    intro x hx e
    rcases k4 x hx with h | h
    · exact (hB3.fn x h).2 e
    · have := mlt x e; omega
  · refine ownsRow_setCell_below ?_ (Nat.lt_succ_self g) _
    rw [List.length_append, List.length_replicate, List.map_append]
    exact H5
  · intro b hb
    refine ⟨?_, ?_⟩
    · rintro ⟨h1, h2, _⟩
      rcases k4 b hb with h | h
      · exact (hB3.fn b h).1 h1
      · omega
    · intro e
      rcases k5 b e with h | h
      · rcases k4 b hb with h' | h'
        · exact (hB3.fn b h').2 h
        · have := mlt b h; omega
      · have := (H4.lt b hb).2
        omega
  · intro b hb
    rintro ⟨h1, h2, _⟩
    rcases k5 b hb with h | h
    · exact hB3.fm b h h1
    · omega
  · rw [List.length_append, List.length_append, List.length_replicate, hB3.len]
    rfl
  · intro i u hu
    by_cases hi : i < NL.length
    · rw [List.getElem?_append_left hi] at hu
      have hg : (ML ++ List.replicate 4 m).getD i 0 = ML.getD i 0 := by
        simp only [List.getD]
        rw [List.getElem?_append_left (by rw [← hB3.len]; exact hi)]
      obtain ⟨n', ao, cap, rfl, hn', hk⟩ := hB3.ent i u hu
      refine ⟨n', ao, cap, rfl, hn', fun k hkn => ?_⟩
      obtain ⟨b, rfl, b1, b2, b3, b4, b5⟩ := hk k hkn
      have hlt := lt_of_cell b5
      refine ⟨b, rfl, fun e => b1 e.1, b2, ?_, ?_, ?_⟩
      · intro e
        rcases k4 b e with h | h
        · exact b3 h
        · simp at hlt; omega
      · intro e
        rcases k5 b e with h | h
        · exact b4 h
        · simp at hlt; omega
      · rw [hg]
        exact far b (0 + k) _ b2 b3 b4 b5
    · rw [List.getElem?_append_right (by omega)] at hu
      have hj : i - NL.length < 4 := by
        have := (List.getElem?_eq_some_iff.1 hu).1
        simpa using this
      have hg : (ML ++ List.replicate 4 m).getD i 0 = m := by
        simp only [List.getD]
        rw [List.getElem?_append_right (by rw [← hB3.len]; omega), List.getElem?_replicate, if_pos (by rw [← hB3.len]; exact hj)]
        rfl
      obtain ⟨j, hjj⟩ : ∃ j, i - NL.length = j := ⟨_, rfl⟩
      rw [hjj] at hu hj
      match j, hj, hu with
      | 0, _, hu => simp at hu; subst hu; exact new _ n i C0 (by omega) (fun b hb => .inl hb) hg
      | 1, _, hu => simp at hu; subst hu; exact new _ (n + 1) i C1 (by omega) (blk _ D1) hg
      | 2, _, hu => simp at hu; subst hu; exact new _ (n + 2) i C2 (by omega) (blk _ D2) hg
      | 3, _, hu => simp at hu; subst hu; exact new _ (n + 3) i C3 (by omega) (blk _ D3) hg

end Pk
open Pk

set_option maxRecDepth 20000 in
set_option maxHeartbeats 4000000 in
theorem owns_any (g : Nat) (free : Nat → Prop) (nv mv : Value) (NL : List Value) (ML : List Int) (nx : Int) (v : Value) (l : List Int) (w : World) (hB : Bk w g free nv mv NL ML nx) (hown : OwnInts w (g + 1) v l) (hf : ∀ b, v.ownBlock = some b → free b)
    (hl : l.length ≤ 15) (hN : NL.length ≤ 1000000000) (hx0 : 0 ≤ nx) (hx1 : nx ≤ 1000000000) :
    Calls Try.prog 40 #[.pointer (some ⟨g, 0, none⟩), v] w fun e w' => e = .returned (.tuple #[]) ∧ ∃ nv' mv' NL', NL'.length = 4 ∧
      Bk w' g (fun b => free b ∧ b < w.heap.size ∧ v.ownBlock ≠ some b) nv' mv' (NL ++ NL') (ML ++ List.replicate 4 (-(nx + 1))) (nx + 1) ∧ Chg (fun b => b = g ∨ nv.ownBlock = some b ∨ mv.ownBlock = some b ∨ v.ownBlock = some b) w w' := by
  have hinfo : (Try.prog.info? 3).map (fun i => (i.zero, i.size, i.bytes)) = some (some (.int .i64 0), 1, 8) := by kernel_rfl
  obtain ⟨i0, hi, hz0, hz1, hz2⟩ := info_parts hinfo
  have Hi : Hid (Try.prog.info? 3 = some i0 ∧ i0.zero = some (.int .i64 0) ∧ i0.size = 1 ∧ i0.bytes = 8) := ⟨hi, hz0, hz1, hz2⟩
  have hinfo2 : (Try.prog.info? 27).map (fun i => (i.zero, i.size, i.bytes)) = some (some (.slice none 0 0), 1, 24) := by kernel_rfl
  obtain ⟨i2, hj, hy0, hy1, hy2⟩ := info_parts hinfo2
  have Hj : Hid (Try.prog.info? 27 = some i2 ∧ i2.zero = some (.slice none 0 0) ∧ i2.size = 1 ∧ i2.bytes = 24) := ⟨hj, hy0, hy1, hy2⟩
  clear hi hz0 hz1 hz2 hinfo hj hy0 hy1 hy2 hinfo2
  obtain ⟨n, hnl⟩ : ∃ n, l.length = n := ⟨_, rfl⟩
  obtain ⟨ao, cap, hv⟩ := hown.shape
  have hrow0 : w.ownsRow (g + 1) 3 1 v l.length (l.map (Value.int .i64)) := hown
  rw [hnl] at hv hl hrow0
  subst hv
  have Hrow0 : Hid (w.ownsRow (g + 1) 3 1 (.slice ao n cap) n (l.map (Value.int .i64))) := hrow0
  clear hrow0 hnl hown
  obtain ⟨an, cn, rfl⟩ := row_shape hB.rn
  obtain ⟨am, cm, rfl⟩ := row_shape hB.rm
  have HB : Hid (Bk w g free (.slice an NL.length cn) (.slice am ML.length cm) NL ML nx) := hB
  have c6 := hB.c6
  have fz := hB.fz
  obtain ⟨m, hm⟩ : ∃ m, m = -(nx + 1) := ⟨_, rfl⟩
  have hm' : -(nx + 1) = m := hm.symm
  have Hm : Hid (m = -(nx + 1)) := hm
  clear hm hB
  go_enter Try.func40, Try.ntmps40
  go_wp2
  go_loopw [5] (fun i wr => ∃ (k : Nat) (ys : List Value), k ≤ n ∧ i = .int .i64 k ∧ wr.ownsRow (g + 1) 3 1 (.slice ao n cap) n ys ∧ (∀ j, j < k → ys[j]? = some (.int .i64 m)) ∧ Bk wr g free (.slice an NL.length cn) (.slice am ML.length cm) NL ML (nx + 1) ∧ Chg (fun b => b = g ∨ (Value.slice an NL.length cn).ownBlock = some b ∨ (Value.slice am ML.length cm).ownBlock = some b ∨ (Value.slice ao n cap).ownBlock = some b) w wr) (fun i _ => n - (intOf i).toNat)
  case atStart => exact ⟨0, l.map (Value.int .i64), Nat.zero_le _, rfl, ownsRow_setCell_below Hrow0.out (Nat.lt_succ_self g) _, fun j hj => by omega, HB.out.set6 _, (Chg.refl _ _).setCell _ (.inl (.inl rfl)) _⟩
  case round =>
    obtain ⟨k, ys, hk, rfl, hrow, hys, hBk, hchg⟩ := hrel
    by_cases hlt : k < n
    · obtain ⟨gl, hao⟩ : ∃ gl, ao = some ⟨gl, 0, none⟩ := by
        rcases hrow.2 with ⟨_, h0⟩ | ⟨gl, _, _, e, _⟩
        · omega
        · simp only [Value.slice.injEq] at e
          exact ⟨gl, e.1⟩
      subst hao
      have hyl : ys.length = n := by have := hrow.1; omega
      obtain ⟨y, hy⟩ : ∃ y, ys[k]? = some y := ⟨_, List.getElem?_eq_getElem (by omega)⟩
      have hcell : wr.cell? ⟨gl, k, none⟩ = some y := (hrow.cellAt k (by omega)).trans hy
      have hfr : ∀ j, wr.frozen? ⟨gl, j, none⟩ = false := fun j => hrow.frozenAt j
      have hlt' : (k : Int) < n := by omega
      have Hst : Hid (_ ∧ _) := hrow.stored k (.int .i64 m)
      have Hys : Hid (∀ j, j < k → ys[j]? = some (.int .i64 m)) := hys
      have HBk : Hid (Bk wr g free (.slice an NL.length cn) (.slice am ML.length cm) NL ML (nx + 1)) := hBk
      have hgl : gl ≠ g := by have := (hrow.lt gl rfl).1; omega
      have Hgl : Hid (free gl) := hf gl rfl
      clear hrow hys hBk hf c6 fz
      go_wp2
      go_roundw
      case rel =>
        refine ⟨k + 1, ys.set k (.int .i64 m), by omega, by go_num, Hst.out.1, ?_, HBk.out.chg (T := fun b => b = gl) ⟨rfl, rfl, rfl, by simp, fun x _ hn => heap_setCell_other _ _ x _ (fun e => hn e)⟩ (fun b hb => by rw [hb]; exact Hgl.out), hchg.setCell ⟨gl, k, none⟩ (.inl (.inr (.inr (.inr rfl)))) _⟩
        intro j hj
        by_cases hjk : j = k
        · subst hjk
          rw [List.getElem?_set_self (by omega)]
        · rw [List.getElem?_set_ne (by omega)]
          exact Hys.out j (by omega)
      case measure => simp [intOf]; omega
    · have hkl : k = n := by omega
      have hM : Mk wr (g + 1) (.slice ao n cap) n m := by
        have e : ys = List.replicate n (.int .i64 m) := by
          apply List.ext_getElem?
          intro j
          by_cases hj : j < n
          · rw [hys j (by omega)]; simp [hj]
          · rw [List.getElem?_eq_none (by have := hrow.1; omega), List.getElem?_eq_none (by simp; omega)]
        rw [e] at hrow
        exact hrow
      have HM : Hid (Mk wr (g + 1) (.slice ao n cap) n m) := hM
      have HBk : Hid (Bk wr g free (.slice an NL.length cn) (.slice am ML.length cm) NL ML (nx + 1)) := hBk
      have Hchg : Hid (Chg (fun b => b = g ∨ (Value.slice an NL.length cn).ownBlock = some b ∨ (Value.slice am ML.length cm).ownBlock = some b ∨ (Value.slice ao n cap).ownBlock = some b) w wr) := hchg
      have hlt' : ¬ (k : Int) < n := by omega
      have hglt := hBk.lt
      clear hM hBk hchg hrow hys c6 fz
      have HV : Hid (∀ b, (Value.slice ao n cap).ownBlock = some b → free b) := hf
      clear hf Hrow0 hlt HB
      go_wp2_with (at_builtin; (
        refine wpList_append_marks rfl (.tmp 31) (.tmp 33) rfl (g + 1) i0 Hi.out (.slice ao n cap) n 1 m rfl (World.ownsRow.alloc HM.out _) _ 1 rfl (cells_new _ [.int .i64 m] _) (by omega) (by simp; omega) ?_
        intro v1 w1 h1 k1 g1 b1
        refine stop_here ?_))
      obtain ⟨a1, p1, rfl⟩ := h1.shape
      have A1 : Hid (Mk w1 (g + 1) (.slice a1 (n + 1) p1) (n + 1) m) := h1
      have A0 : Hid (Mk w1 (g + 1) (.slice ao n cap) n m) := k1 _ _ (by omega) (World.ownsRow.alloc HM.out _)
      have X1 : Hid (Chg (fun b => (Value.slice ao n cap).ownBlock = some b) wr w1) := ((Chg.refl _ _).alloc _).trans (Chg.ofGrown g1) (fun _ _ e => e)
      have D1 : Hid ((Value.slice a1 (n + 1) p1).ownBlock = (Value.slice ao n cap).ownBlock ∨ ∀ b, (Value.slice a1 (n + 1) p1).ownBlock = some b → wr.heap.size ≤ b) := b1.imp id (fun e b hb => by rw [e] at hb; simp at hb; omega)
      have s1 : g + 1 ≤ w1.heap.size := Nat.le_trans (Nat.succ_le_of_lt hglt) X1.out.size
      clear h1 k1 g1 b1
      refine hid_in ?_
      go_wp2_with (at_builtin; (
        refine wpList_append_marks rfl (.tmp 35) (.tmp 38) rfl (g + 1) i0 Hi.out (.slice ao n cap) n 2 m rfl (World.ownsRow.alloc A0.out _) _ 2 rfl (cells_new _ [.int .i64 m, .int .i64 m] _) (by omega) (by simp; omega) ?_
        intro v2 w2 h2 k2 g2 b2
        refine stop_here ?_))
      obtain ⟨a2, p2, rfl⟩ := h2.shape
      have B2 : Hid (Mk w2 (g + 1) (.slice a2 (n + 2) p2) (n + 2) m) := h2
      have B1 : Hid (Mk w2 (g + 1) (.slice a1 (n + 1) p1) (n + 1) m) := k2 _ _ (by omega) (World.ownsRow.alloc A1.out _)
      have B0 : Hid (Mk w2 (g + 1) (.slice ao n cap) n m) := k2 _ _ (by omega) (World.ownsRow.alloc A0.out _)
      have X2 : Hid (Chg (fun b => (Value.slice ao n cap).ownBlock = some b) wr w2) := (X1.out.alloc _).trans (Chg.ofGrown g2) (fun _ _ e => e)
      have D2 : Hid ((Value.slice a2 (n + 2) p2).ownBlock = (Value.slice ao n cap).ownBlock ∨ ∀ b, (Value.slice a2 (n + 2) p2).ownBlock = some b → wr.heap.size ≤ b) := b2.imp id (fun e b hb => by rw [e] at hb; have := X1.out.size; simp at hb; omega)
      have s2 : g + 1 ≤ w2.heap.size := Nat.le_trans (Nat.succ_le_of_lt hglt) X2.out.size
      clear h2 k2 g2 b2 A0 A1 X1
      refine hid_in ?_
      go_wp2_with (at_builtin; (
        refine wpList_append_marks rfl (.tmp 40) (.tmp 44) rfl (g + 1) i0 Hi.out (.slice ao n cap) n 3 m rfl (World.ownsRow.alloc B0.out _) _ 3 rfl (cells_new _ [.int .i64 m, .int .i64 m, .int .i64 m] _) (by omega) (by simp; omega) ?_
        intro v3 w3 h3 k3 g3 b3
        refine stop_here ?_))
      obtain ⟨a3, p3, rfl⟩ := h3.shape
      have C3 : Hid (Mk w3 (g + 1) (.slice a3 (n + 3) p3) (n + 3) m) := h3
      have C2 : Hid (Mk w3 (g + 1) (.slice a2 (n + 2) p2) (n + 2) m) := k3 _ _ (by omega) (World.ownsRow.alloc B2.out _)
      have C1 : Hid (Mk w3 (g + 1) (.slice a1 (n + 1) p1) (n + 1) m) := k3 _ _ (by omega) (World.ownsRow.alloc B1.out _)
      have C0 : Hid (Mk w3 (g + 1) (.slice ao n cap) n m) := k3 _ _ (by omega) (World.ownsRow.alloc B0.out _)
      have X3 : Hid (Chg (fun b => (Value.slice ao n cap).ownBlock = some b) wr w3) := (X2.out.alloc _).trans (Chg.ofGrown g3) (fun _ _ e => e)
      have D3 : Hid ((Value.slice a3 (n + 3) p3).ownBlock = (Value.slice ao n cap).ownBlock ∨ ∀ b, (Value.slice a3 (n + 3) p3).ownBlock = some b → wr.heap.size ≤ b) := b3.imp id (fun e b hb => by rw [e] at hb; have := X2.out.size; simp at hb; omega)
      have s3 : g + 1 ≤ w3.heap.size := Nat.le_trans (Nat.succ_le_of_lt hglt) X3.out.size
      have BK3 : Hid (Bk w3 g free (.slice an NL.length cn) (.slice am ML.length cm) NL ML (nx + 1)) := HBk.out.chg X3.out HV.out
      have c2 := BK3.out.c2
      clear h3 k3 g3 b3 B0 B1 B2 X2
      refine hid_in ?_
      go_wp2_with (at_builtin; (
        refine wpList_append_own_at _ rfl (.tmp 50) (.tmp 55) 26 rfl (g + 1) 27 i2 (.slice none 0 0) 1 24 Try.underlying26 Hj.out.1 Hj.out.2.1 Hj.out.2.2.1 Hj.out.2.2.2 rfl (by decide) (.slice an NL.length cn) NL.length NL rfl (World.ownsRow.alloc BK3.out.rn _) _ 4 4 [.slice ao n cap, .slice a1 (n + 1) p1, .slice a2 (n + 2) p2, .slice a3 (n + 3) p3] rfl rfl (cells_new _ [.slice ao n cap, .slice a1 (n + 1) p1, .slice a2 (n + 2) p2, .slice a3 (n + 3) p3] _) ?_ ?_ ?_ ?_ ?_
        · intro u hu
          simp only [List.mem_cons, List.not_mem_nil, or_false] at hu
          rcases hu with rfl | rfl | rfl | rfl <;> rfl
        · unfold maxLen; omega
        · omega
        · simp; omega
        intro v4 w4 h4 g4 _ b4
        refine stop_here ?_))
      obtain ⟨a4, p4, rfl⟩ := row_shape h4
      have H4 : Hid (w4.ownsRow (g + 1) 27 1 (.slice a4 (NL.length + 4) p4) (NL.length + 4) (NL ++ [.slice ao n cap, .slice a1 (n + 1) p1, .slice a2 (n + 2) p2, .slice a3 (n + 3) p3])) := h4
      have X4 : Hid (Chg (fun b => (Value.slice an NL.length cn).ownBlock = some b) w3 w4) := ((Chg.refl _ _).alloc _).trans (Chg.ofGrown g4) (fun _ _ e => e)
      have D4 : Hid ((Value.slice a4 (NL.length + 4) p4).ownBlock = (Value.slice an NL.length cn).ownBlock ∨ ∀ b, (Value.slice a4 (NL.length + 4) p4).ownBlock = some b → w3.heap.size ≤ b) := b4.imp id (fun e b hb => by rw [e] at hb; simp at hb; omega)
      have hng : ¬ (Value.slice an NL.length cn).ownBlock = some g := fun e => by have := (BK3.out.rn.lt g e).1; omega
      have d2 := X4.out.cell BK3.out.c2 hng
      have d3 := X4.out.cell BK3.out.c3 hng
      have f4 : ∀ o, w4.frozen? ⟨g, o, none⟩ = false := fun o => (X4.out.frozen (p := ⟨g, o, none⟩) (show g < w3.heap.size by omega) hng).trans (BK3.out.fz o)
      have s4 : g + 1 ≤ w4.heap.size := Nat.le_trans s3 X4.out.size
      have RM : Hid ((w4.setCell ⟨g, 2, none⟩ (.slice a4 (NL.length + 4) p4)).ownsRow (g + 1) 3 1 (.slice am ML.length cm) ML.length (ML.map (Value.int .i64))) := ownsRow_setCell_below (X4.out.row BK3.out.rm (fun x hx e => (BK3.out.fn x e).2 hx)) (Nat.lt_succ_self g) _
      have hML : ML.length ≤ 1000000000 := by rw [← BK3.out.len]; exact hN
      clear h4 g4 b4 hng c2
      refine hid_in ?_
      go_wp2_with (at_builtin; (
        refine wpList_append_own_at _ rfl (.tmp 63) (.tmp 68) 27 rfl (g + 1) 3 i0 (.int .i64 0) 1 8 Try.underlying27 Hi.out.1 Hi.out.2.1 Hi.out.2.2.1 Hi.out.2.2.2 rfl (by decide) (.slice am ML.length cm) ML.length (ML.map (Value.int .i64)) rfl (World.ownsRow.alloc RM.out _) _ 4 4 [.int .i64 m, .int .i64 m, .int .i64 m, .int .i64 m] rfl rfl (cells_newAt _ [.int .i64 m, .int .i64 m, .int .i64 m, .int .i64 m] _ _ (by simp)) ?_ ?_ ?_ ?_ ?_
        · intro u hu; simp at hu; subst hu; rfl
        · unfold maxLen; omega
        · omega
        · simp; omega
        intro v5 w5 h5 g5 _ b5
        refine stop_here ?_))
      obtain ⟨a5, p5, rfl⟩ := row_shape h5
      have H5 : Hid (w5.ownsRow (g + 1) 3 1 (.slice a5 (ML.length + 4) p5) (ML.length + 4) (ML.map (Value.int .i64) ++ [.int .i64 m, .int .i64 m, .int .i64 m, .int .i64 m])) := h5
      have X5 : Hid (Chg (fun b => (Value.slice am ML.length cm).ownBlock = some b) (w4.setCell ⟨g, 2, none⟩ (.slice a4 (NL.length + 4) p4)) w5) := ((Chg.refl _ _).alloc _).trans (Chg.ofGrown g5) (fun _ _ e => e)
      have D5 : Hid ((Value.slice a5 (ML.length + 4) p5).ownBlock = (Value.slice am ML.length cm).ownBlock ∨ ∀ b, (Value.slice a5 (ML.length + 4) p5).ownBlock = some b → w4.heap.size ≤ b) := b5.imp id (fun e b hb => by rw [e] at hb; simp at hb; omega)
      have hmg : ¬ (Value.slice am ML.length cm).ownBlock = some g := fun e => by have := (BK3.out.rm.lt g e).1; omega
      have e3 := X5.out.cell (p := ⟨g, 3, none⟩) ((World.cell?_setCell_other _ ⟨g, 2, none⟩ ⟨g, 3, none⟩ _ (by simp)).trans d3) hmg
      have f5 : ∀ o, w5.frozen? ⟨g, o, none⟩ = false := fun o => (X5.out.frozen (p := ⟨g, o, none⟩) (by simp; omega) hmg).trans ((World.frozen?_setCell _ _ _ _).trans (f4 o))
      clear h5 g5 b5 hmg
      refine hid_in ?_
      go_wp2
      refine bodyPost_end (v := .tuple #[]) (by simp [results, Try.results40, go_sem]) rfl ⟨rfl, .slice a4 (NL.length + 4) p4, .slice a5 (ML.length + 4) p5, [.slice ao n cap, .slice a1 (n + 1) p1, .slice a2 (n + 2) p2, .slice a3 (n + 3) p3], rfl, ?_, ?_⟩
      · rw [← Hm.out]
        exact bk_taken HBk.out BK3.out Hchg.out.size X3.out.size HV.out C0.out C1.out C2.out C3.out hl D1.out D2.out D3.out H4.out X4.out D4.out H5.out X5.out D5.out
      · refine (((Hchg.out.trans X3.out ?_).trans X4.out ?_).setCell ⟨g, 2, none⟩ (.inl (.inl rfl)) _ |>.trans X5.out ?_).setCell ⟨g, 3, none⟩ (.inl (.inl rfl)) _
        · exact fun _ _ e => .inr (.inr (.inr e))
        · exact fun _ _ e => .inr (.inl e)
        · exact fun _ _ e => .inr (.inr (.inl e))

end Go.Proofs.Ytdjhhnolcafkiaa

/- Append to a list of the call's own: where the longer list lies. -/
namespace Go.Proofs.Ytdjhhnolcafkiaa
open Go.RowKit
namespace Pk

theorem wpList_append_at {ops : Array Oper} {rest : List Oper} {o : Oper} {a : Act} {w : World} {Q : Exit → Act → World → Prop} (hgd : o.guard = none) (s x : Operand) (t : TypeId)
    (ho : o.op = .call { callee := .builtin .append, args := #[s, x], argTypes := #[t, t] })
    (base : Nat) (e : TypeId) (i : TypeInfo) (z : Value) (size bytes : Nat) (ht : Try.prog.underlying t = some (.slice e)) (hi : Try.prog.info? e = some i ∧ i.zero = some z ∧ i.size = size ∧ i.bytes = bytes) (hzs : z.cells.size = size) (hsz : 0 < size)
    (v : Value) (n : Nat) (xs : List Value) (hs : a.eval s = v) (hown : w.ownsRow base e size v n xs)
    (ad : Addr) (m c : Nat) (news : List Value) (hx : a.eval x = .slice (some ad) m c) (hl : news.length = m * size) (hnews : ∀ j u, news[j]? = some u → w.cell? (ad.add j) = some u) (h1 : ∀ u ∈ news, u.oneCell' = true)
    (h63 : n + m ≤ maxLen) (hbytes : (n + m) * bytes ≤ 140737488355328) (hbase : base ≤ w.heap.size)
    (h : ∀ v' w', w'.ownsRow base e size v' (n + m) (xs ++ news) → w.grownBy w' v.ownBlock → (v'.ownBlock = v.ownBlock ∨ v'.ownBlock = some w.heap.size) → wpList Try.prog ops Q rest (a.put o.dst v') w') :
    wpList Try.prog ops Q (o :: rest) a w := by
  refine wpList_plain hgd fun K hK => ?_
  obtain ⟨v', w', hr, h2, h3, _, h5⟩ := run_append_own_at (P := Try.prog) w base t o.type e i z size bytes ht hi.1 hi.2.1 hi.2.2.1 hi.2.2.2 hzs hsz v n xs hown ad m c news hl hnews h1 h63 hbytes hbase
  unfold Oper.wp execOp
  simp only [ho, resolve, invoke, builtin, Sem.run_bind, Sem.run_pure, Result.andThen_ok, List.map_toArray, List.map_cons, List.map_nil, hs, hx, hr]
  exact hK _ _ (h v' w' h2 h3 h5)

theorem int_info : (Try.prog.info? 3).map (fun i => (i.zero, i.size, i.bytes)) = some (some (.int .i64 0), 1, 8) := by kernel_rfl

/-- one more number -/
theorem wpList_append_int {ops : Array Oper} {rest : List Oper} {o : Oper} {a : Act} {w : World} {Q : Exit → Act → World → Prop} (hgd : o.guard = none) (s x : Operand)
    (ho : o.op = .call { callee := .builtin .append, args := #[s, x], argTypes := #[27, 27] })
    (base : Nat) (v : Value) (l : List Int) (q : Int) (hs : a.eval s = v) (hown : OwnInts w base v l)
    (ad : Addr) (c : Nat) (hx : a.eval x = .slice (some ad) 1 c) (hnews : w.cell? (ad.add 0) = some (.int .i64 q)) (hl : l.length ≤ 1000000) (hbase : base ≤ w.heap.size)
    (h : ∀ v' w', OwnInts w' base v' (l ++ [q]) → w.grownBy w' v.ownBlock → (v'.ownBlock = v.ownBlock ∨ v'.ownBlock = some w.heap.size) → wpList Try.prog ops Q rest (a.put o.dst v') w') :
    wpList Try.prog ops Q (o :: rest) a w := by
  obtain ⟨i0, hi, hz0, hz1, hz2⟩ := info_parts int_info
  refine wpList_append_at hgd s x 27 ho base 3 i0 (.int .i64 0) 1 8 Try.underlying27 ⟨hi, hz0, hz1, hz2⟩ rfl (by decide) v l.length (l.map (Value.int .i64)) hs hown ad 1 c [.int .i64 q] hx rfl ?_ ?_ ?_ ?_ hbase ?_
  · intro j u hj
    rcases j with _ | j
    · simp at hj; subst hj; exact hnews
    · simp at hj
  · intro u hu; simp at hu; subst hu; rfl
  · unfold maxLen; omega
  · omega
  · intro v' w' h1 h2 h3
    refine h v' w' ?_ h2 h3
    simpa [OwnInts] using h1

/-- one more number: a single operation -/
theorem wp_append_int {w : World} {o : Oper} {a : Act} {K : Act → World → Prop} {Q : Exit → Act → World → Prop} (s x : Operand)
    (ho : o.op = .call { callee := .builtin .append, args := #[s, x], argTypes := #[27, 27] })
    (base : Nat) (v : Value) (l : List Int) (q : Int) (hs : a.eval s = v) (hown : OwnInts w base v l)
    (ad : Addr) (c : Nat) (hx : a.eval x = .slice (some ad) 1 c) (hnews : w.cell? (ad.add 0) = some (.int .i64 q)) (hl : l.length ≤ 1000000) (hbase : base ≤ w.heap.size)
    (h : ∀ v' w', OwnInts w' base v' (l ++ [q]) → w.grownBy w' v.ownBlock → (v'.ownBlock = v.ownBlock ∨ v'.ownBlock = some w.heap.size) → K (a.put o.dst v') w') : o.wp Try.prog a w K Q := by
  obtain ⟨i0, hi, hz0, hz1, hz2⟩ := info_parts int_info
  obtain ⟨v', w', hr, h2, h3, _, h5⟩ := run_append_own_at (P := Try.prog) w base 27 o.type 3 i0 (.int .i64 0) 1 8 Try.underlying27 hi hz0 hz1 hz2 rfl (by decide) v l.length (l.map (Value.int .i64)) hown ad 1 c [.int .i64 q] rfl
    (fun j u hj => by
      rcases j with _ | j
      · simp at hj; subst hj; exact hnews
      · simp at hj) (fun u hu => by simp at hu; subst hu; rfl) (by unfold maxLen; omega) (by omega) hbase
  unfold Oper.wp execOp
  simp only [ho, resolve, invoke, builtin, Sem.run_bind, Sem.run_pure, Result.andThen_ok, List.map_toArray, List.map_cons, List.map_nil, hs, hx, hr]
  exact h v' w' (by simpa [OwnInts] using h2) h3 h5

theorem grown_of_none {w w' : World} {v : Value} {B : Nat} (h : w.grownBy w' v.ownBlock) (hb : B ≤ w.heap.size) (hv : ∀ b, v.ownBlock = some b → B ≤ b) : Below B w w' :=
  (Below.refl _ _).grown h hb hv

end Pk
end Go.Proofs.Ytdjhhnolcafkiaa

/- Rows whose elements are of several cells: plain facts. -/
namespace Go.Proofs.Ytdjhhnolcafkiaa
open Go.RowKit
namespace Pk

section
variable {α : Type} {f : α → List Value} {k : Nat}
theorem flat_length (hf : ∀ x, (f x).length = k) (l : List α) : (l.flatMap f).length = l.length * k := by
  induction l with
  | nil => simp
  | cons x l ih => rw [List.flatMap_cons, List.length_append, hf, ih, List.length_cons, Nat.succ_mul]; omega
theorem flat_take (hf : ∀ x, (f x).length = k) : ∀ (l : List α) (i : Nat), (l.flatMap f).take (i * k) = (l.take i).flatMap f
  | [], i => by simp
  | x :: l, 0 => by simp
  | x :: l, i + 1 => by
    rw [List.flatMap_cons, List.take_succ_cons, List.flatMap_cons, Nat.succ_mul, Nat.add_comm, List.take_append, hf, List.take_of_length_le (by rw [hf]; omega), show k + i * k - k = i * k by omega, flat_take hf l i]
theorem flat_drop (hf : ∀ x, (f x).length = k) : ∀ (l : List α) (i : Nat), (l.flatMap f).drop (i * k) = (l.drop i).flatMap f
  | [], i => by simp
  | x :: l, 0 => by simp
  | x :: l, i + 1 => by
    rw [List.flatMap_cons, List.drop_succ_cons, Nat.succ_mul, Nat.add_comm, List.drop_append, hf, List.drop_of_length_le (by rw [hf]; omega), show k + i * k - k = i * k by omega, flat_drop hf l i, List.nil_append]
theorem flat_at (hf : ∀ x, (f x).length = k) : ∀ (l : List α) (i j : Nat) (h : i < l.length), j < k → (l.flatMap f)[i * k + j]? = (f l[i])[j]?
  | x :: l, 0, j, _, hj => by
    rw [List.flatMap_cons, Nat.zero_mul, Nat.zero_add, List.getElem?_append_left (by rw [hf]; exact hj)]
    rfl
  | x :: l, i + 1, j, h, hj => by
    rw [List.flatMap_cons, List.getElem?_append_right (by rw [hf, Nat.succ_mul]; omega), hf, show (i + 1) * k + j - k = i * k + j by rw [Nat.succ_mul]; omega, flat_at hf l i j (by simpa using h) hj]
    rfl
end

theorem World.grownBy_drewX (w : World) (r : Option Nat) : w.grownBy w.drew r := ⟨rfl, rfl, rfl, Nat.le_refl _, fun _ _ _ => rfl⟩

/-- writes within a row -/
theorem row_writes {base e size n cap g : Nat} : ∀ (vs : List Value) (o : Nat) (w : World) (xs : List Value), w.ownsRow base e size (.slice (some ⟨g, 0, none⟩) n cap) n xs → o + vs.length ≤ xs.length →
    (w.setCells g o vs).ownsRow base e size (.slice (some ⟨g, 0, none⟩) n cap) n (xs.take o ++ vs ++ xs.drop (o + vs.length)) ∧ w.grownBy (w.setCells g o vs) (some g) := by
  intro vs
  induction vs with
  | nil =>
    intro o w xs h _
    refine ⟨?_, World.grownBy.refl _ _⟩
    simpa [World.setCells] using h
  | cons v r ih =>
    intro o w xs h hl
    obtain ⟨h1, h2⟩ := h.stored o v
    obtain ⟨h3, h4⟩ := ih (o + 1) (w.setCell ⟨g, o, none⟩ v) (xs.set o v) h1 (by simp at hl ⊢; omega)
    refine ⟨?_, h2.trans h4⟩
    have e1 : (xs.set o v).take (o + 1) = xs.take o ++ [v] := by
      rw [List.take_succ_eq_append_getElem (by simp at hl ⊢; omega), List.take_set_of_le (Nat.le_refl _)]
      simp
    have e2 : (xs.set o v).drop (o + 1 + r.length) = xs.drop (o + (v :: r).length) := by
      rw [List.drop_set_of_lt (by omega), List.length_cons]
      congr 1
      omega
    rw [e1, e2] at h3
    simpa [World.setCells] using h3

/-- fewer of the elements -/
theorem row_fewer {base e size n cap m : Nat} {ao : Option Addr} {w : World} {xs : List Value} (h : w.ownsRow base e size (.slice ao n cap) n xs) (hm : m ≤ n) (hao : ao ≠ none ∨ cap = 0) : w.ownsRow base e size (.slice ao m cap) m (xs.take (m * size)) := by
  have hl := h.1
  obtain ⟨h1, ⟨h2, h0⟩ | ⟨g, cap', cur, e', hb, hg, hn, hc, hs, ht⟩⟩ := h
  · simp only [Value.slice.injEq] at h2
    obtain ⟨rfl, h3, rfl⟩ := h2
    have hm0 : m = 0 := by omega
    subst hm0
    exact ⟨by simp, .inl ⟨rfl, rfl⟩⟩
  · simp only [Value.slice.injEq] at e'
    obtain ⟨rfl, _, rfl⟩ := e'
    have hms : m * size ≤ n * size := Nat.mul_le_mul_right _ hm
    refine ⟨by rw [List.length_take]; omega, .inr ⟨g, cap, cur, rfl, hb, hg, by omega, hc, hs, ?_⟩⟩
    rw [← ht, List.take_take, Nat.min_eq_left hms]

theorem row_cells {base e size n cap g : Nat} {w : World} {xs : List Value} (h : w.ownsRow base e size (.slice (some ⟨g, 0, none⟩) n cap) n xs) (j : Nat) (hj : j < n * size) : w.cell? ⟨g, j, none⟩ = xs[j]? := h.cellAt j hj

theorem run_clear_row {P : Program} (w : World) (t e ty : TypeId) (z : Value) (ht : P.underlying t = some (.slice e)) (hv : ∀ w, (zeroValue e).run P w = .ok z w) (h1 : ∀ u ∈ z.cells.toList, u.oneCell' = true) (hz0 : 0 < z.cells.size) (b o n c : Nat) (hn : 0 < n)
    (hc : ∀ j, j < n * z.cells.size → (w.cell? ⟨b, o + j, none⟩).isSome = true) (hf : ∀ j, j < n * z.cells.size → w.frozen? ⟨b, o + j, none⟩ = false) :
    ∃ zs : List Value, zs.length = n * z.cells.size ∧ (Builtin.clear_ #[t] ty #[.slice (some ⟨b, o, none⟩) n c]).run P w = .ok (.tuple #[]) (w.setCells b o zs) := by
  have hl : (Builtin.zeroCells z.cells n).toList.length = n * z.cells.size := by simp [Builtin.zeroCells]
  have ho : ∀ u ∈ (Builtin.zeroCells z.cells n).toList, u.oneCell' = true := by
    intro u hu
    simp [Builtin.zeroCells] at hu
    obtain ⟨i, hi, rfl⟩ := hu
    refine h1 _ ?_
    have hlt : i % z.cells.size < z.cells.size := Nat.mod_lt _ hz0
    simp [hlt]
  have hst := run_storeCells_cells (P := P) b o (Builtin.zeroCells z.cells n).toList 0 w (by rw [hl]; simpa using hc) (by rw [hl]; simpa using hf) ho
  simp only [Nat.add_zero] at hst
  refine ⟨_, hl, ?_⟩
  obtain ⟨m, rfl⟩ : ∃ m, n = m + 1 := ⟨n - 1, by omega⟩
  simp [Builtin.clear_, run_underlying ht, hv, hst]

end Pk
end Go.Proofs.Ytdjhhnolcafkiaa

/- The readers of numbers: what each call answers. -/
namespace Go.Proofs.Ytdjhhnolcafkiaa
open Go.RowKit

set_option maxHeartbeats 400000 in
theorem within_any (a b : Int) (w : World) :
    Calls Try.prog 69 #[.int .i64 a, .int .i64 b] w fun e w' => e = .returned (.bool (decide (0 ≤ a ∧ a ≤ b))) ∧ w' = w := by
  by_cases h0 : 0 ≤ a
  · by_cases h1 : a ≤ b
    · go_enter Try.func69, Try.ntmps69
      go_wp2
      go_ret
      exact ⟨by simp [h0, h1], rfl⟩
    · go_enter Try.func69, Try.ntmps69
      go_wp2
      go_ret
      exact ⟨by simp [h1], rfl⟩
  · have hd : decide (0 ≤ a) = false := by simpa using h0
    go_enter Try.func69, Try.ntmps69
    go_wp2
    go_ret
    exact ⟨by simp, rfl⟩

set_option maxHeartbeats 400000 in
theorem readNumber_any (s : ByteArray) (w : World) (hs : s.size ≤ 4) :
    Calls Try.prog 76 #[.string s] w fun e w' => e = .returned (.int .i64 (Pk.num s.data.toList)) ∧ w' = w := by
  go_enter Try.func76, Try.ntmps76
  go_wp2
  go_loop [3, 7] (fun n i => ∃ k : Nat, k ≤ s.size ∧ i = .int .i64 k ∧ n = .int .i64 (Pk.num (s.data.toList.take k))) (fun _ i => s.size - (intOf i).toNat)
  case atStart => exact ⟨0, Nat.zero_le _, rfl, rfl⟩
  case round =>
    obtain ⟨k, hk, rfl, rfl⟩ := hrel
    by_cases hlt : k < s.size
    · go_wp2
      go_round
      case rel => exact ⟨k + 1, by omega, by go_num, by rw [Pk.num_byte s k hlt hs]⟩
      case measure => simp [intOf]; omega
    · go_wp2
      go_ret
      exact ⟨Pk.ret_int (by rw [Pk.take_all s k (by omega)]), rfl⟩

set_option maxHeartbeats 400000 in
theorem allNoughts_any (s : ByteArray) (w : World) (hs : s.size ≤ maxLen) :
    Calls Try.prog 78 #[.string s] w fun e w' => e = .returned (.bool (Pk.noughts s.data.toList)) ∧ w' = w := by
  unfold maxLen at hs
  go_enter Try.func78, Try.ntmps78
  go_wp2
  go_loop [6] (fun i => ∃ k : Nat, k ≤ s.size ∧ i = .int .i64 k ∧ Pk.noughts (s.data.toList.take k) = true) (fun i => s.size - (intOf i).toNat)
  case atStart => exact ⟨0, Nat.zero_le _, rfl, rfl⟩
  case round =>
    obtain ⟨k, hk, rfl, hn⟩ := hrel
    have Hn : Hid (Pk.noughts (s.data.toList.take k) = true) := hn
    clear hn
    by_cases hlt : k < s.size
    · have Hs : Hid (Pk.noughts (s.data.toList.take (k + 1)) = (s[k] == 0)) := by
        show _ = _
        rw [Pk.take_snoc s k hlt, Pk.noughts_snoc, Hn.out, Bool.true_and]
      by_cases hz : s[k].toNat = 0
      · have Hz : Hid (s[k].toNat = 0) := hz
        have hb : ((s[k].toNat : Int) != 0) = false := by simp [hz]
        clear hz
        go_wp2
        go_round
        case rel => exact ⟨k + 1, by omega, by go_num, by rw [Hs.out]; simpa using UInt8.toNat_inj.1 (Hz.out : s[k].toNat = (0 : UInt8).toNat)⟩
        case measure => simp [intOf]; omega
      · have Hz : Hid (s[k].toNat ≠ 0) := hz
        have hb : ((s[k].toNat : Int) != 0) = true := by simpa using hz
        clear hz
        go_wp2
        go_ret
        refine ⟨Pk.ret_bool (Pk.noughts_false _ (k + 1) ?_).symm, rfl⟩
        rw [Hs.out]
        exact beq_eq_false_iff_ne.2 fun e => Hz.out (by rw [e]; rfl)
    · go_wp2
      go_ret
      exact ⟨Pk.ret_bool (by rw [← Pk.take_all s k (by omega), Hn.out]), rfl⟩

set_option maxHeartbeats 400000 in
theorem pick_any (c n : Int) (w : World) (h0 : -9223372036854775808 ≤ c) (h1 : c ≤ 9223372036854775807) (hn : 1 ≤ n) (hn' : n ≤ 9223372036854775807) :
    Calls Try.prog 20 #[.int .i64 c, .int .i64 n] w fun e w' => e = .returned (.int .i64 (Pk.pickF c n)) ∧ w' = w := by
  by_cases hc : c < 0
  · have He : Hid (Pk.pickF c n = -((c + 1).tmod n)) := by show _ = _; unfold Pk.pickF; rw [if_pos hc, ← Int.neg_tmod]; exact (Int.tmod_eq_emod_of_nonneg (by omega)).symm
    go_enter Try.func20, Try.ntmps20
    go_wp2
    go_ret
    exact ⟨Pk.ret_int He.out.symm, rfl⟩
  · have He : Hid (Pk.pickF c n = c % n) := by show _ = _; unfold Pk.pickF; rw [if_neg hc]
    go_enter Try.func20, Try.ntmps20
    go_wp2
    go_ret
    exact ⟨Pk.ret_int He.out.symm, rfl⟩

set_option maxHeartbeats 400000 in
theorem cut_any (s : ByteArray) (n : Nat) (w : World) (_hs : s.size ≤ maxLen) (hn : n ≤ 10000) :
    Calls Try.prog 23 #[.string s, .int .i64 n] w fun e w' => e = .returned (.string (Pk.cutF s n)) ∧ w' = w := by
  unfold maxLen at _hs
  by_cases hc : n < s.size
  · have He : Hid (Pk.cutF s n = s.extract 0 n) := by show _ = _; unfold Pk.cutF; rw [if_pos hc]
    go_enter Try.func23, Try.ntmps23
    go_wp2
    go_ret
    exact ⟨Pk.ret_string He.out.symm, rfl⟩
  · have He : Hid (Pk.cutF s n = s) := by show _ = _; unfold Pk.cutF; rw [if_neg hc]
    go_enter Try.func23, Try.ntmps23
    go_wp2
    go_ret
    exact ⟨Pk.ret_string He.out.symm, rfl⟩

set_option maxHeartbeats 400000 in
theorem allWithin_any (B : Nat) (v : Value) (l : List Int) (m : Int) (w : World) (hv : Pk.IsInts B w v l) (hl : l.length ≤ 17592186044416) :
    Calls Try.prog 98 #[v, .int .i64 m] w fun e w' => e = .returned (.bool (Pk.allIn l m)) ∧ w' = w := by
  rcases hv.cases with ⟨ao, cap, rfl, rfl⟩ | ⟨b, off, cap, rfl, hpos, hb, hc⟩
  · go_enter Try.func98, Try.ntmps98
    go_wp2
    refine wp_loop_rounds 1 ?_; rw [rounds_succ]
    go_wp2
    go_ret
    exact ⟨rfl, rfl⟩
  · clear hv
    generalize hn : l.length = n at *
    have Hn : Hid (l.length = n) := hn
    clear hn
    go_enter Try.func98, Try.ntmps98
    go_wp2
    go_loop [9] (fun i => ∃ k : Nat, k ≤ n ∧ i = .int .i64 k ∧ Pk.allIn (l.take k) m = true) (fun i => n - (intOf i).toNat)
    case atStart => exact ⟨0, Nat.zero_le _, rfl, rfl⟩
    case round =>
      obtain ⟨k, hk, rfl, hok⟩ := hrel
      have Hok : Hid (Pk.allIn (l.take k) m = true) := hok
      clear hok
      by_cases hlt : k < n
      · have hck := hc k hlt
        have Hs : Hid (Pk.allIn (l.take (k + 1)) m = decide (0 ≤ l.getD k 0 ∧ l.getD k 0 ≤ m)) := by
          show _ = _
          rw [Pk.allIn_take_succ l k m (by rw [Hn.out]; exact hlt), Hok.out, Bool.true_and]
        clear hc
        generalize l.getD k 0 = q at *
        by_cases hq : 0 ≤ q ∧ q ≤ m
        · have Hq : Hid (decide (0 ≤ q ∧ q ≤ m) = true) := decide_eq_true hq
          clear hq
          go_wp2_with (go_at_call 69; refine (within_any _ _ _).mono ?_; rintro e w' ⟨rfl, rfl⟩; rw [Hq.out])
          go_round
          case rel => exact ⟨k + 1, by omega, by go_num, by rw [Hs.out, Hq.out]⟩
          case measure => simp [intOf]; omega
        · have Hq : Hid (decide (0 ≤ q ∧ q ≤ m) = false) := decide_eq_false hq
          clear hq
          go_wp2_with (go_at_call 69; refine (within_any _ _ _).mono ?_; rintro e w' ⟨rfl, rfl⟩; rw [Hq.out])
          go_ret
          exact ⟨Pk.ret_bool (Pk.allIn_false _ (k + 1) _ (by rw [Hs.out, Hq.out])).symm, rfl⟩
      · go_wp2
        go_ret
        refine ⟨Pk.ret_bool ?_, rfl⟩
        rw [← Hok.out, List.take_of_length_le (by have := Hn.out; omega)]

end Go.Proofs.Ytdjhhnolcafkiaa

/- Numbers of four bytes each are read into a new list. -/
namespace Go.Proofs.Ytdjhhnolcafkiaa
open Go.RowKit
namespace Pk

/-- numbers of four bytes each -/
def words : List UInt8 → List Int
  | a :: b :: c :: d :: r => (num [a, b, c, d] : Int) :: words r
  | _ => []
theorem words_step (l : List UInt8) (h : 4 ≤ l.length) : words l = (num (l.take 4) : Int) :: words (l.drop 4) := by
  match l, h with
  | a :: b :: c :: d :: r, _ => rfl
theorem words_stop (l : List UInt8) (h : l.length < 4) : words l = [] := by
  match l, h with
  | [], _ => rfl
  | [_], _ => rfl
  | [_, _], _ => rfl
  | [_, _, _], _ => rfl
theorem words_length (n : Nat) : ∀ l : List UInt8, l.length = 4 * n → (words l).length = n := by
  induction n with
  | zero => intro l h; rw [words_stop l (by omega)]; rfl
  | succ n ih =>
    intro l h
    rw [words_step l (by omega), List.length_cons, ih (l.drop 4) (by rw [List.length_drop]; omega)]
def strLen : Value → Nat | .string s => s.size | _ => 0

end Pk
open Pk

set_option maxHeartbeats 1000000 in
theorem readWords_any (s : ByteArray) (w : World) (hs : s.size ≤ 1500) :
    Calls Try.prog 75 #[.string s] w fun e w' => ∃ v, e = .returned v ∧ OwnInts w' w.heap.size v (words s.data.toList) ∧ Below w.heap.size w w' := by
  have hinfo : (Try.prog.info? 3).map (fun i => (i.zero, i.size, i.bytes)) = some (some (.int .i64 0), 1, 8) := by kernel_rfl
  obtain ⟨i0, hi, hz0, hz1, hz2⟩ := info_parts hinfo
  have Hi : Hid (Try.prog.info? 3 = some i0 ∧ i0.zero = some (.int .i64 0) ∧ i0.size = 1 ∧ i0.bytes = 8) := ⟨hi, hz0, hz1, hz2⟩
  clear hi hz0 hz1 hz2 hinfo
  go_enter Try.func75, Try.ntmps75
  go_wp2
  go_loopw [0, 3] (fun tv v wr => ∃ (t : ByteArray) (l : List Int), tv = .string t ∧ l ++ words t.data.toList = words s.data.toList ∧ t.size + 4 * l.length ≤ s.size ∧ OwnInts wr w.heap.size v l ∧ Below w.heap.size w wr) (fun tv _ _ => strLen tv)
  case atStart => exact ⟨s, [], rfl, rfl, by simp, World.ownsRow_nil _ _ _ _, Below.refl _ _⟩
  case round =>
    obtain ⟨t, l, rfl, hl, ht, hown, hb⟩ := hrel
    have Hl : Hid (l ++ words t.data.toList = words s.data.toList) := hl
    clear hl
    by_cases h4 : 4 ≤ t.size
    · have Hs : Hid (words t.data.toList = (num (t.extract 0 4).data.toList : Int) :: words (t.extract 4 t.size).data.toList) := by
        show _ = _
        rw [words_step _ (by rw [← Lib.size_eq]; exact h4), Lib.extract_data, Lib.extract_data, List.drop_zero, List.take_of_length_le (i := t.size - 4) (by rw [List.length_drop, ← Lib.size_eq]; exact Nat.le_refl _)]
      have h4i : (4 : Int) ≤ t.size := by omega
      go_wp2_with fail
      refine (readNumber_any _ _ (by simp only [ByteArray.size_extract]; omega)).mono ?_
      rintro e w1 ⟨rfl, rfl⟩
      generalize num (t.extract 0 4).data.toList = q at *
      go_wp2_with (at_builtin; refine wpList_append_own _ rfl (.tmp 9) (.tmp 13) 27 rfl w.heap.size 3 i0 (.int .i64 0) 1 8 Try.underlying27 Hi.out.1 Hi.out.2.1 Hi.out.2.2.1 Hi.out.2.2.2 rfl (by decide) _ l.length (l.map (Value.int .i64)) rfl (hown.alloc _) _ 1 1 [.int .i64 q] rfl rfl (cell_one_new _ _ _) ?_ ?_ ?_ ?_ ?_; (intro u hu; simp at hu; subst hu; rfl); (unfold maxLen; omega); omega; (have := hb.size; simp; omega); intro v' w1 hown' hgrow _)
      have R1 : OwnInts w1 w.heap.size v' (l ++ [(q : Int)]) := by simpa [OwnInts] using hown'
      have R2 : Below w.heap.size w w1 := (hb.alloc hb.size _).grown hgrow (by have := hb.size; simp; omega) (fun k hk => (World.ownsRow.lt hown k hk).1)
      clear hown hown' hgrow
      go_roundw
      case rel => exact ⟨t.extract 4 t.size, l ++ [(q : Int)], rfl, by rw [List.append_assoc, ← Hl.out, Hs.out]; rfl, by simp only [ByteArray.size_extract, List.length_append, List.length_singleton]; omega, R1, R2⟩
      case measure => simp only [strLen, ByteArray.size_extract]; omega
    · have h4i : ¬ (4 : Int) ≤ t.size := by omega
      go_wp2
      go_ret
      refine ⟨_, rfl, ?_, hb⟩
      have h := Hl.out
      rw [words_stop t.data.toList (by rw [← Lib.size_eq]; omega), List.append_nil] at h
      rw [← h]
      exact hown

end Go.Proofs.Ytdjhhnolcafkiaa

/- Bits of a byte: plain facts. -/
namespace Go.Proofs.Ytdjhhnolcafkiaa
namespace Pk

theorem bit_of (b : UInt8) (k m : Nat) (hm : m = 2 ^ k) (h : m < 256) : (bits .and .u8 (b.toNat : Int) (m : Int) != 0) = decide (b.toNat / m % 2 = 1) := by
  have hb := b.toNat_lt
  have e : (b.toNat &&& m) = b.toNat / m % 2 * m := by subst hm; exact nat_bit k b.toNat
  rw [u8_and_nat b.toNat m (by omega) h, e]
  have h2 : b.toNat / m % 2 < 2 := Nat.mod_lt _ (by omega)
  have hm0 : 0 < m := by subst hm; exact Nat.pos_of_ne_zero (by simp)
  rw [Bool.eq_iff_iff]
  simp only [bne_iff_ne, ne_eq, decide_eq_true_eq]
  constructor
  · intro h3
    rcases (show b.toNat / m % 2 = 0 ∨ b.toNat / m % 2 = 1 by omega) with h4 | h4
    · rw [h4] at h3; simp at h3
    · exact h4
  · intro h3 h4
    rw [h3] at h4
    omega
theorem marker_bit (b : UInt8) : (bits .and .u8 (b.toNat : Int) 128 != 0) = decide (128 ≤ b.toNat) := by
  have h := bit_of b 7 128 (by decide) (by omega)
  have hb := b.toNat_lt
  refine h.trans ?_
  rw [Bool.eq_iff_iff, decide_eq_true_eq, decide_eq_true_eq]
  omega
theorem ext_bit (b : UInt8) : (bits .and .u8 (b.toNat : Int) 16 != 0) = decide (b.toNat / 16 % 2 = 1) := bit_of b 4 16 (by decide) (by omega)
theorem pad_bit (b : UInt8) : (bits .and .u8 (b.toNat : Int) 32 != 0) = decide (b.toNat / 32 % 2 = 1) := bit_of b 5 32 (by decide) (by omega)
theorem low4 (b : UInt8) : bits .and .u8 (b.toNat : Int) 15 = ((b.toNat % 16 : Nat) : Int) := by
  have hb := b.toNat_lt
  have h := u8_and_nat b.toNat 15 (by omega) (by omega)
  rw [nat_mask4] at h
  exact h
theorem low7 (b : UInt8) : bits .and .u8 (b.toNat : Int) 127 = ((b.toNat % 128 : Nat) : Int) := by
  have hb := b.toNat_lt
  have h := u8_and_nat b.toNat 127 (by omega) (by omega)
  rw [nat_mask7] at h
  exact h
theorem type_bits (b : UInt8) : IntKind.i64.wrap (bits .and .u8 (b.toNat : Int) 127) = ((b.toNat % 128 : Nat) : Int) := by
  rw [low7]
  exact wrapI64 _ (by omega) (by omega)

end Pk
end Go.Proofs.Ytdjhhnolcafkiaa

/- What a text is read as: plain functions. -/
namespace Go.Proofs.Ytdjhhnolcafkiaa
namespace Pk

/-- what a packet's bytes tell -/
structure PP where
  mrk : Bool
  ex : Bool
  ty : Int
  nu : Int
  ti : Int
  so : Int
  pr : Int
  pa : Int
  cl : List Int
  en : ByteArray
  py : ByteArray

def B0 (s : ByteArray) : UInt8 := s.data.toList.getD 0 0
def B1 (s : ByteArray) : UInt8 := s.data.toList.getD 1 0
def Bl (s : ByteArray) : UInt8 := s.data.toList.getD (s.size - 1) 0
def bad1 (s : ByteArray) : Bool := decide (s.size < 12 ∨ 1500 < s.size ∨ (B0 s).toNat / 64 ≠ 2)
def at0 (s : ByteArray) : Nat := 12 + 4 * ((B0 s).toNat % 16)
def extLen (s : ByteArray) : Nat := 4 * num (s.extract (at0 s + 2) (at0 s + 4)).data.toList
/-- the extension's profile, its bytes, where the payload begins -/
def extPart (s : ByteArray) : Option (Nat × ByteArray × Nat) :=
  if (B0 s).toNat / 16 % 2 = 1 then
    if s.size - at0 s < 4 then none
    else if s.size - (at0 s + 4) < extLen s then none
    else some (num (s.extract (at0 s) (at0 s + 2)).data.toList, s.extract (at0 s + 4) (at0 s + 4 + extLen s), at0 s + 4 + extLen s)
  else some (0, ⟨#[]⟩, at0 s)
/-- the padding's length, where the payload ends -/
def padPart (s : ByteArray) (a : Nat) : Option (Nat × Nat) :=
  if (B0 s).toNat / 32 % 2 = 1 then
    if (Bl s).toNat = 0 ∨ s.size - a < (Bl s).toNat then none
    else if noughts (s.extract (s.size - (Bl s).toNat) (s.size - 1)).data.toList = true then some ((Bl s).toNat, s.size - (Bl s).toNat) else none
  else some (0, s.size)
def mkP (s : ByteArray) (x : Nat × ByteArray × Nat) (y : Nat × Nat) : PP :=
  { mrk := decide (128 ≤ (B1 s).toNat), ex := decide ((B0 s).toNat / 16 % 2 = 1), ty := ((B1 s).toNat % 128 : Nat), nu := num ((s.data.toList.drop 2).take 2), ti := num ((s.data.toList.drop 4).take 4), so := num ((s.data.toList.drop 8).take 4),
    pr := x.1, pa := y.1, cl := words (s.extract 12 (at0 s)).data.toList, en := x.2.1, py := s.extract x.2.2 y.2 }
/-- a text as a packet -/
def readP (s : ByteArray) : Option PP :=
  if bad1 s = true then none else if s.size < at0 s then none else (extPart s).bind fun x => (padPart s x.2.2).map fun y => mkP s x y

theorem readP_bad (s : ByteArray) (h : bad1 s = true) : readP s = none := by unfold readP; rw [if_pos h]
theorem readP_at (s : ByteArray) (h : bad1 s = false) (h2 : s.size < at0 s) : readP s = none := by unfold readP; rw [if_neg (by rw [h]; simp), if_pos h2]
theorem readP_of (s : ByteArray) (h : bad1 s = false) (h2 : at0 s ≤ s.size) : readP s = (extPart s).bind fun x => (padPart s x.2.2).map fun y => mkP s x y := by
  unfold readP; rw [if_neg (by rw [h]; simp), if_neg (by omega)]

theorem get0 (s : ByteArray) (h : 0 < s.size) : s[0] = B0 s := by
  unfold B0
  rw [List.getD_eq_getElem?_getD, List.getElem?_eq_getElem (by simpa using h)]
  rfl
theorem get1 (s : ByteArray) (h : 1 < s.size) : s[1] = B1 s := by
  unfold B1
  rw [List.getD_eq_getElem?_getD, List.getElem?_eq_getElem (by simpa using h)]
  rfl
theorem getl (s : ByteArray) (h : s.size - 1 < s.size) : s[s.size - 1] = Bl s := by
  unfold Bl
  rw [List.getD_eq_getElem?_getD, List.getElem?_eq_getElem (by simpa using h)]
  rfl

end Pk
end Go.Proofs.Ytdjhhnolcafkiaa

/- Missing numbers and kept packets: how they lie in memory. -/
namespace Go.Proofs.Ytdjhhnolcafkiaa
open Go.RowKit
namespace Pk

/-- a missing number -/
structure Gp where
  n : Nat
  last : Int
  tries : Int
/-- a packet that is kept: its number, what it tells, its list of contributors, until when it rests -/
structure Kp where
  n : Nat
  x : PP
  cv : Value
  rests : Int
def cellsG (x : Gp) : List Value := [.int .u16 x.n, .int .i64 x.last, .int .i64 x.tries]
def cellsP (x : PP) (cv : Value) : List Value := [.bool x.mrk, .int .i64 x.ty, .int .i64 x.nu, .int .i64 x.ti, .int .i64 x.so, cv, .bool x.ex, .int .i64 x.pr, .string x.en, .string x.py, .int .i64 x.pa]
def cellsK (x : Kp) : List Value := [.int .u16 x.n, .bool x.x.mrk, .int .i64 x.x.ty, .int .i64 x.x.nu, .int .i64 x.x.ti, .int .i64 x.x.so, x.cv, .bool x.x.ex, .int .i64 x.x.pr, .string x.x.en, .string x.x.py, .int .i64 x.x.pa, .int .i64 x.rests]
theorem cellsG_len (x : Gp) : (cellsG x).length = 3 := rfl
theorem cellsK_len (x : Kp) : (cellsK x).length = 13 := rfl

/-- where a number stands: -1: nowhere -/
def posF (x : Nat) : List Nat → Int
  | [] => -1
  | y :: r => if y = x then 0 else if posF x r < 0 then -1 else posF x r + 1
theorem posF_no (x : Nat) : ∀ l : List Nat, (∀ y ∈ l, y ≠ x) → posF x l = -1
  | [], _ => rfl
  | y :: r, h => by rw [posF, if_neg (h y (by simp)), posF_no x r (fun z hz => h z (by simp [hz]))]; rfl
theorem posF_at (x : Nat) : ∀ (l : List Nat) (k : Nat) (h : k < l.length), (∀ m (hm : m < k), l[m] ≠ x) → l[k] = x → posF x l = k
  | y :: r, 0, _, _, h2 => by rw [posF, if_pos (show y = x from h2)]; rfl
  | y :: r, k + 1, h, h1, h2 => by
    have e := posF_at x r k (by simpa using h) (fun m hm => h1 (m + 1) (by omega)) h2
    rw [posF, if_neg (show ¬ y = x from h1 0 (by omega)), e, if_neg (by omega)]
    omega
theorem posF_cases (x : Nat) : ∀ l : List Nat, (posF x l = -1 ∧ ∀ y ∈ l, y ≠ x) ∨ ∃ k, ∃ h : k < l.length, posF x l = k ∧ l[k] = x ∧ ∀ m (hm : m < k), l[m] ≠ x
  | [] => .inl ⟨rfl, fun y hy => by simp at hy⟩
  | y :: r => by
    by_cases e : y = x
    · exact .inr ⟨0, by simp, by rw [posF, if_pos e]; rfl, e, fun m hm => by omega⟩
    · rcases posF_cases x r with ⟨h1, h2⟩ | ⟨k, hk, h1, h2, h3⟩
      · refine .inl ⟨by rw [posF, if_neg e, h1]; rfl, fun z hz => ?_⟩
        rcases List.mem_cons.1 hz with rfl | hz
        · exact e
        · exact h2 z hz
      · refine .inr ⟨k + 1, by simpa using hk, by rw [posF, if_neg e, h1, if_neg (by omega)]; omega, by simpa using h2, fun m hm => ?_⟩
        cases m with
        | zero => exact e
        | succ m => simpa using h3 m (by omega)

/-- the list in a stream's block has turned, and nothing else of the block -/
structure Upd (w w' : World) (sb : Nat) (v v' : Value) : Prop where
  chg : Chg (fun b => b = sb ∨ v.ownBlock = some b) w w'
  oth : ∀ o, o ≠ 2 → w'.cell? ⟨sb, o, none⟩ = w.cell? ⟨sb, o, none⟩
  fz : ∀ o, w'.frozen? ⟨sb, o, none⟩ = w.frozen? ⟨sb, o, none⟩
  c2 : w'.cell? ⟨sb, 2, none⟩ = some v'
  own : ∀ b, v'.ownBlock = some b → v.ownBlock = some b ∨ w.heap.size ≤ b
theorem Upd.refl {w : World} {sb : Nat} {v : Value} (h : w.cell? ⟨sb, 2, none⟩ = some v) : Upd w w sb v v := ⟨Chg.refl _ _, fun _ _ => rfl, fun _ => rfl, h, fun _ h => .inl h⟩
theorem Upd.trans {a b c : World} {sb : Nat} {v v1 v2 : Value} (h : Upd a b sb v v1) (k : Upd b c sb v1 v2) : Upd a c sb v v2 :=
  ⟨h.chg.trans k.chg (fun x hx e => by
      rcases e with e | e
      · exact .inl e
      · rcases h.own x e with e | e
        · exact .inr e
        · omega), fun o ho => (k.oth o ho).trans (h.oth o ho), fun o => (k.fz o).trans (h.fz o), k.c2, fun x hx => by
      rcases k.own x hx with e | e
      · exact h.own x e
      · exact .inr (Nat.le_trans h.chg.size e)⟩
/-- what has turned nothing that was there -/
theorem Upd.before {a b c : World} {sb : Nat} {v v1 : Value} (h : Below a.heap.size a b) (hs : sb < a.heap.size) (k : Upd b c sb v v1) : Upd a c sb v v1 :=
  ⟨(Chg.ofBelow h).trans k.chg (fun _ _ e => e), fun o ho => (k.oth o ho).trans (h.cell (p := ⟨sb, o, none⟩) hs), fun o => (k.fz o).trans (h.frozen (p := ⟨sb, o, none⟩) hs), k.c2, fun x hx => (k.own x hx).imp id (fun e => Nat.le_trans h.size e)⟩
/-- a row has turned, and it is stored -/
theorem Upd.stored {a b : World} {sb : Nat} {v v1 : Value} (hs : sb < a.heap.size) (h2 : a.cell? ⟨sb, 2, none⟩ = some v) (hne : v.ownBlock ≠ some sb) (hg : a.grownBy b v.ownBlock) (ho : ∀ x, v1.ownBlock = some x → v.ownBlock = some x ∨ a.heap.size ≤ x) : Upd a (b.setCell ⟨sb, 2, none⟩ v1) sb v v1 := by
  have hc : Chg (fun x => v.ownBlock = some x) a b := Chg.ofGrown hg
  refine ⟨((hc.mono (fun _ _ e => .inr e)).setCell ⟨sb, 2, none⟩ (.inl (.inl rfl)) _), fun o h => ?_, fun o => ?_, World.cell?_setCell_same _ _ _ (hc.cell h2 hne), ho⟩
  · rw [World.cell?_setCell_other _ _ _ _ (fun e => by injection e with _ e _; omega)]
    exact World.cell?_of_block (hc.block sb hs hne)
  · rw [World.frozen?_setCell]
    exact World.frozen?_of_block (hc.block sb hs hne)

/-- without the first element of a number -/
def rmF {α : Type} (nf : α → Nat) (num : Nat) (l : List α) : List α := if posF num (l.map nf) < 0 then l else l.take (posF num (l.map nf)).toNat ++ l.drop ((posF num (l.map nf)).toNat + 1)
theorem rmF_length {α : Type} (nf : α → Nat) (num : Nat) (l : List α) : (rmF nf num l).length ≤ l.length := by
  unfold rmF
  split
  · exact Nat.le_refl _
  · rw [List.length_append, List.length_take, List.length_drop]
    omega

theorem cellsG_one (l : List Gp) : ∀ u ∈ l.flatMap cellsG, u.oneCell' = true := by
  intro u hu
  obtain ⟨x, _, hx⟩ := List.mem_flatMap.1 hu
  simp [cellsG] at hx
  rcases hx with rfl | rfl | rfl <;> rfl
def OneK (l : List Kp) : Prop := ∀ x ∈ l, x.cv.oneCell' = true
theorem cellsK_one (l : List Kp) (h : OneK l) : ∀ u ∈ l.flatMap cellsK, u.oneCell' = true := by
  intro u hu
  obtain ⟨x, hx1, hx⟩ := List.mem_flatMap.1 hu
  simp [cellsK] at hx
  rcases hx with rfl | rfl | rfl | rfl | rfl | rfl | rfl | rfl | rfl | rfl | rfl | rfl | rfl <;> first | rfl | exact h x hx1

end Pk
end Go.Proofs.Ytdjhhnolcafkiaa

/- Askings in new memory, each with a list of numbers of its own: plain facts. -/
namespace Go.Proofs.Ytdjhhnolcafkiaa
open Go.RowKit
namespace Pk

/-- an asking as it was handed in: its two sources, its list, what that holds -/
structure Ask1 where
  a : Int
  b : Int
  v : Value
  l : List Int
def flatA (xs : List Ask1) : List Value := xs.flatMap fun x => [.int .i64 x.a, .int .i64 x.b, x.v]
theorem flatA_length (xs : List Ask1) : (flatA xs).length = xs.length * 3 := by
  induction xs with
  | nil => rfl
  | cons x xs ih => rw [show flatA (x :: xs) = .int .i64 x.a :: .int .i64 x.b :: x.v :: flatA xs from rfl, List.length_cons, List.length_cons, List.length_cons, ih, List.length_cons]; omega
theorem flatA_at (xs : List Ask1) : ∀ k (h : k < xs.length), (flatA xs)[k * 3 + 2]? = some (xs[k]).v := by
  induction xs with
  | nil => intro k h; simp at h
  | cons x xs ih =>
    intro k h
    rw [show flatA (x :: xs) = .int .i64 x.a :: .int .i64 x.b :: x.v :: flatA xs from rfl]
    cases k with
    | zero => rfl
    | succ k =>
      have := ih k (by simpa using h)
      rw [show (k + 1) * 3 + 2 = k * 3 + 2 + 1 + 1 + 1 by omega]
      simpa using this

structure OwnAsks (W : World) (base : Nat) (lv : Value) (xs : List Ask1) : Prop where
  row : W.ownsRow base 40 3 lv xs.length (flatA xs)
  each : ∀ (i : Nat) (x : Ask1), xs[i]? = some x → OwnInts W base x.v x.l ∧ x.l.length ≤ 6400
  apart : ∀ (i j : Nat) (x y : Ask1), i ≠ j → xs[i]? = some x → xs[j]? = some y → ∀ b, x.v.ownBlock = some b → y.v.ownBlock ≠ some b
  out : ∀ (i : Nat) (x : Ask1), xs[i]? = some x → ∀ b, x.v.ownBlock = some b → lv.ownBlock ≠ some b

theorem rowA_chg {T : Nat → Prop} {a b : World} {base e size n : Nat} {v : Value} {xs : List Value} (h : Chg T a b) (ho : a.ownsRow base e size v n xs) (hn : ∀ x, v.ownBlock = some x → ¬ T x) : b.ownsRow base e size v n xs := by
  have hl := ho.lt
  obtain ⟨h1, h2 | ⟨g, cap, cur, rfl, hb, hh, r⟩⟩ := ho
  · exact ⟨h1, .inl h2⟩
  · exact ⟨h1, .inr ⟨g, cap, cur, rfl, hb, (h.block g (hl g rfl).2 (hn g rfl)).trans hh, r⟩⟩
theorem rowA_some {W : World} {base e size n cap : Nat} {ao : Option Addr} {xs : List Value} (h : W.ownsRow base e size (.slice ao n cap) n xs) (hn : 0 < n) : ∃ g, ao = some ⟨g, 0, none⟩ := by
  obtain ⟨_, h2 | ⟨g, cap', cur, e', _⟩⟩ := h
  · omega
  · simp only [Value.slice.injEq] at e'
    exact ⟨g, e'.1⟩
theorem rowA_shape {W : World} {base e size n : Nat} {v : Value} {xs : List Value} (h : W.ownsRow base e size v n xs) : ∃ ao cap, v = .slice ao n cap := by
  obtain ⟨_, h2 | ⟨g, cap, cur, rfl, _⟩⟩ := h
  · exact ⟨none, 0, by rw [h2.1, h2.2]⟩
  · exact ⟨_, _, rfl⟩

theorem flatA_snoc (xs : List Ask1) (x : Ask1) : flatA (xs ++ [x]) = flatA xs ++ [.int .i64 x.a, .int .i64 x.b, x.v] := by
  unfold flatA
  rw [List.flatMap_append]
  rfl
theorem flatA_at0 (xs : List Ask1) : ∀ k (h : k < xs.length), (flatA xs)[k * 3]? = some (.int .i64 (xs[k]).a) ∧ (flatA xs)[k * 3 + 1]? = some (.int .i64 (xs[k]).b) := by
  induction xs with
  | nil => intro k h; simp at h
  | cons x xs ih =>
    intro k h
    rw [show flatA (x :: xs) = .int .i64 x.a :: .int .i64 x.b :: x.v :: flatA xs from rfl]
    cases k with
    | zero => exact ⟨rfl, rfl⟩
    | succ k =>
      have := ih k (by simpa using h)
      rw [show (k + 1) * 3 = k * 3 + 1 + 1 + 1 by omega, show k * 3 + 1 + 1 + 1 + 1 = k * 3 + 1 + 1 + 1 + 1 by omega]
      simpa using this

theorem OwnAsks.nil (W : World) (base : Nat) : OwnAsks W base (.slice none 0 0) [] :=
  ⟨World.ownsRow_nil _ _ _ _, fun i x h => by simp at h, fun i j x y _ h => by simp at h, fun i x h => by simp at h⟩

/-- one asking more -/
theorem OwnAsks.snoc {wr w1 w2 : World} {base : Nat} {lv lv' : Value} {xs : List Ask1} {x : Ask1} (h : OwnAsks wr base lv xs) (hb1 : Below wr.heap.size wr w1) (hx : OwnInts w1 wr.heap.size x.v x.l) (hl : x.l.length ≤ 6400) (hbase : base ≤ wr.heap.size)
    (hrow : w2.ownsRow base 40 3 lv' (xs.length + 1) (flatA xs ++ [.int .i64 x.a, .int .i64 x.b, x.v])) (hg : w1.grownBy w2 lv.ownBlock) (ho : lv'.ownBlock = lv.ownBlock ∨ ∀ b, lv'.ownBlock = some b → w1.heap.size ≤ b) : OwnAsks w2 base lv' (xs ++ [x]) := by
  have lvlt : ∀ b, lv.ownBlock = some b → b < wr.heap.size := fun b hb => (h.row.lt b hb).2
  have xlt : ∀ b, x.v.ownBlock = some b → wr.heap.size ≤ b ∧ b < w1.heap.size := fun b hb => World.ownsRow.lt hx b hb
  have olt : ∀ (i : Nat) (y : Ask1), xs[i]? = some y → ∀ b, y.v.ownBlock = some b → b < wr.heap.size := fun i y hy b hb => (World.ownsRow.lt (h.each i y hy).1 b hb).2
  have hc : Chg (fun b => lv.ownBlock = some b) w1 w2 := Chg.ofGrown hg
  have lo : ∀ b, lv'.ownBlock = some b → lv.ownBlock = some b ∨ w1.heap.size ≤ b := fun b hb => by
    rcases ho with e | e
    · exact .inl (e ▸ hb)
    · exact .inr (e b hb)
  have part : ∀ (i : Nat) (y : Ask1), (xs ++ [x])[i]? = some y → xs[i]? = some y ∧ i < xs.length ∨ y = x ∧ i = xs.length := fun i y hy => by
    rcases Nat.lt_or_ge i xs.length with hi | hi
    · rw [List.getElem?_append_left hi] at hy
      exact .inl ⟨hy, hi⟩
    · rw [List.getElem?_append_right hi] at hy
      have hlt := (List.getElem?_eq_some_iff.1 hy).1
      simp at hlt
      have e : i - xs.length = 0 := by omega
      rw [e] at hy
      simp at hy
      exact .inr ⟨hy.symm, by omega⟩
  refine ⟨?_, ?_, ?_, ?_⟩
  · rw [List.length_append, flatA_snoc]
    exact hrow
  · intro i y hy
    rcases part i y hy with ⟨hy, _⟩ | ⟨rfl, _⟩
    · obtain ⟨o1, o2⟩ := h.each i y hy
      exact ⟨hc.row (o1.below hb1) (fun b hb e => h.out i y hy b hb e), o2⟩
    · exact ⟨OwnInts.mono (base := wr.heap.size) (hc.row hx (fun b hb e => by have := lvlt b e; have := (xlt b hb).1; omega)) hbase, hl⟩
  · intro i j y z hij hy hz b hb e
    rcases part i y hy with ⟨hy', hi⟩ | ⟨hyx, hi⟩
    · rcases part j z hz with ⟨hz', _⟩ | ⟨hzx, hj⟩
      · exact h.apart i j y z hij hy' hz' b hb e
      · have := olt i y hy' b hb; have := (xlt b (hzx ▸ e)).1; omega
    · rcases part j z hz with ⟨hz', _⟩ | ⟨hzx, hj⟩
      · have := olt j z hz' b e; have := (xlt b (hyx ▸ hb)).1; omega
      · omega
  · intro i y hy b hb e
    rcases part i y hy with ⟨hy, _⟩ | ⟨rfl, _⟩
    · rcases lo b e with e | e
      · exact h.out i y hy b hb e
      · have := olt i y hy b hb; have := hb1.size; omega
    · rcases lo b e with e | e
      · have := lvlt b e; have := (xlt b hb).1; omega
      · have := (xlt b hb).2; omega

theorem asks_info : (Try.prog.info? 40).map (fun i => (i.zero, i.size, i.bytes)) = some (some (.agg #[.int .i64 0, .int .i64 0, .slice none 0 0]), 3, 40) := by kernel_rfl

end Pk
end Go.Proofs.Ytdjhhnolcafkiaa
