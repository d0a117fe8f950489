/- Plain facts on bytes and numbers: no program is named here. -/
import Derived.WalkKit
import Derived.Lib.Strings
import Derived.Laws.BitsAllLaws
namespace Go.Proofs.Ytdjhhnolcafkiaa
namespace Pk

theorem ret_int {k : IntKind} {a b : Int} (h : a = b) : Ending.returned (.int k a) = .returned (.int k b) := by rw [h]
theorem ret_bool {a b : Bool} (h : a = b) : Ending.returned (.bool a) = .returned (.bool b) := by rw [h]
theorem ret_string {a b : ByteArray} (h : a = b) : Ending.returned (.string a) = .returned (.string b) := by rw [h]

/-- a number out of bytes, the highest first -/
def num (l : List UInt8) : Nat := l.foldl (fun n b => n * 256 + b.toNat) 0

theorem num_snoc (l : List UInt8) (b : UInt8) : num (l ++ [b]) = num l * 256 + b.toNat := by
  simp [num, List.foldl_append]

theorem num_from (l : List UInt8) (a : Nat) : l.foldl (fun n b => n * 256 + b.toNat) a < (a + 1) * 256 ^ l.length := by
  induction l generalizing a with
  | nil => simp
  | cons b l ih =>
    have h := ih (a * 256 + b.toNat)
    have hb := b.toNat_lt
    rw [List.length_cons, Nat.pow_succ, List.foldl_cons]
    refine Nat.lt_of_lt_of_le h ?_
    rw [Nat.mul_comm (256 ^ l.length) 256, ← Nat.mul_assoc]
    exact Nat.mul_le_mul_right _ (by omega)

theorem num_lt (l : List UInt8) : num l < 256 ^ l.length := by
  have := num_from l 0
  simpa [num] using this

theorem take_snoc (s : ByteArray) (k : Nat) (h : k < s.size) : s.data.toList.take (k + 1) = s.data.toList.take k ++ [s[k]] := by
  rw [List.take_succ_eq_append_getElem (by simpa using h)]; rfl

theorem take_all (s : ByteArray) (k : Nat) (h : s.size ≤ k) : s.data.toList.take k = s.data.toList := List.take_of_length_le (by simpa using h)

theorem ofInt64 (a : Nat) (ha : a < 9223372036854775808) : (BitVec.ofInt 64 (a : Int)).toNat = a := by
  rw [BitVec.ofInt_natCast, BitVec.toNat_ofNat]; exact Nat.mod_eq_of_lt (by omega)
theorem wrapI64 (n : Int) (h0 : 0 ≤ n) (h1 : n < 9223372036854775808) : IntKind.i64.wrap n = n := by
  simp [IntKind.wrap, IntKind.bits, IntKind.signed]; omega
theorem or64 (a b : Nat) (ha : a < 9223372036854775808) (hb : b < 9223372036854775808) : bits .or .i64 (a : Int) (b : Int) = ((a ||| b : Nat) : Int) := by
  have hx : a ||| b < 2 ^ 63 := Nat.or_lt_two_pow (by omega) (by omega)
  show IntKind.i64.wrap ((BitVec.ofInt 64 (a : Int) ||| BitVec.ofInt 64 (b : Int)).toNat : Int) = _
  rw [BitVec.toNat_or, ofInt64 a ha, ofInt64 b hb, wrapI64 _ (by omega) (by omega)]
theorem wrap64_id (n : Int) (h0 : 0 ≤ n) (h1 : n < 9223372036854775808) : Go.RowKit.wrap64 n = n := by unfold Go.RowKit.wrap64; omega
/-- 'n << 8 | b' -/
theorem or_byte (n : Nat) (b : UInt8) (h : n < 4294967296) : bits .or .i64 (Go.RowKit.wrap64 ((n : Int) * 256)) (Go.RowKit.wrap64 (b.toNat : Int)) = ((n * 256 + b.toNat : Nat) : Int) := by
  have hb := b.toNat_lt
  rw [wrap64_id _ (by omega) (by omega), wrap64_id _ (by omega) (by omega)]
  have e : ((n : Int) * 256) = ((n * 256 : Nat) : Int) := by omega
  rw [e, or64 _ _ (by omega) (by omega), nat_join 8 (n * 256) b.toNat (by omega) (by omega)]
theorem num_byte (s : ByteArray) (k : Nat) (h : k < s.size) (hs : s.size ≤ 4) :
    bits .or .i64 (Go.RowKit.wrap64 ((num (s.data.toList.take k) : Int) * 256)) (Go.RowKit.wrap64 (s[k].toNat : Int)) = (num (s.data.toList.take (k + 1)) : Int) := by
  rw [take_snoc s k h, num_snoc]
  refine or_byte _ _ ?_
  have h1 := num_lt (s.data.toList.take k)
  have h2 : (s.data.toList.take k).length ≤ 4 := by rw [List.length_take]; omega
  have h3 : 256 ^ (s.data.toList.take k).length ≤ 256 ^ 4 := Nat.pow_le_pow_right (by omega) h2
  omega

/-- are all bytes noughts? -/
def noughts (l : List UInt8) : Bool := l.all (· == 0)
theorem noughts_snoc (l : List UInt8) (b : UInt8) : noughts (l ++ [b]) = (noughts l && b == 0) := by simp [noughts]
theorem noughts_false (l : List UInt8) (k : Nat) (h : noughts (l.take k) = false) : noughts l = false := by
  cases e : noughts l with
  | false => rfl
  | true =>
    have : noughts (l.take k) = true := by
      simp only [noughts, List.all_eq_true] at e ⊢
      exact fun x hx => e x (List.mem_of_mem_take hx)
    rw [this] at h; cases h

/-- are all numbers from 0 to most? -/
def allIn (l : List Int) (most : Int) : Bool := l.all fun n => decide (0 ≤ n ∧ n ≤ most)

/-- which of n things a raw number speaks of -/
def pickF (c n : Int) : Int := (if c < 0 then -(c + 1) else c) % n
theorem pickF_lo (c n : Int) (h : 1 ≤ n) : 0 ≤ pickF c n := Int.emod_nonneg _ (by omega)
theorem pickF_hi (c n : Int) (h : 1 ≤ n) : pickF c n < n := Int.emod_lt_of_pos _ (by omega)
/-- a text of at most n bytes -/
def cutF (s : ByteArray) (n : Nat) : ByteArray := if n < s.size then s.extract 0 n else s
theorem cutF_size (s : ByteArray) (n : Nat) : (cutF s n).size ≤ n := by
  unfold cutF
  split
  · simp only [ByteArray.size_extract]; omega
  · omega

theorem lt_of_cell {w : World} {a : Addr} {v : Value} (h : w.cell? a = some v) : a.block < w.heap.size := by
  rcases Nat.lt_or_ge a.block w.heap.size with h' | h'
  · exact h'
  · have e : w.heap[a.block]? = none := Array.getElem?_eq_none h'
    simp [World.cell?, e] at h

/-- the slice v, of memory below block B, holds the numbers l -/
def IsInts (B : Nat) (w : World) (v : Value) (l : List Int) : Prop :=
  ∃ ao cap, v = .slice ao l.length cap ∧ ∀ j, j < l.length → ∃ b off, ao = some ⟨b, off, none⟩ ∧ b < B ∧ w.cell? ⟨b, off + j, none⟩ = some (.int .i64 (l.getD j 0))

theorem IsInts.carry {B : Nat} {w w' : World} {v : Value} {l : List Int} (h : IsInts B w v l) (hb : Go.RowKit.Below B w w') : IsInts B w' v l := by
  obtain ⟨ao, cap, rfl, hc⟩ := h
  refine ⟨ao, cap, rfl, fun j hj => ?_⟩
  obtain ⟨b, off, e, hlt, hcell⟩ := hc j hj
  exact ⟨b, off, e, hlt, (hb.cell hlt).trans hcell⟩

theorem IsInts.mono {B B' : Nat} {w : World} {v : Value} {l : List Int} (h : IsInts B w v l) (hB : B ≤ B') : IsInts B' w v l := by
  obtain ⟨ao, cap, rfl, hc⟩ := h
  refine ⟨ao, cap, rfl, fun j hj => ?_⟩
  obtain ⟨b, off, e, hlt, hcell⟩ := hc j hj
  exact ⟨b, off, e, by omega, hcell⟩

theorem IsInts.alloc {B : Nat} {w : World} {v : Value} {l : List Int} (h : IsInts B w v l) (hB : B ≤ w.heap.size) (o : Obj) : IsInts B (w.alloc o) v l :=
  h.carry ((Go.RowKit.Below.refl _ _).alloc hB _)

/-- nothing is in it, or it lies in one row -/
theorem IsInts.cases {B : Nat} {w : World} {v : Value} {l : List Int} (h : IsInts B w v l) :
    (∃ ao cap, v = .slice ao 0 cap ∧ l = []) ∨ ∃ b off cap, v = .slice (some ⟨b, off, none⟩) l.length cap ∧ 0 < l.length ∧ b < B ∧ ∀ j, j < l.length → w.cell? ⟨b, off + j, none⟩ = some (.int .i64 (l.getD j 0)) := by
  obtain ⟨ao, cap, rfl, hc⟩ := h
  cases l with
  | nil => exact .inl ⟨ao, cap, rfl, rfl⟩
  | cons x l =>
    obtain ⟨b, off, rfl, hlt, hcell⟩ := hc 0 (by simp)
    refine .inr ⟨b, off, cap, rfl, by simp, hlt, fun j hj => ?_⟩
    obtain ⟨b', off', e, _, h'⟩ := hc j hj
    simp only [Option.some.injEq, Addr.mk.injEq, and_true] at e
    obtain ⟨rfl, rfl⟩ := e
    exact h'

theorem allIn_take_succ (l : List Int) (k : Nat) (m : Int) (h : k < l.length) : allIn (l.take (k + 1)) m = (allIn (l.take k) m && decide (0 ≤ l.getD k 0 ∧ l.getD k 0 ≤ m)) := by
  rw [List.take_succ_eq_append_getElem h, allIn, allIn, List.all_append]
  simp [h]
theorem allIn_false (l : List Int) (k : Nat) (m : Int) (h : allIn (l.take k) m = false) : allIn l m = false := by
  cases e : allIn l m with
  | false => rfl
  | true =>
    have : allIn (l.take k) m = true := by
      simp only [allIn, List.all_eq_true] at e ⊢
      exact fun x hx => e x (List.mem_of_mem_take hx)
    rw [this] at h; cases h

/-- the tests of a packet that is to be told -/
def headOk (ty nu ti so : Int) (cl : List Int) : Bool := decide (0 ≤ ty ∧ ty ≤ 127) && decide (0 ≤ nu ∧ nu ≤ 65535) && decide (0 ≤ ti ∧ ti ≤ 4294967295) && decide (0 ≤ so ∧ so ≤ 4294967295) && decide (cl.length ≤ 15) && allIn cl 4294967295
def extOk (ex : Bool) (pr : Int) (en : ByteArray) : Bool := if ex then decide (0 ≤ pr ∧ pr ≤ 65535) && decide (en.size % 4 = 0) else decide (pr = 0) && decide (en.size = 0)
theorem extOk_no (pr : Int) (en : ByteArray) : extOk false pr en = (decide (pr = 0) && decide (en.size = 0)) := rfl
theorem isEmpty_size (s : ByteArray) : s.toList.isEmpty = decide (s.size = 0) := by
  rw [Go.Lib.toList_data, Bool.eq_iff_iff, List.isEmpty_iff, decide_eq_true_iff]
  constructor
  · intro h; rw [Go.Lib.size_eq, h]; rfl
  · intro h; exact List.eq_nil_of_length_eq_zero (by rw [← Go.Lib.size_eq, h])
theorem extOk_yes (pr : Int) (en : ByteArray) : extOk true pr en = (decide (0 ≤ pr ∧ pr ≤ 65535) && decide (en.size % 4 = 0)) := rfl

theorem allIn_at (l : List Int) (k : Nat) (m : Int) (h : k < l.length) (hi : allIn l m = true) : 0 ≤ l.getD k 0 ∧ l.getD k 0 ≤ m := by
  simp only [allIn, List.all_eq_true, decide_eq_true_eq] at hi
  have e : l.getD k 0 = l[k] := by simp [List.getD, h]
  rw [e]
  exact hi _ (List.getElem_mem h)

/-- a number as k bytes, the highest first -/
def told : Nat → Nat → List UInt8
  | _, 0 => []
  | v, k + 1 => told (v / 256) k ++ [UInt8.ofNat (v % 256)]
theorem told_length (v k : Nat) : (told v k).length = k := by
  induction k generalizing v with
  | zero => rfl
  | succ k ih => simp [told, ih]
theorem told_get (v k i : Nat) (h : i < k) : (told v k)[i]? = some (UInt8.ofNat (v / 256 ^ (k - 1 - i) % 256)) := by
  induction k generalizing v with
  | zero => omega
  | succ k ih =>
    rw [told]
    by_cases h' : i < k
    · rw [List.getElem?_append_left (by rw [told_length]; exact h'), ih (v / 256) h', Nat.div_div_eq_div_mul, ← Nat.pow_succ']
      rw [show (k - 1 - i).succ = k + 1 - 1 - i by omega]
    · have e : i = k := by omega
      subst e
      rw [List.getElem?_append_right (by rw [told_length]; exact Nat.le_refl _), told_length]
      simp
theorem told_take (v k i : Nat) (h : i < k) : (told v k).take (i + 1) = (told v k).take i ++ [UInt8.ofNat (v / 256 ^ (k - 1 - i) % 256)] := by
  have hl : i < (told v k).length := by rw [told_length]; exact h
  have hg := told_get v k i h
  rw [List.getElem?_eq_getElem hl, Option.some.injEq] at hg
  rw [List.take_succ_eq_append_getElem hl, hg]

/-- 'byte(x >> (8 * m))' -/
theorem byte_at (x m : Nat) : ((x : Int) / 2 ^ (8 * m) % 256) = ((UInt8.ofNat (x / 256 ^ m % 256)).toNat : Int) := by
  have e : (256 : Nat) ^ m = 2 ^ (8 * m) := by rw [Nat.pow_mul]
  have h2 : (UInt8.ofNat (x / 256 ^ m % 256)).toNat = x / 2 ^ (8 * m) % 256 := by
    rw [UInt8.toNat_ofNat', e]; exact Nat.mod_mod _ _
  rw [h2, Int.natCast_emod, Int.natCast_ediv, Int.natCast_pow]
  rfl

/-- the padding's bytes -/
def padB (p : Nat) : List UInt8 := if p = 0 then [] else List.replicate (p - 1) 0 ++ [UInt8.ofNat p]
theorem padB_length (p : Nat) : (padB p).length = p := by
  unfold padB
  split
  · simp; omega
  · simp; omega
/-- the extension's bytes -/
def extB (ex : Bool) (pr : Nat) (en : List UInt8) : List UInt8 := if ex then told pr 2 ++ told (en.length / 4) 2 ++ en else []
theorem extB_length (ex : Bool) (pr : Nat) (en : List UInt8) : (extB ex pr en).length = if ex then 4 + en.length else 0 := by
  cases ex
  · rfl
  · simp [extB, told_length]; omega
/-- the contributors' bytes -/
def conB : List Int → List UInt8
  | [] => []
  | c :: l => told c.toNat 4 ++ conB l
theorem conB_length (l : List Int) : (conB l).length = 4 * l.length := by
  induction l with
  | nil => rfl
  | cons c l ih => simp [conB, told_length, ih]; omega
theorem conB_append (a b : List Int) : conB (a ++ b) = conB a ++ conB b := by
  induction a with
  | nil => rfl
  | cons c l ih => simp [conB, ih]
theorem conB_take (l : List Int) (k : Nat) (h : k < l.length) : conB (l.take (k + 1)) = conB (l.take k) ++ told (l.getD k 0).toNat 4 := by
  rw [List.take_succ_eq_append_getElem h, conB_append]
  simp [conB, h]

/-- a packet's first byte, its second -/
def hdB (n : Nat) (pad ex : Bool) : UInt8 := UInt8.ofNat (128 + n + (if pad then 32 else 0) + if ex then 16 else 0)
def tyB (ty : Nat) (mk : Bool) : UInt8 := UInt8.ofNat (ty + if mk then 128 else 0)
theorem hdB_toNat (n : Nat) (pad ex : Bool) (h : n ≤ 15) : (hdB n pad ex).toNat = 128 + n + (if pad then 32 else 0) + if ex then 16 else 0 := by
  rw [hdB, UInt8.toNat_ofNat']
  exact Nat.mod_eq_of_lt (by cases pad <;> cases ex <;> simp <;> omega)
theorem tyB_toNat (ty : Nat) (mk : Bool) (h : ty ≤ 127) : (tyB ty mk).toNat = ty + if mk then 128 else 0 := by
  rw [tyB, UInt8.toNat_ofNat']
  exact Nat.mod_eq_of_lt (by cases mk <;> simp <;> omega)
theorem hd_val {v : Int} {n : Nat} {pad ex : Bool} (hn : n ≤ 15) (h : v = 128 + n + (if pad then 32 else 0) + if ex then 16 else 0) : Value.int .u8 v = .int .u8 ((hdB n pad ex).toNat : Int) := by
  rw [h, hdB_toNat n pad ex hn]; cases pad <;> cases ex <;> simp
theorem ty_val {v : Int} {ty : Nat} {mk : Bool} (hn : ty ≤ 127) (h : v = ty + if mk then 128 else 0) : Value.int .u8 v = .int .u8 ((tyB ty mk).toNat : Int) := by
  rw [h, tyB_toNat ty mk hn]; cases mk <;> simp
theorem or_n (n : Nat) (h : n ≤ 15) : bits .or .i64 128 (n : Int) = 128 + n := by
  have e := or64 128 n (by omega) (by omega)
  have d : ∀ m, m < 16 → (128 ||| m : Nat) = 128 + m := by decide
  rw [d n (by omega)] at e
  exact e
theorem or_32 (n : Nat) (h : n ≤ 15) : bits .or .i64 (128 + (n : Int)) 32 = 160 + n := by
  have e := or64 (128 + n) 32 (by omega) (by omega)
  have d : ∀ m, m < 16 → ((128 + m) ||| 32 : Nat) = 160 + m := by decide
  rw [d n (by omega)] at e
  exact e
theorem or_16 (n : Nat) (h : n ≤ 15) : bits .or .i64 (128 + (n : Int)) 16 = 144 + n := by
  have e := or64 (128 + n) 16 (by omega) (by omega)
  have d : ∀ m, m < 16 → ((128 + m) ||| 16 : Nat) = 144 + m := by decide
  rw [d n (by omega)] at e
  exact e
theorem or_48 (n : Nat) (h : n ≤ 15) : bits .or .i64 (160 + (n : Int)) 16 = 176 + n := by
  have e := or64 (160 + n) 16 (by omega) (by omega)
  have d : ∀ m, m < 16 → ((160 + m) ||| 16 : Nat) = 176 + m := by decide
  rw [d n (by omega)] at e
  exact e
theorem or_128 (n : Nat) (h : n ≤ 127) : bits .or .i64 (n : Int) 128 = n + 128 := by
  have e := or64 n 128 (by omega) (by omega)
  rw [Nat.or_comm, nat_join 7 128 n (by omega) (by omega), Nat.add_comm] at e
  exact e

/-- the bytes ahead of the contributors -/
def headB (n : Nat) (mk pad ex : Bool) (ty nu ti so : Nat) : List UInt8 := [hdB n pad ex, tyB ty mk] ++ told nu 2 ++ told ti 4 ++ told so 4
theorem headB_length (n : Nat) (mk pad ex : Bool) (ty nu ti so : Nat) : (headB n mk pad ex ty nu ti so).length = 12 := by simp [headB, told_length]

/-- how long a packet is; its bytes; what is told of it -/
def plen (ex : Bool) (cl : List Int) (en py : ByteArray) (pa : Int) : Int := 12 + 4 * cl.length + py.size + pa + if ex then 4 + en.size else 0
def tellB (mk ex : Bool) (ty nu ti so pr pa : Int) (cl : List Int) (en py : ByteArray) : List UInt8 :=
  headB cl.length mk (decide (0 < pa)) ex ty.toNat nu.toNat ti.toNat so.toNat ++ conB cl ++ extB ex pr.toNat en.data.toList ++ py.data.toList ++ padB pa.toNat
def tellOk (ex : Bool) (ty nu ti so pr pa : Int) (cl : List Int) (en : ByteArray) : Bool := headOk ty nu ti so cl && extOk ex pr en && decide (0 ≤ pa ∧ pa ≤ 255)
def tellR (mk ex : Bool) (ty nu ti so pr pa : Int) (cl : List Int) (en py : ByteArray) : ByteArray × Int :=
  if tellOk ex ty nu ti so pr pa cl en then (if 1500 < plen ex cl en py pa then (⟨#[]⟩, 1) else (⟨(tellB mk ex ty nu ti so pr pa cl en py).toArray⟩, 0)) else (⟨#[]⟩, 2)
theorem headOk_of {ty nu ti so : Int} {cl : List Int} (h : headOk ty nu ti so cl = true) :
    (0 ≤ ty ∧ ty ≤ 127) ∧ (0 ≤ nu ∧ nu ≤ 65535) ∧ (0 ≤ ti ∧ ti ≤ 4294967295) ∧ (0 ≤ so ∧ so ≤ 4294967295) ∧ cl.length ≤ 15 ∧ allIn cl 4294967295 = true := by
  simp only [headOk, Bool.and_eq_true, decide_eq_true_eq] at h
  exact ⟨h.1.1.1.1.1, h.1.1.1.1.2, h.1.1.1.2, h.1.1.2, h.1.2, h.2⟩

end Pk
end Go.Proofs.Ytdjhhnolcafkiaa
