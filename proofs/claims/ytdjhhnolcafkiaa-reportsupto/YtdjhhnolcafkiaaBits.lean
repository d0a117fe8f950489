/- Bits of a byte: plain facts. -/
import Derived.Test.YtdjhhnolcafkiaaNum
namespace Go.Proofs.Ytdjhhnolcafkiaa
namespace Pk

theorem bit_of (b : UInt8) (k m : Nat) (hm : m = 2 ^ k) (h : m < 256) : (bits .and .u8 (b.toNat : Int) (m : Int) != 0) = decide (b.toNat / m % 2 = 1) := by
  have hb := b.toNat_lt
  have e : (b.toNat &&& m) = b.toNat / m % 2 * m := by subst hm; exact nat_bit k b.toNat
  rw [u8_and_nat b.toNat m (by omega) h, e]
  have h2 : b.toNat / m % 2 < 2 := Nat.mod_lt _ (by omega)
  have hm0 : 0 < m := by subst hm; exact Nat.pos_of_ne_zero (by simp)
  rw [Bool.eq_iff_iff]
  simp only [bne_iff_ne, ne_eq, decide_eq_true_eq]
  constructor
  · intro h3
    rcases (show b.toNat / m % 2 = 0 ∨ b.toNat / m % 2 = 1 by omega) with h4 | h4
    · rw [h4] at h3; simp at h3
    · exact h4
  · intro h3 h4
    rw [h3] at h4
    omega
theorem marker_bit (b : UInt8) : (bits .and .u8 (b.toNat : Int) 128 != 0) = decide (128 ≤ b.toNat) := by
  have h := bit_of b 7 128 (by decide) (by omega)
  have hb := b.toNat_lt
  refine h.trans ?_
  rw [Bool.eq_iff_iff, decide_eq_true_eq, decide_eq_true_eq]
  omega
theorem ext_bit (b : UInt8) : (bits .and .u8 (b.toNat : Int) 16 != 0) = decide (b.toNat / 16 % 2 = 1) := bit_of b 4 16 (by decide) (by omega)
theorem pad_bit (b : UInt8) : (bits .and .u8 (b.toNat : Int) 32 != 0) = decide (b.toNat / 32 % 2 = 1) := bit_of b 5 32 (by decide) (by omega)
theorem low4 (b : UInt8) : bits .and .u8 (b.toNat : Int) 15 = ((b.toNat % 16 : Nat) : Int) := by
  have hb := b.toNat_lt
  have h := u8_and_nat b.toNat 15 (by omega) (by omega)
  rw [nat_mask4] at h
  exact h
theorem low7 (b : UInt8) : bits .and .u8 (b.toNat : Int) 127 = ((b.toNat % 128 : Nat) : Int) := by
  have hb := b.toNat_lt
  have h := u8_and_nat b.toNat 127 (by omega) (by omega)
  rw [nat_mask7] at h
  exact h
theorem type_bits (b : UInt8) : IntKind.i64.wrap (bits .and .u8 (b.toNat : Int) 127) = ((b.toNat % 128 : Nat) : Int) := by
  rw [low7]
  exact wrapI64 _ (by omega) (by omega)

end Pk
end Go.Proofs.Ytdjhhnolcafkiaa
