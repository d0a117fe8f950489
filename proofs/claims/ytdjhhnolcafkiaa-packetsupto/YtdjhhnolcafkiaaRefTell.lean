/- The document's answer: TellPacket, where the first tests fail. -/
import Derived.Test.YtdjhhnolcafkiaaRefTold
import Derived.Test.YtdjhhnolcafkiaaWrite
namespace Go.Proofs.Ytdjhhnolcafkiaa
open Go.RowKit Pk
namespace Pk
/-- the first tests of the document's TellPacket -/
def firstOk (ex : Bool) (ty nu ti so pr pa : Int) (n : Nat) (en : ByteArray) : Prop :=
  (0 ≤ ty ∧ ty ≤ 127) ∧ (0 ≤ nu ∧ nu ≤ 65535) ∧ (0 ≤ ti ∧ ti ≤ 4294967295) ∧ (0 ≤ so ∧ so ≤ 4294967295) ∧ (0 ≤ pr ∧ pr ≤ 65535) ∧ (0 ≤ pa ∧ pa ≤ 255) ∧ n ≤ 15 ∧ en.size % 4 = 0 ∧ (ex = false → pr = 0 ∧ en.size = 0)
theorem firstOk_of {ex : Bool} {ty nu ti so pr pa : Int} {cl : List Int} {en : ByteArray} (h : tellOk ex ty nu ti so pr pa cl en = true) : firstOk ex ty nu ti so pr pa cl.length en := by
  simp only [tellOk, Bool.and_eq_true, decide_eq_true_eq] at h
  obtain ⟨⟨hh, hx⟩, hp⟩ := h
  obtain ⟨h1, h2, h3, h4, h5, _⟩ := headOk_of hh
  refine ⟨h1, h2, h3, h4, extOk_pr hx, hp, h5, ?_, ?_⟩
  · cases ex
    · have := extOk_en hx rfl; omega
    · rw [extOk_yes, Bool.and_eq_true, decide_eq_true_eq, decide_eq_true_eq] at hx; exact hx.2
  · intro e
    subst e
    rw [extOk_no, Bool.and_eq_true, decide_eq_true_eq, decide_eq_true_eq] at hx; exact hx
theorem tellOk_of {ex : Bool} {ty nu ti so pr pa : Int} {cl : List Int} {en : ByteArray} (h : firstOk ex ty nu ti so pr pa cl.length en) (hc : allIn cl 4294967295 = true) : tellOk ex ty nu ti so pr pa cl en = true := by
  obtain ⟨h1, h2, h3, h4, h5, h6, h7, h8, h9⟩ := h
  simp only [tellOk, headOk, Bool.and_eq_true]
  refine ⟨⟨⟨⟨⟨⟨⟨decide_eq_true h1, decide_eq_true h2⟩, decide_eq_true h3⟩, decide_eq_true h4⟩, decide_eq_true h7⟩, hc⟩, ?_⟩, decide_eq_true h6⟩
  cases ex
  · rw [extOk_no, decide_eq_true (h9 rfl).1, decide_eq_true (h9 rfl).2]; rfl
  · rw [extOk_yes, decide_eq_true h5, decide_eq_true h8]; rfl
theorem tellR_no {mk ex : Bool} {ty nu ti so pr pa : Int} {cl : List Int} {en py : ByteArray} (h : tellOk ex ty nu ti so pr pa cl en = false) : tellR mk ex ty nu ti so pr pa cl en py = (⟨#[]⟩, 2) := by
  unfold tellR; rw [if_neg (by rw [h]; simp)]
end Pk

set_option maxRecDepth 100000 in
set_option maxHeartbeats 2000000 in
theorem refTell_first (mk ex : Bool) (ty nu ti so pr pa : Int) (ao : Option Addr) (n cap : Nat) (en py : ByteArray) (w : World) (hn : n ≤ 17592186044416)
    (hen : en.size ≤ maxLen) (hno : ¬ firstOk ex ty nu ti so pr pa n en) :
    Calls Try.prog 36 #[.agg #[.bool mk, .int .i64 ty, .int .i64 nu, .int .i64 ti, .int .i64 so, .slice ao n cap, .bool ex, .int .i64 pr, .string en, .string py, .int .i64 pa]] w
      fun e w' => e = .returned (.tuple #[.string ⟨#[]⟩, .int .i64 2]) ∧ Below w.heap.size w w' := by
  unfold maxLen at hen
  have Hno : Hid (¬ firstOk ex ty nu ti so pr pa n en) := hno
  clear hno
  cases ex
  · go_enter Try.func36, Try.ntmps36
    go_wp2_with (go_at_call 61; refine (refIn_any _ _ _).mono ?_; rintro e w' ⟨rfl, rfl⟩)
    all_goals first
      | (go_ret2; exact ⟨rfl, (Below.refl _ _).alloc (Nat.le_refl _) _⟩)
      | (exfalso; refine Hno.out ⟨by assumption, by assumption, by assumption, by assumption, by assumption, by assumption, by omega, by omega, fun _ => ⟨by assumption, ?_⟩⟩; have h : en.toList.isEmpty = true := by (first | assumption | simp_all)
         rw [isEmpty_size] at h; exact of_decide_eq_true h)
  · go_enter Try.func36, Try.ntmps36
    go_wp2_with (go_at_call 61; refine (refIn_any _ _ _).mono ?_; rintro e w' ⟨rfl, rfl⟩)
    all_goals first
      | (go_ret2; exact ⟨rfl, (Below.refl _ _).alloc (Nat.le_refl _) _⟩)
      | (exfalso; exact Hno.out ⟨by assumption, by assumption, by assumption, by assumption, by assumption, by assumption, by omega, by omega, fun h => by cases h⟩)

end Go.Proofs.Ytdjhhnolcafkiaa
