/- The document's answer: TellPacket, what its end wants. -/
import Derived.Test.YtdjhhnolcafkiaaRefTell
namespace Go.Proofs.Ytdjhhnolcafkiaa
open Go.RowKit Pk

theorem refTold_int (k : Nat) (x : Int) (w : World) (hk : k ≤ 8) (h0 : 0 ≤ x) (h1 : x < 9223372036854775808) :
    Calls Try.prog 62 #[.int .i64 x, .int .i64 k] w fun e w' => (∃ t : ByteArray, e = .returned (.string t) ∧ t.data.toList = told x.toNat k ∧ t.size = k) ∧ Below w.heap.size w w' := by
  obtain ⟨q, rfl⟩ := Int.eq_ofNat_of_zero_le h0
  rw [Int.toNat_natCast]
  refine (refTold_any k q w hk (by omega)).mono ?_
  rintro e w' ⟨⟨t, rfl, ht⟩, hb⟩
  exact ⟨⟨t, rfl, ht, by rw [Lib.size_eq, ht, told_length]⟩, hb⟩

theorem tell_done {mk ex : Bool} {ty nu ti so pr pa : Int} {cl : List Int} {en py : ByteArray} (s : ByteArray) (hok : tellOk ex ty nu ti so pr pa cl en = true) (h : s.data.toList = tellB mk ex ty nu ti so pr pa cl en py) :
    tellR mk ex ty nu ti so pr pa cl en py = if 1500 < s.size then (⟨#[]⟩, 1) else (s, 0) := by
  have hp : 0 ≤ pa := by simp only [tellOk, Bool.and_eq_true, decide_eq_true_eq] at hok; exact hok.2.1
  have hl := tellB_length mk ex ty nu ti so pr pa cl en py hp
  have hsz : s.size = (tellB mk ex ty nu ti so pr pa cl en py).length := by rw [Lib.size_eq, h]
  unfold tellR
  rw [if_pos hok]
  by_cases hL : 1500 < s.size
  · rw [if_pos hL, if_pos (by omega)]
  · rw [if_neg hL, if_neg (by omega)]
    congr 1
    apply ba_ext
    rw [h]

theorem told_one (x : Nat) (h : x < 256) : told x 1 = [UInt8.ofNat x] := by
  simp only [told, List.nil_append]
  rw [Nat.mod_eq_of_lt h]
theorem heads (n : Nat) (mk pd ex : Bool) (ty : Nat) (hn : n ≤ 15) (hty : ty ≤ 127) :
    told (128 + n + (if pd then 32 else 0) + if ex then 16 else 0) 1 ++ told (ty + if mk then 128 else 0) 1 = [hdB n pd ex, tyB ty mk] := by
  rw [told_one _ (by cases pd <;> cases ex <;> simp <;> omega), told_one _ (by cases mk <;> simp <;> omega)]
  rfl
theorem tells {mk ex : Bool} {ty nu ti so pr pa : Int} {cl : List Int} {en py : ByteArray} (h : firstOk ex ty nu ti so pr pa cl.length en) (hd sec : Int) (X D : List UInt8)
    (h1 : hd = 128 + cl.length + (if ex then 16 else 0) + if 0 < pa then 32 else 0) (h2 : sec = ty + if mk then 128 else 0) (hX : X = extB ex pr.toNat en.data.toList) (hD : D = padB pa.toNat) :
    told hd.toNat 1 ++ told sec.toNat 1 ++ told nu.toNat 2 ++ told ti.toNat 4 ++ told so.toNat 4 ++ (conB cl ++ X ++ py.data.toList ++ D) = tellB mk ex ty nu ti so pr pa cl en py := by
  obtain ⟨a1, a2, a3, a4, a5, a6, a7, a8, a9⟩ := h
  have hh := heads cl.length mk (decide (0 < pa)) ex ty.toNat a7 (by omega)
  have e1 : hd.toNat = 128 + cl.length + (if decide (0 < pa) = true then 32 else 0) + if ex then 16 else 0 := by
    rw [h1]
    by_cases hp : 0 < pa <;> cases ex <;> simp [hp] <;> omega
  have e2 : sec.toNat = ty.toNat + if mk then 128 else 0 := by
    rw [h2]
    cases mk <;> simp <;> omega
  rw [e1, e2, hh, hX, hD]
  unfold tellB headB
  simp only [List.append_assoc]

theorem refNoughts_int (x : Int) (w : World) (h0 : 0 ≤ x) (h1 : x ≤ 255) :
    Calls Try.prog 63 #[.int .i64 x] w fun e w' => (∃ t : ByteArray, e = .returned (.string t) ∧ t.data.toList = List.replicate x.toNat 0 ∧ t.size ≤ 255) ∧ w' = w := by
  obtain ⟨q, rfl⟩ := Int.eq_ofNat_of_zero_le h0
  rw [Int.toNat_natCast]
  refine (refNoughts_any q w (by omega)).mono ?_
  rintro e w' ⟨⟨t, rfl, ht⟩, hb⟩
  exact ⟨⟨t, rfl, ht, by rw [Lib.size_eq, ht, List.length_replicate]; omega⟩, hb⟩

end Go.Proofs.Ytdjhhnolcafkiaa
