/- What a text is read as: plain functions. -/
import Derived.Test.YtdjhhnolcafkiaaWords
import Derived.Test.YtdjhhnolcafkiaaBits
namespace Go.Proofs.Ytdjhhnolcafkiaa
namespace Pk

/-- what a packet's bytes tell -/
structure PP where
  mrk : Bool
  ex : Bool
  ty : Int
  nu : Int
  ti : Int
  so : Int
  pr : Int
  pa : Int
  cl : List Int
  en : ByteArray
  py : ByteArray

def B0 (s : ByteArray) : UInt8 := s.data.toList.getD 0 0
def B1 (s : ByteArray) : UInt8 := s.data.toList.getD 1 0
def Bl (s : ByteArray) : UInt8 := s.data.toList.getD (s.size - 1) 0
def bad1 (s : ByteArray) : Bool := decide (s.size < 12 ∨ 1500 < s.size ∨ (B0 s).toNat / 64 ≠ 2)
def at0 (s : ByteArray) : Nat := 12 + 4 * ((B0 s).toNat % 16)
def extLen (s : ByteArray) : Nat := 4 * num (s.extract (at0 s + 2) (at0 s + 4)).data.toList
/-- the extension's profile, its bytes, where the payload begins -/
def extPart (s : ByteArray) : Option (Nat × ByteArray × Nat) :=
  if (B0 s).toNat / 16 % 2 = 1 then
    if s.size - at0 s < 4 then none
    else if s.size - (at0 s + 4) < extLen s then none
    else some (num (s.extract (at0 s) (at0 s + 2)).data.toList, s.extract (at0 s + 4) (at0 s + 4 + extLen s), at0 s + 4 + extLen s)
  else some (0, ⟨#[]⟩, at0 s)
/-- the padding's length, where the payload ends -/
def padPart (s : ByteArray) (a : Nat) : Option (Nat × Nat) :=
  if (B0 s).toNat / 32 % 2 = 1 then
    if (Bl s).toNat = 0 ∨ s.size - a < (Bl s).toNat then none
    else if noughts (s.extract (s.size - (Bl s).toNat) (s.size - 1)).data.toList = true then some ((Bl s).toNat, s.size - (Bl s).toNat) else none
  else some (0, s.size)
def mkP (s : ByteArray) (x : Nat × ByteArray × Nat) (y : Nat × Nat) : PP :=
  { mrk := decide (128 ≤ (B1 s).toNat), ex := decide ((B0 s).toNat / 16 % 2 = 1), ty := ((B1 s).toNat % 128 : Nat), nu := num ((s.data.toList.drop 2).take 2), ti := num ((s.data.toList.drop 4).take 4), so := num ((s.data.toList.drop 8).take 4),
    pr := x.1, pa := y.1, cl := words (s.extract 12 (at0 s)).data.toList, en := x.2.1, py := s.extract x.2.2 y.2 }
/-- a text as a packet -/
def readP (s : ByteArray) : Option PP :=
  if bad1 s = true then none else if s.size < at0 s then none else (extPart s).bind fun x => (padPart s x.2.2).map fun y => mkP s x y

theorem readP_bad (s : ByteArray) (h : bad1 s = true) : readP s = none := by unfold readP; rw [if_pos h]
theorem readP_at (s : ByteArray) (h : bad1 s = false) (h2 : s.size < at0 s) : readP s = none := by unfold readP; rw [if_neg (by rw [h]; simp), if_pos h2]
theorem readP_of (s : ByteArray) (h : bad1 s = false) (h2 : at0 s ≤ s.size) : readP s = (extPart s).bind fun x => (padPart s x.2.2).map fun y => mkP s x y := by
  unfold readP; rw [if_neg (by rw [h]; simp), if_neg (by omega)]

theorem get0 (s : ByteArray) (h : 0 < s.size) : s[0] = B0 s := by
  unfold B0
  rw [List.getD_eq_getElem?_getD, List.getElem?_eq_getElem (by simpa using h)]
  rfl
theorem get1 (s : ByteArray) (h : 1 < s.size) : s[1] = B1 s := by
  unfold B1
  rw [List.getD_eq_getElem?_getD, List.getElem?_eq_getElem (by simpa using h)]
  rfl
theorem getl (s : ByteArray) (h : s.size - 1 < s.size) : s[s.size - 1] = Bl s := by
  unfold Bl
  rw [List.getD_eq_getElem?_getD, List.getElem?_eq_getElem (by simpa using h)]
  rfl

end Pk
end Go.Proofs.Ytdjhhnolcafkiaa
