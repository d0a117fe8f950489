/- menderkeep.Round returns true. -/
import Derived.Test.YtdjhhnolcafkiaaPacket
import Derived.Test.YtdjhhnolcafkiaaWrite
import Derived.Test.YtdjhhnolcafkiaaReadAll
import Derived.Test.YtdjhhnolcafkiaaSame
import Derived.Test.YtdjhhnolcafkiaaBoth
namespace Go.Proofs.Ytdjhhnolcafkiaa
open Go.RowKit Pk

theorem tellR_ok (x : PP) (hok : tellOk x.ex x.ty x.nu x.ti x.so x.pr x.pa x.cl x.en = true) (hlen : plen x.ex x.cl x.en x.py x.pa ≤ 1500) :
    tellR x.mrk x.ex x.ty x.nu x.ti x.so x.pr x.pa x.cl x.en x.py = (⟨(tellB x.mrk x.ex x.ty x.nu x.ti x.so x.pr x.pa x.cl x.en x.py).toArray⟩, 0) := by
  unfold tellR
  rw [if_pos hok, if_neg (by omega)]

theorem told_again (s : ByteArray) (x : PP) (h : readP s = some x) : tellR x.mrk x.ex x.ty x.nu x.ti x.so x.pr x.pa x.cl x.en x.py = (s, 0) := by
  obtain ⟨h1, h2, h3⟩ := told_of_read s x h
  have hp : 0 ≤ x.pa := by simp only [tellOk, Bool.and_eq_true, decide_eq_true_eq] at h1; exact h1.2.1
  have hl := tellB_length x.mrk x.ex x.ty x.nu x.ti x.so x.pr x.pa x.cl x.en x.py hp
  rw [← h2, ← Lib.size_eq] at hl
  rw [tellR_ok x h1 (by omega), ← h2]

/-- the bounds of a packet that can be told -/
theorem told_bounds (x : PP) (hok : tellOk x.ex x.ty x.nu x.ti x.so x.pr x.pa x.cl x.en = true) (hlen : plen x.ex x.cl x.en x.py x.pa ≤ 1500) : x.cl.length ≤ 15 ∧ x.en.size ≤ 140737488355328 ∧ x.py.size ≤ 140737488355328 := by
  simp only [tellOk, Bool.and_eq_true, decide_eq_true_eq] at hok
  obtain ⟨⟨hh, hx⟩, hp0, hp1⟩ := hok
  have h := headOk_of hh
  unfold plen at hlen
  refine ⟨h.2.2.2.2.1, ?_, ?_⟩
  · cases he : x.ex with
    | false => have := extOk_en hx he; omega
    | true => rw [he] at hlen; simp at hlen; omega
  · split at hlen <;> omega

set_option maxHeartbeats 4000000 in
theorem round_walk (mk ex : Bool) (ty nu ti so pr pa : Int) (cv : Value) (rl : List Int) (en py text : ByteArray) (w : World) (hv : IsInts w.heap.size w cv rl)
    (hty : -9223372036854775808 ≤ ty ∧ ty ≤ 9223372036854775807) (hnu : -9223372036854775808 ≤ nu ∧ nu ≤ 9223372036854775807) (hti : -9223372036854775808 ≤ ti ∧ ti ≤ 9223372036854775807) (hso : -9223372036854775808 ≤ so ∧ so ≤ 9223372036854775807)
    (hpr : -9223372036854775808 ≤ pr ∧ pr ≤ 9223372036854775807) (hpa : -9223372036854775808 ≤ pa ∧ pa ≤ 9223372036854775807) (hrl : ∀ c ∈ rl, -9223372036854775808 ≤ c ∧ c ≤ 9223372036854775807) (hrn : rl.length ≤ maxLen) (hen : en.size ≤ maxLen) (hpy : py.size ≤ maxLen) (htx : text.size ≤ maxLen) :
    Calls Try.prog 5 #[.agg #[.bool mk, .bool ex, .int .i64 ty, .int .i64 nu, .int .i64 ti, .int .i64 so, cv, .int .i64 pr, .int .i64 pa, .string en, .string py], .string text] w
      fun e w' => e = .returned (.bool true) ∧ Below w.heap.size w w' := by
  have Hv : Hid (∀ o, IsInts (w.alloc o).heap.size (w.alloc o) cv rl) := fun o => (hv.alloc (Nat.le_refl _) o).mono (by simp)
  have hrl' : Hid (∀ c ∈ rl, -9223372036854775808 ≤ c ∧ c ≤ 9223372036854775807) := hrl
  clear hrl
  obtain ⟨ao, cap, rfl, _⟩ := hv
  go_enter Try.func5, Try.ntmps5
  go_wp2_with fail
  refine (packet_any mk ex ty nu ti so pr pa _ rl en py _ (Hv.out _) hty hnu hti hso hpr hpa hrl'.out hrn hen hpy).mono ?_
  rintro e w1 ⟨hb1, x, v, rfl, hok, hlen, hown⟩
  have Hb1 : Hid (Below w.heap.size w w1) := ((Below.refl _ _).alloc (Nat.le_refl _) _).trans (hb1.mono (by simp))
  have Hw1 : Hid (w.heap.size ≤ w1.heap.size) := Hb1.out.size
  obtain ⟨hcl, hxe, hxp⟩ := told_bounds x hok hlen
  have HT := tellR_ok x hok hlen
  have HR := read_of_told x.mrk x.ex x.ty x.nu x.ti x.so x.pr x.pa x.cl x.en x.py hok hlen
  obtain ⟨s, hs⟩ : ∃ s : ByteArray, s = ⟨(tellB x.mrk x.ex x.ty x.nu x.ti x.so x.pr x.pa x.cl x.en x.py).toArray⟩ := ⟨_, rfl⟩
  rw [← hs] at HT HR
  have hss : 12 ≤ s.size ∧ s.size ≤ 1500 := by
    obtain ⟨_, h2, h3⟩ := told_of_read s _ HR
    have hp : 0 ≤ x.pa := by simp only [tellOk, Bool.and_eq_true, decide_eq_true_eq] at hok; exact hok.2.1
    have hl := tellB_length x.mrk x.ex x.ty x.nu x.ti x.so x.pr x.pa x.cl x.en x.py hp
    have h4 : 12 ≤ plen x.ex x.cl x.en x.py x.pa := by unfold plen; split <;> omega
    have h5 : s.size = (tellB x.mrk x.ex x.ty x.nu x.ti x.so x.pr x.pa x.cl x.en x.py).length := by rw [hs, Lib.size_eq]
    omega
  have hse : s.toList.isEmpty = false := by rw [isEmpty_size]; exact decide_eq_false (by omega)
  have HT' : Hid (tellR x.mrk x.ex x.ty x.nu x.ti x.so x.pr x.pa x.cl x.en x.py = (s, 0)) := HT
  have HR' : Hid (readP s = some x) := HR
  clear HT HR hs hok hlen hb1
  have hi1 := hown.isInts
  obtain ⟨a1, c1, hv1⟩ := hown.shape
  subst hv1
  obtain ⟨xm, xx, xty, xnu, xti, xso, xpr, xpa, xcl, xen, xpy⟩ := x
  clear hown
  have Hi1 : Hid (IsInts w1.heap.size w1 (.slice a1 xcl.length c1) xcl) := hi1
  clear hi1
  go_wp2_with fail
  refine (tellPacket_any xm xx xty xnu xti xso xpr xpa _ xcl xen xpy _ w1.heap.size (by simp) (Hi1.out.alloc (Nat.le_refl _) _) (by omega) hxe hxp).mono ?_
  rintro e w2 ⟨rfl, hb2⟩
  rw [HT'.out]
  have hc2 := box_below hb2 w1.heap.size (by simp)
  have hw2 : w1.heap.size < w2.heap.size := by have := hb2.size; simp at this; omega
  have Hb2 : Hid (Below w1.heap.size w1 w2) := ((Below.refl _ _).alloc (Nat.le_refl _) _).trans (hb2.mono (by simp))
  clear hb2
  go_wp2_with fail
  refine (parsePacket_any s _ (by unfold maxLen; omega)).mono ?_
  rintro e w3 ⟨hb3, hr3⟩
  rw [HR'.out] at hr3
  obtain ⟨v3, he3, hown3⟩ := hr3
  obtain ⟨a3, c3, hv3⟩ := hown3.shape
  subst hv3
  simp only [okV] at he3
  subst he3
  have hc3 := box_below hb3 w1.heap.size hw2
  have hw3 : w1.heap.size < w3.heap.size := Nat.lt_of_lt_of_le hw2 hb3.size
  have Hb3 : Hid (Below w1.heap.size w1 w3) := Hb2.out.trans (hb3.mono (Nat.le_of_lt hw2))
  have Hi3 : Hid (IsInts w3.heap.size w3 (.slice a3 xcl.length c3) xcl) := hown3.isInts
  clear hb3 hown3
  go_wp2_with fail
  refine (same_any xm xx xty xnu xti xso xpr xpa _ _ xcl xen xpy _ (((Hi1.out.carry Hb3.out).alloc (Nat.le_of_lt hw3) _).mono (by simp; omega)) ((Hi3.out.alloc (Nat.le_refl _) _).mono (by simp)) hcl).mono ?_
  rintro e w4 ⟨rfl, hb4⟩
  have Hb4 : Hid (Below w.heap.size w w4) := Hb1.out.trans ((Hb3.out.mono Hw1.out).trans ((((Below.refl _ _).alloc (Nat.le_refl _) _).trans (hb4.mono (by simp))).mono (by have := Hw1.out; omega)))
  have Hw4 : Hid (w.heap.size ≤ w4.heap.size) := Hb4.out.size
  clear hb4 hc2 hc3
  go_wp2_with fail
  refine (parsePacket_any text _ htx).mono ?_
  rintro e w5 ⟨hb5, hr5⟩
  have Hb5 : Hid (Below w.heap.size w w5) := Hb4.out.trans (hb5.mono Hw4.out)
  cases hR5 : readP text with
  | none =>
    rw [hR5] at hr5
    have he5 : e = .returned wrongV := hr5
    simp only [wrongV] at he5
    subst he5
    clear hr5 hR5 hb5
    go_wp2
    go_ret
    exact ⟨rfl, Hb5.out.alloc (by have := Hb5.out.size; omega) _⟩
  | some y =>
    rw [hR5] at hr5
    obtain ⟨v5, he5, hown5⟩ := hr5
    obtain ⟨a5, c5, hv5⟩ := hown5.shape
    subst hv5
    simp only [okV] at he5
    subst he5
    have HT5 : Hid (tellR y.mrk y.ex y.ty y.nu y.ti y.so y.pr y.pa y.cl y.en y.py = (text, 0)) := told_again text y hR5
    obtain ⟨ok5, len5, lim5⟩ := told_of_read text y hR5
    have Hi5 : Hid (IsInts w5.heap.size w5 (.slice a5 y.cl.length c5) y.cl) := hown5.isInts
    have hy5 : y.cl.length ≤ 15 ∧ y.en.size ≤ 140737488355328 ∧ y.py.size ≤ 140737488355328 := by
      refine told_bounds y ok5 ?_
      have hp : 0 ≤ y.pa := by simp only [tellOk, Bool.and_eq_true, decide_eq_true_eq] at ok5; exact ok5.2.1
      have hl := tellB_length y.mrk y.ex y.ty y.nu y.ti y.so y.pr y.pa y.cl y.en y.py hp
      rw [← len5, ← Lib.size_eq] at hl
      omega
    obtain ⟨ym, yx, yty, ynu, yti, yso, ypr, ypa, ycl, yen, ypy⟩ := y
    obtain ⟨hy1, hy2, hy3⟩ := hy5
    clear hR5 hb5 hown5 ok5 len5
    go_wp2_with fail
    refine (tellPacket_any ym yx yty ynu yti yso ypr ypa _ ycl yen ypy _ w5.heap.size (by simp) (Hi5.out.alloc (Nat.le_refl _) _) (by omega) hy2 hy3).mono ?_
    rintro e w6 ⟨rfl, hb6⟩
    rw [HT5.out]
    have Hb6 : Hid (Below w.heap.size w w6) := (Hb5.out.alloc (by have := Hb5.out.size; omega) _).trans (hb6.mono (by have := Hb5.out.size; simp; omega))
    clear hb6
    go_wp2
    go_ret
    exact ⟨ret_bool (by simp), Hb6.out⟩

end Go.Proofs.Ytdjhhnolcafkiaa
