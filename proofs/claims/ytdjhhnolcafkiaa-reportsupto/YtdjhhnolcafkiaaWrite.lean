/- A packet is told. -/
import Derived.Test.YtdjhhnolcafkiaaFits
import Derived.Test.YtdjhhnolcafkiaaAddHead
namespace Go.Proofs.Ytdjhhnolcafkiaa
open Go.RowKit Pk

theorem box_below {w w' : World} {B : Nat} (h : Below B w w') (b : Nat) (hb : b < B) : ∀ o, w'.cell? ⟨b, o, none⟩ = w.cell? ⟨b, o, none⟩ :=
  fun o => h.cell (p := ⟨b, o, none⟩) hb

theorem ret_two {a b : ByteArray} {x y : Int} (h : a = b) (k : x = y) : Ending.returned (.tuple #[.string a, .int .i64 x]) = .returned (.tuple #[.string b, .int .i64 y]) := by rw [h, k]

theorem packetLength_p (mk ex : Bool) (ty nu ti so pr pa : Int) (ao : Option Addr) (cl : List Int) (cap : Nat) (en py : ByteArray) (w : World) (hen : en.size ≤ 140737488355328) (hpy : py.size ≤ 140737488355328) (hn : cl.length ≤ 15) (hp0 : 0 ≤ pa) (hp1 : pa ≤ 255) :
    Calls Try.prog 70 #[.agg #[.bool mk, .int .i64 ty, .int .i64 nu, .int .i64 ti, .int .i64 so, .slice ao cl.length cap, .bool ex, .int .i64 pr, .string en, .string py, .int .i64 pa]] w
      fun e w' => e = .returned (.int .i64 (plen ex cl en py pa)) ∧ Below w.heap.size w w' := by
  refine (packetLength_any mk ex ty nu ti so pr pa ao cl.length cap en py w hen hpy hn hp0 hp1).mono ?_
  rintro e w' ⟨rfl, h⟩
  refine ⟨ret_int ?_, h⟩
  unfold plen
  cases ex <;> simp

theorem box_grown_none {w w' : World} (h : w.grownBy w' none) (b : Nat) (hb : b < w.heap.size) : ∀ o, w'.cell? ⟨b, o, none⟩ = w.cell? ⟨b, o, none⟩ :=
  fun o => World.cell?_of_block (a := ⟨b, o, none⟩) (h.block b hb (by simp))
theorem extOk_pr {ex : Bool} {pr : Int} {en : ByteArray} (h : extOk ex pr en = true) : 0 ≤ pr ∧ pr ≤ 65535 := by
  cases ex
  · rw [extOk_no, Bool.and_eq_true, decide_eq_true_eq] at h; omega
  · rw [extOk_yes, Bool.and_eq_true, decide_eq_true_eq] at h; exact h.1
theorem extOk_en {ex : Bool} {pr : Int} {en : ByteArray} (h : extOk ex pr en = true) : ex = false → en.size = 0 := by
  intro e
  subst e
  rw [extOk_no, Bool.and_eq_true, decide_eq_true_eq, decide_eq_true_eq] at h; exact h.2

set_option maxHeartbeats 4000000 in
theorem write_refused (mk ex : Bool) (ty nu ti so pr pa : Int) (cv : Value) (cl : List Int) (en py : ByteArray) (w : World) (B : Nat) (hBw : B ≤ w.heap.size) (hv : IsInts B w cv cl) (hl : cl.length ≤ 17592186044416)
    (hen : en.size ≤ maxLen) (hno : tellOk ex ty nu ti so pr pa cl en = false) :
    Calls Try.prog 46 #[.agg #[.bool mk, .int .i64 ty, .int .i64 nu, .int .i64 ti, .int .i64 so, cv, .bool ex, .int .i64 pr, .string en, .string py, .int .i64 pa]] w
      fun e w' => e = .returned (.tuple #[.string ⟨#[]⟩, .int .i64 2]) ∧ Below w.heap.size w w' := by
  have hvo : ∀ o, IsInts B (w.alloc o) cv cl := fun o => hv.alloc hBw o
  have Hv : Hid (∀ o, IsInts B (w.alloc o) cv cl) := hvo
  clear hvo
  obtain ⟨ao, cap, rfl, _⟩ := hv
  have Hno : Hid ((headOk ty nu ti so cl && extOk ex pr en && decide (0 ≤ pa ∧ pa ≤ 255)) = false) := hno
  clear hno
  go_enter Try.func46, Try.ntmps46
  go_wp2_with fail
  refine (headFits_any mk ex ty nu ti so pr pa _ cl en py _ B (by simp; omega) (Hv.out _) hl).mono ?_
  rintro e w1 ⟨rfl, hb1⟩
  have hc1 := box_below hb1 w.heap.size (by simp)
  have hw1 : w.heap.size < w1.heap.size := by have := hb1.size; simp at this; omega
  have Hb1 : Hid (Below w.heap.size w w1) := ((Below.refl _ _).alloc (Nat.le_refl _) _).trans (hb1.mono (by simp))
  cases hh : headOk ty nu ti so cl with
  | false =>
    go_wp2
    go_ret2
    exact ⟨rfl, Hb1.out⟩
  | true =>
    have Hh : Hid (headOk ty nu ti so cl = true) := hh
    clear hh
    go_wp2_with fail
    refine (extensionFits_any mk ex ty nu ti so pr pa _ en py _ hen).mono ?_
    rintro e w2 ⟨rfl, hb2⟩
    have hc2 := box_below hb2 w.heap.size hw1
    have Hb2 : Hid (Below w.heap.size w w2) := Hb1.out.trans (hb2.mono (Nat.le_of_lt hw1))
    cases hx : extOk ex pr en with
    | false =>
      go_wp2
      go_ret2
      exact ⟨rfl, Hb2.out⟩
    | true =>
      have hpa : ¬ (0 ≤ pa ∧ pa ≤ 255) := by
        have h := Hno.out
        rw [Hh.out, hx] at h
        simpa using h
      have Hd : Hid (decide (0 ≤ pa ∧ pa ≤ 255) = false) := decide_eq_false hpa
      clear hx hpa
      go_wp2_with fail
      refine (within_any _ _ _).mono ?_
      rintro e w3 ⟨rfl, rfl⟩
      rw [Hd.out]
      go_wp2
      go_ret2
      exact ⟨rfl, Hb2.out⟩

set_option maxHeartbeats 4000000 in
theorem write_long (mk ex : Bool) (ty nu ti so pr pa : Int) (cv : Value) (cl : List Int) (en py : ByteArray) (w : World) (B : Nat) (hBw : B ≤ w.heap.size) (hv : IsInts B w cv cl) (hl : cl.length ≤ 17592186044416)
    (hen : en.size ≤ 140737488355328) (hpy : py.size ≤ 140737488355328) (hok : tellOk ex ty nu ti so pr pa cl en = true) (hlen : 1500 < plen ex cl en py pa) :
    Calls Try.prog 46 #[.agg #[.bool mk, .int .i64 ty, .int .i64 nu, .int .i64 ti, .int .i64 so, cv, .bool ex, .int .i64 pr, .string en, .string py, .int .i64 pa]] w
      fun e w' => e = .returned (.tuple #[.string ⟨#[]⟩, .int .i64 1]) ∧ Below w.heap.size w w' := by
  have hvo : ∀ o, IsInts B (w.alloc o) cv cl := fun o => hv.alloc hBw o
  have Hv : Hid (∀ o, IsInts B (w.alloc o) cv cl) := hvo
  clear hvo
  obtain ⟨ao, cap, rfl, _⟩ := hv
  simp only [tellOk, Bool.and_eq_true, decide_eq_true_eq] at hok
  obtain ⟨⟨hh, hx⟩, hp0, hp1⟩ := hok
  have Hd : Hid (decide (0 ≤ pa ∧ pa ≤ 255) = true) := decide_eq_true ⟨hp0, hp1⟩
  have Hh : Hid (headOk ty nu ti so cl = true) := hh
  have Hx : Hid (extOk ex pr en = true) := hx
  obtain ⟨hty, hnu, hti, hso, hcl, hci⟩ := headOk_of hh
  have Hi : Hid (allIn cl 4294967295 = true) := hci
  have Hlen : Hid (1500 < plen ex cl en py pa) := hlen
  clear hh hx hci hlen
  go_enter Try.func46, Try.ntmps46
  go_wp2_with fail
  refine (headFits_any mk ex ty nu ti so pr pa _ cl en py _ B (by simp; omega) (Hv.out _) hl).mono ?_
  rintro e w1 ⟨rfl, hb1⟩
  rw [Hh.out]
  have hc1 := box_below hb1 w.heap.size (by simp)
  have hw1 : w.heap.size < w1.heap.size := by have := hb1.size; simp at this; omega
  have Hb1 : Hid (Below w.heap.size w w1) := ((Below.refl _ _).alloc (Nat.le_refl _) _).trans (hb1.mono (by simp))
  go_wp2_with fail
  refine (extensionFits_any mk ex ty nu ti so pr pa _ en py _ (by unfold maxLen; omega)).mono ?_
  rintro e w2 ⟨rfl, hb2⟩
  rw [Hx.out]
  have hc2 := box_below hb2 w.heap.size hw1
  have hw2 : w.heap.size < w2.heap.size := Nat.lt_of_lt_of_le hw1 hb2.size
  have Hb2 : Hid (Below w.heap.size w w2) := Hb1.out.trans (hb2.mono (Nat.le_of_lt hw1))
  go_wp2_with fail
  refine (within_any _ _ _).mono ?_
  rintro e w3 ⟨rfl, rfl⟩
  rw [Hd.out]
  go_wp2_with fail
  refine (packetLength_p mk ex ty nu ti so pr pa _ cl _ en py _ hen hpy hcl hp0 hp1).mono ?_
  rintro e w3 ⟨rfl, hb3⟩
  have hc3 := box_below hb3 w.heap.size hw2
  have hw3 : w.heap.size < w3.heap.size := Nat.lt_of_lt_of_le hw2 hb3.size
  have Hb3 : Hid (Below w.heap.size w w3) := Hb2.out.trans (hb3.mono (Nat.le_of_lt hw2))
  have hL := Hlen.out
  generalize plen ex cl en py pa = L at *
  go_wp2
  go_ret2
  exact ⟨rfl, Hb3.out⟩

set_option maxHeartbeats 4000000 in
theorem write_ok (mk ex : Bool) (ty nu ti so pr pa : Int) (cv : Value) (cl : List Int) (en py : ByteArray) (w : World) (B : Nat) (hBw : B ≤ w.heap.size) (hv : IsInts B w cv cl) (hl : cl.length ≤ 17592186044416)
    (hen : en.size ≤ 140737488355328) (hpy : py.size ≤ 140737488355328) (hok : tellOk ex ty nu ti so pr pa cl en = true) (hlen : plen ex cl en py pa ≤ 1500) :
    Calls Try.prog 46 #[.agg #[.bool mk, .int .i64 ty, .int .i64 nu, .int .i64 ti, .int .i64 so, cv, .bool ex, .int .i64 pr, .string en, .string py, .int .i64 pa]] w
      fun e w' => e = .returned (.tuple #[.string ⟨(tellB mk ex ty nu ti so pr pa cl en py).toArray⟩, .int .i64 0]) ∧ Below w.heap.size w w' := by
  have hvo : ∀ o, IsInts B (w.alloc o) cv cl := fun o => hv.alloc hBw o
  have Hv : Hid (∀ o, IsInts B (w.alloc o) cv cl) := hvo
  clear hvo
  have Hv0 : Hid (IsInts B w cv cl) := hv
  obtain ⟨ao, cap, rfl, _⟩ := hv
  simp only [tellOk, Bool.and_eq_true, decide_eq_true_eq] at hok
  obtain ⟨⟨hh, hx⟩, hp0, hp1⟩ := hok
  have Hd : Hid (decide (0 ≤ pa ∧ pa ≤ 255) = true) := decide_eq_true ⟨hp0, hp1⟩
  have Hh : Hid (headOk ty nu ti so cl = true) := hh
  have Hx : Hid (extOk ex pr en = true) := hx
  obtain ⟨hty, hnu, hti, hso, hcl, hci⟩ := headOk_of hh
  have Hi : Hid (allIn cl 4294967295 = true) := hci
  have hpr := extOk_pr hx
  have hxl : (if ex then 4 + en.size else 0) + (12 + 4 * cl.length) + py.size + pa.toNat ≤ 1500 ∧ en.size ≤ 1500 ∧ py.size ≤ 1500 := by
    unfold plen at hlen
    cases ex
    · have h2 := extOk_en hx rfl
      simp at hlen ⊢; omega
    · simp at hlen ⊢; omega
  obtain ⟨ty, rfl⟩ := Int.eq_ofNat_of_zero_le hty.1
  obtain ⟨nu, rfl⟩ := Int.eq_ofNat_of_zero_le hnu.1
  obtain ⟨ti, rfl⟩ := Int.eq_ofNat_of_zero_le hti.1
  obtain ⟨so, rfl⟩ := Int.eq_ofNat_of_zero_le hso.1
  obtain ⟨pr, rfl⟩ := Int.eq_ofNat_of_zero_le hpr.1
  obtain ⟨pa, rfl⟩ := Int.eq_ofNat_of_zero_le hp0
  have Hbytes : Hid (tellB mk ex ty nu ti so pr pa cl en py = headB cl.length mk (decide (0 < pa)) ex ty nu ti so ++ conB cl ++ extB ex pr en.data.toList ++ py.data.toList ++ padB pa) := by
    show _ = _
    have e : decide (0 < (pa : Int)) = decide (0 < pa) := by simp
    unfold tellB
    rw [e]
    rfl
  have HL2 : Hid ((plen ex cl en py pa).toNat = 12 + 4 * cl.length + (if ex then 4 + en.size else 0) + py.size + pa) := by
    show _ = _
    unfold plen
    cases ex <;> simp <;> omega
  rw [Hbytes.out]
  have Hlen : Hid (plen ex cl en py pa ≤ 1500) := hlen
  clear hh hx hci hlen
  go_enter Try.func46, Try.ntmps46
  go_wp2_with fail
  refine (headFits_any mk ex _ _ _ _ _ _ _ cl en py _ B (by simp; omega) (Hv.out _) hl).mono ?_
  rintro e w1 ⟨rfl, hb1⟩
  rw [Hh.out]
  have hc1 := box_below hb1 w.heap.size (by simp)
  have hw1 : w.heap.size < w1.heap.size := by have := hb1.size; simp at this; omega
  have Hb1 : Hid (Below w.heap.size w w1) := ((Below.refl _ _).alloc (Nat.le_refl _) _).trans (hb1.mono (by simp))
  go_wp2_with fail
  refine (extensionFits_any mk ex _ _ _ _ _ _ _ en py _ (by unfold maxLen; omega)).mono ?_
  rintro e w2 ⟨rfl, hb2⟩
  rw [Hx.out]
  have hc2 := box_below hb2 w.heap.size hw1
  have hw2 : w.heap.size < w2.heap.size := Nat.lt_of_lt_of_le hw1 hb2.size
  have Hb2 : Hid (Below w.heap.size w w2) := Hb1.out.trans (hb2.mono (Nat.le_of_lt hw1))
  go_wp2_with fail
  refine (within_any _ _ _).mono ?_
  rintro e w3 ⟨rfl, rfl⟩
  rw [Hd.out]
  go_wp2_with fail
  refine (packetLength_p mk ex _ _ _ _ _ _ _ cl _ en py _ hen hpy hcl hp0 hp1).mono ?_
  rintro e w3 ⟨rfl, hb3⟩
  have hc3 := box_below hb3 w.heap.size hw2
  have hw3 : w.heap.size < w3.heap.size := Nat.lt_of_lt_of_le hw2 hb3.size
  have Hb3 : Hid (Below w.heap.size w w3) := Hb2.out.trans (hb3.mono (Nat.le_of_lt hw2))
  have hL := Hlen.out
  have hL0 : 12 ≤ plen ex cl en py pa := by unfold plen; split <;> omega
  obtain ⟨L, hLe⟩ : ∃ L : Nat, plen ex cl en py pa = L := ⟨(plen ex cl en py pa).toNat, by omega⟩
  rw [hLe] at hL hL0
  have HLe : Hid (plen ex cl en py pa = L) := hLe
  rw [hLe]
  clear hLe
  have hLn : L = 12 + 4 * cl.length + (if ex then 4 + en.size else 0) + py.size + pa := by have h := HL2.out; rw [HLe.out] at h; simpa using h
  generalize hxe : (if ex then 4 + en.size else 0) = xe at *
  have Hxe : Hid ((if ex then 4 + en.size else 0) = xe) := hxe
  have HLn : Hid (L = 12 + 4 * cl.length + xe + py.size + pa) := hLn
  have hLge : 12 + 4 * cl.length + xe + py.size + pa ≤ L := Nat.le_of_eq hLn.symm
  clear hxe hLn
  have hinfo : (Try.prog.info? 5).map (fun i => (i.zero, i.size, i.bytes)) = some (some (.int .u8 0), 1, 1) := by kernel_rfl
  obtain ⟨i0, hi, hz0, hz1, hz2⟩ := info_parts hinfo
  have Hm : Hid (i0.bytes * L ≤ 281474976710656) := by show _ ≤ _; rw [hz2]; omega
  have Hhi : Hid (Try.prog.info? 5 = some i0 ∧ i0.zero = some (.int .u8 0) ∧ i0.size = 1) := ⟨hi, hz0, hz1⟩
  clear hi hz0 hz1 hz2 hinfo
  go_wp2_with (at_make; refine wpList_make_own _ rfl (.const (.int .i64 0)) (.tmp 24) 56 rfl w.heap.size 5 i0 (.int .u8 0) 1 Try.underlying56 Hhi.out.1 Hhi.out.2.1 Hhi.out.2.2 .i64 .i64 _ L rfl rfl rfl Hm.out (by unfold maxLen; omega) (Nat.le_of_lt hw3) ?_; intro w4 hown4 hg4; have hc4 := box_grown_none hg4 w.heap.size hw3)
  have HB4 : Hid (Buf w4 w.heap.size w3.heap.size 0 L []) := ⟨rfl, hown4⟩
  have hw4 : w.heap.size < w4.heap.size := Nat.lt_of_lt_of_le hw3 hg4.size
  have hne : w.heap.size ≠ w3.heap.size := by omega
  have Hb4 : Hid (Below w.heap.size w w4) := Hb3.out.trans ((Below.refl _ _).grown hg4 (Nat.le_of_lt hw3) (by simp))
  have Hv4 : Hid (IsInts w.heap.size w4 (.slice ao cl.length cap) cl) := (Hv0.out.mono hBw).carry Hb4.out
  clear hown4 hg4
  generalize w3.heap.size = g at *
  refine (addHead_any w.heap.size g 0 L [] mk ex (decide (0 < pa)) ty nu ti so pa _ _ cl en py _ (by omega) (by omega) (by omega) (by omega) hcl Hi.out Hv4.out (by omega) rfl HB4.out).mono ?_
  rintro e w5 ⟨rfl, hB5, hg5⟩
  have hc5 := box_kept hg5 w.heap.size hw4 hne
  have hw5 : w.heap.size < w5.heap.size := Nat.lt_of_lt_of_le hw4 hg5.size
  have Hb5 : Hid (Below w.heap.size w w5) := Hb4.out.trans ((Below.refl _ _).grown hg5 (Nat.le_of_lt hw4) (by intro k hk; cases hk; omega))
  rw [Nat.zero_add]
  rw [Nat.zero_add, List.nil_append] at hB5
  have HB5 : Hid (Buf w5 w.heap.size g (12 + 4 * cl.length) L (headB cl.length mk (decide (0 < pa)) ex ty nu ti so ++ conB cl)) := hB5
  clear hB5
  go_wp2_with fail
  refine (addExtension_any w.heap.size g (12 + 4 * cl.length) L _ mk ex _ _ _ _ _ pr _ en py _ (by omega) (by omega) (by rw [Hxe.out]; omega) HB5.out).mono ?_
  rw [Hxe.out]
  rintro e w6 ⟨rfl, hB6, hg6⟩
  have hc6 := box_kept hg6 w.heap.size hw5 hne
  have hw6 : w.heap.size < w6.heap.size := Nat.lt_of_lt_of_le hw5 hg6.size
  have Hb6 : Hid (Below w.heap.size w w6) := Hb5.out.trans ((Below.refl _ _).grown hg6 (Nat.le_of_lt hw5) (by intro k hk; cases hk; omega))
  clear hg6 hg5
  go_wp2_with (at_builtin; refine wl_string rfl (.tmp 32) (.tmp 34) rfl rfl hB6 py rfl (by omega) ?_; intro w7 hB7 hg7; have hc7 := box_kept hg7 w.heap.size hw6 hne)
  have hw7 : w.heap.size < w7.heap.size := Nat.lt_of_lt_of_le hw6 hg7.size
  have Hb7 : Hid (Below w.heap.size w w7) := Hb6.out.trans ((Below.refl _ _).grown hg7 (Nat.le_of_lt hw6) (by intro k hk; cases hk; omega))
  refine (addPadding_any w.heap.size g (12 + 4 * cl.length + xe + py.size) L _ pa _ (by omega) (by omega) hB7).mono ?_
  rintro e w8 ⟨rfl, hB8, hg8⟩
  have Hb8 : Hid (Below w.heap.size w w8) := Hb7.out.trans ((Below.refl _ _).grown hg8 (Nat.le_of_lt hw7) (by intro k hk; cases hk; omega))
  have htx := run_text hB8
  clear hg7 hg8 hB8 hB7 hB6
  go_wp2
  go_ret2
  exact ⟨ret_two (by simp only [List.append_assoc]) rfl, Hb8.out⟩

theorem writePacket_any (mk ex : Bool) (ty nu ti so pr pa : Int) (cv : Value) (cl : List Int) (en py : ByteArray) (w : World) (B : Nat) (hBw : B ≤ w.heap.size) (hv : IsInts B w cv cl) (hl : cl.length ≤ 17592186044416)
    (hen : en.size ≤ 140737488355328) (hpy : py.size ≤ 140737488355328) :
    Calls Try.prog 46 #[.agg #[.bool mk, .int .i64 ty, .int .i64 nu, .int .i64 ti, .int .i64 so, cv, .bool ex, .int .i64 pr, .string en, .string py, .int .i64 pa]] w
      fun e w' => e = .returned (.tuple #[.string (tellR mk ex ty nu ti so pr pa cl en py).1, .int .i64 (tellR mk ex ty nu ti so pr pa cl en py).2]) ∧ Below w.heap.size w w' := by
  unfold tellR
  cases h : tellOk ex ty nu ti so pr pa cl en with
  | false =>
    rw [if_neg (by simp)]
    exact write_refused mk ex ty nu ti so pr pa cv cl en py w B hBw hv hl (by unfold maxLen; omega) h
  | true =>
    rw [if_pos rfl]
    by_cases hL : 1500 < plen ex cl en py pa
    · rw [if_pos hL]
      exact write_long mk ex ty nu ti so pr pa cv cl en py w B hBw hv hl hen hpy h hL
    · rw [if_neg hL]
      exact write_ok mk ex ty nu ti so pr pa cv cl en py w B hBw hv hl hen hpy h (by omega)

set_option maxHeartbeats 1000000 in
theorem tellPacket_any (mk ex : Bool) (ty nu ti so pr pa : Int) (cv : Value) (cl : List Int) (en py : ByteArray) (w : World) (B : Nat) (hBw : B ≤ w.heap.size) (hv : IsInts B w cv cl) (hl : cl.length ≤ 17592186044416)
    (hen : en.size ≤ 140737488355328) (hpy : py.size ≤ 140737488355328) :
    Calls Try.prog 17 #[.agg #[.bool mk, .int .i64 ty, .int .i64 nu, .int .i64 ti, .int .i64 so, cv, .bool ex, .int .i64 pr, .string en, .string py, .int .i64 pa]] w
      fun e w' => e = .returned (.tuple #[.string (tellR mk ex ty nu ti so pr pa cl en py).1, .int .i64 (tellR mk ex ty nu ti so pr pa cl en py).2]) ∧ Below w.heap.size w w' := by
  have hvo : ∀ o, IsInts B (w.alloc o) cv cl := fun o => hv.alloc hBw o
  have Hv : Hid (∀ o, IsInts B (w.alloc o) cv cl) := hvo
  clear hvo
  obtain ⟨ao, cap, rfl, _⟩ := hv
  go_enter Try.func17, Try.ntmps17
  go_wp2_with fail
  refine (writePacket_any mk ex ty nu ti so pr pa _ cl en py _ B (by simp; omega) (Hv.out _) hl hen hpy).mono ?_
  rintro e w1 ⟨rfl, hb1⟩
  have Hb1 : Hid (Below w.heap.size w w1) := ((Below.refl _ _).alloc (Nat.le_refl _) _).trans (hb1.mono (by simp))
  go_wp2
  go_ret2
  exact ⟨rfl, Hb1.out⟩

end Go.Proofs.Ytdjhhnolcafkiaa
