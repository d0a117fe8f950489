/- What is read is told again as it was; what is told is read again as it was. -/
import Derived.Test.YtdjhhnolcafkiaaPure
namespace Go.Proofs.Ytdjhhnolcafkiaa
namespace Pk

theorem twelve (l : List UInt8) (h : 12 ≤ l.length) : ∃ a0 a1 a2 a3 a4 a5 a6 a7 a8 a9 a10 a11 r, l = a0 :: a1 :: a2 :: a3 :: a4 :: a5 :: a6 :: a7 :: a8 :: a9 :: a10 :: a11 :: r := by
  match l, h with
  | a0 :: a1 :: a2 :: a3 :: a4 :: a5 :: a6 :: a7 :: a8 :: a9 :: a10 :: a11 :: r, _ => exact ⟨a0, a1, a2, a3, a4, a5, a6, a7, a8, a9, a10, a11, r, rfl⟩

theorem head_told (s : ByteArray) (h : 12 ≤ s.size) (hm : (B0 s).toNat / 64 = 2) :
    s.data.toList.take 12 = headB ((B0 s).toNat % 16) (decide (128 ≤ (B1 s).toNat)) (decide ((B0 s).toNat / 32 % 2 = 1)) (decide ((B0 s).toNat / 16 % 2 = 1)) ((B1 s).toNat % 128) (num ((s.data.toList.drop 2).take 2)) (num ((s.data.toList.drop 4).take 4)) (num ((s.data.toList.drop 8).take 4)) := by
  have hb0 := (B0 s).toNat_lt
  have hb1 := (B1 s).toNat_lt
  have e0 : hdB ((B0 s).toNat % 16) (decide ((B0 s).toNat / 32 % 2 = 1)) (decide ((B0 s).toNat / 16 % 2 = 1)) = B0 s := by
    apply UInt8.toNat_inj.1
    rw [hdB_toNat _ _ _ (by omega)]
    by_cases h1 : (B0 s).toNat / 32 % 2 = 1 <;> by_cases h2 : (B0 s).toNat / 16 % 2 = 1 <;> simp [h1, h2] <;> omega
  have e1 : tyB ((B1 s).toNat % 128) (decide (128 ≤ (B1 s).toNat)) = B1 s := by
    apply UInt8.toNat_inj.1
    rw [tyB_toNat _ _ (by omega)]
    by_cases h1 : 128 ≤ (B1 s).toNat <;> simp [h1] <;> omega
  unfold headB
  rw [e0, e1]
  unfold B0 B1
  obtain ⟨a0, a1, a2, a3, a4, a5, a6, a7, a8, a9, a10, a11, r, hl⟩ := twelve s.data.toList (by rw [← Lib.size_eq]; exact h)
  rw [hl, told_num 2 _ rfl, told_num 4 _ rfl, told_num 4 _ rfl]
  rfl

theorem con_told (s : ByteArray) (h0 : at0 s ≤ s.size) :
    (s.data.toList.drop 12).take (at0 s - 12) = conB (words (s.extract 12 (at0 s)).data.toList) ∧ (words (s.extract 12 (at0 s)).data.toList).length = (B0 s).toNat % 16 ∧ allIn (words (s.extract 12 (at0 s)).data.toList) 4294967295 = true := by
  have hl : (s.extract 12 (at0 s)).data.toList.length = 4 * ((B0 s).toNat % 16) := by
    rw [← Lib.size_eq, ByteArray.size_extract]
    unfold at0 at *
    omega
  refine ⟨?_, words_length _ _ hl, words_in _ _ hl⟩
  rw [conB_words _ _ hl, Lib.extract_data]

theorem told_of_read (s : ByteArray) (x : PP) (h : readP s = some x) :
    tellOk x.ex x.ty x.nu x.ti x.so x.pr x.pa x.cl x.en = true ∧ s.data.toList = tellB x.mrk x.ex x.ty x.nu x.ti x.so x.pr x.pa x.cl x.en x.py ∧ s.size ≤ 1500 := by
  cases hb : bad1 s with
  | true => rw [readP_bad s hb] at h; cases h
  | false =>
    have hb' := of_decide_eq_false hb
    by_cases hat : s.size < at0 s
    · rw [readP_at s hb hat] at h; cases h
    · rw [readP_of s hb (by omega)] at h
      cases hx : extPart s with
      | none => rw [hx] at h; cases h
      | some q =>
        obtain ⟨pr, en, a1⟩ := q
        obtain ⟨t1, t2, t3, t4⟩ := ext_told s pr a1 en (by omega) hx
        rw [hx, Option.bind_some] at h
        cases hp : padPart s a1 with
        | none => rw [hp] at h; cases h
        | some q =>
          obtain ⟨pa, fin⟩ := q
          obtain ⟨u1, u2, u3, u4, u5⟩ := pad_told s a1 pa fin t4 (by omega) hp
          rw [hp, Option.map_some, Option.some.injEq] at h
          subst h
          obtain ⟨c1, c2, c3⟩ := con_told s (by omega)
          have hd := head_told s (by omega) (by omega)
          have n2 := num_lt ((s.data.toList.drop 2).take 2)
          have n4 := num_lt ((s.data.toList.drop 4).take 4)
          have n8 := num_lt ((s.data.toList.drop 8).take 4)
          have l2 : ((s.data.toList.drop 2).take 2).length = 2 := by rw [List.length_take, List.length_drop, ← Lib.size_eq]; omega
          have l4 : ((s.data.toList.drop 4).take 4).length = 4 := by rw [List.length_take, List.length_drop, ← Lib.size_eq]; omega
          have l8 : ((s.data.toList.drop 8).take 4).length = 4 := by rw [List.length_take, List.length_drop, ← Lib.size_eq]; omega
          rw [l2] at n2; rw [l4] at n4; rw [l8] at n8
          refine ⟨?_, ?_, by omega⟩
          · simp only [mkP, tellOk, headOk, Bool.and_eq_true]
            exact ⟨⟨⟨⟨⟨⟨⟨decide_eq_true (by omega), decide_eq_true (by omega)⟩, decide_eq_true (by omega)⟩, decide_eq_true (by omega)⟩, decide_eq_true (by rw [c2]; omega)⟩, c3⟩, t1⟩, decide_eq_true (by omega)⟩
          · have e : decide ((0 : Int) < (mkP s (pr, en, a1) (pa, fin)).pa) = decide ((B0 s).toNat / 32 % 2 = 1) := by
              rw [← u5]
              simp [mkP]
            unfold tellB
            rw [e]
            simp only [mkP, Int.toNat_natCast, c2]
            rw [← hd, ← c1, ← t2, ← u1, Lib.extract_data]
            have q1 := cutAt s.data.toList a1 fin u2
            have q2 := cutAt s.data.toList (at0 s) a1 t3
            have q3 := cutAt s.data.toList 12 (at0 s) (by unfold at0; omega)
            rw [List.append_assoc, List.append_assoc, List.append_assoc, ← q1, ← q2, ← q3, List.take_append_drop]

theorem ba_ext {a b : ByteArray} (h : a.data.toList = b.data.toList) : a = b := ByteArray.ext (Array.ext' h)

theorem tellB_length (mk ex : Bool) (ty nu ti so pr pa : Int) (cl : List Int) (en py : ByteArray) (hp : 0 ≤ pa) :
    ((tellB mk ex ty nu ti so pr pa cl en py).length : Int) = plen ex cl en py pa := by
  unfold tellB plen
  rw [List.length_append, List.length_append, List.length_append, List.length_append, headB_length, conB_length, extB_length, padB_length, ← Lib.size_eq, ← Lib.size_eq]
  cases ex <;> simp <;> omega

theorem read_of_told (mk ex : Bool) (ty nu ti so pr pa : Int) (cl : List Int) (en py : ByteArray) (hok : tellOk ex ty nu ti so pr pa cl en = true) (hlen : plen ex cl en py pa ≤ 1500) :
    readP ⟨(tellB mk ex ty nu ti so pr pa cl en py).toArray⟩ = some { mrk := mk, ex := ex, ty := ty, nu := nu, ti := ti, so := so, pr := pr, pa := pa, cl := cl, en := en, py := py } := by
  simp only [tellOk, Bool.and_eq_true, decide_eq_true_eq] at hok
  obtain ⟨⟨hh, hx⟩, hp0, hp1⟩ := hok
  obtain ⟨hty, hnu, hti, hso, hcl, hci⟩ := headOk_of hh
  have hL := tellB_length mk ex ty nu ti so pr pa cl en py hp0
  have hpr : 0 ≤ pr ∧ pr ≤ 65535 := by
    cases ex
    · rw [extOk_no, Bool.and_eq_true, decide_eq_true_eq] at hx; omega
    · rw [extOk_yes, Bool.and_eq_true, decide_eq_true_eq] at hx; exact hx.1
  obtain ⟨ty, rfl⟩ := Int.eq_ofNat_of_zero_le hty.1
  obtain ⟨nu, rfl⟩ := Int.eq_ofNat_of_zero_le hnu.1
  obtain ⟨ti, rfl⟩ := Int.eq_ofNat_of_zero_le hti.1
  obtain ⟨so, rfl⟩ := Int.eq_ofNat_of_zero_le hso.1
  obtain ⟨pr, rfl⟩ := Int.eq_ofNat_of_zero_le hpr.1
  obtain ⟨pa, rfl⟩ := Int.eq_ofNat_of_zero_le hp0
  have hlist : tellB mk ex ty nu ti so pr pa cl en py = headB cl.length mk (decide (0 < pa)) ex ty nu ti so ++ (conB cl ++ (extB ex pr en.data.toList ++ (py.data.toList ++ padB pa))) := by
    have e : decide ((0 : Int) < (pa : Int)) = decide (0 < pa) := by simp
    unfold tellB
    rw [e]
    simp only [Int.toNat_natCast, List.append_assoc]
  obtain ⟨s, hs⟩ : ∃ s : ByteArray, s = ⟨(tellB mk ex ty nu ti so pr pa cl en py).toArray⟩ := ⟨_, rfl⟩
  have hd : s.data.toList = headB cl.length mk (decide (0 < pa)) ex ty nu ti so ++ (conB cl ++ (extB ex pr en.data.toList ++ (py.data.toList ++ padB pa))) := by rw [hs, ← hlist]
  have hsz : (s.size : Int) = plen ex cl en py pa := by rw [← hL, hs, Lib.size_eq]
  rw [← hs]
  clear hs hlist hL
  have h12 : 12 + 4 * cl.length ≤ s.size := by
    have : 12 + 4 * (cl.length : Int) ≤ plen ex cl en py pa := by unfold plen; split <;> omega
    omega
  have b0 : B0 s = hdB cl.length (decide (0 < pa)) ex := by unfold B0; rw [hd]; rfl
  have b1 : B1 s = tyB ty mk := by unfold B1; rw [hd]; rfl
  have b0n := hdB_toNat cl.length (decide (0 < pa)) ex hcl
  have b1n := tyB_toNat ty mk (by omega)
  have hb0 : (B0 s).toNat / 64 = 2 ∧ (B0 s).toNat % 16 = cl.length ∧ ((B0 s).toNat / 16 % 2 = 1 ↔ ex = true) ∧ ((B0 s).toNat / 32 % 2 = 1 ↔ 0 < pa) := by
    rw [b0, b0n]
    by_cases h1 : 0 < pa <;> cases ex <;> simp [h1] <;> omega
  have hb1 : (B1 s).toNat % 128 = ty ∧ (128 ≤ (B1 s).toNat ↔ mk = true) := by
    rw [b1, b1n]
    cases mk <;> simp <;> omega
  have hat : at0 s = 12 + 4 * cl.length := by unfold at0; rw [hb0.2.1]
  have hbad : bad1 s = false := by unfold bad1; exact decide_eq_false (by omega)
  have n2 : num ((s.data.toList.drop 2).take 2) = nu := by
    have e : (s.data.toList.drop 2).take 2 = told nu 2 := by rw [hd]; rfl
    rw [e, num_told 2 nu (by omega)]
  have n4 : num ((s.data.toList.drop 4).take 4) = ti := by
    have e : (s.data.toList.drop 4).take 4 = told ti 4 := by rw [hd]; rfl
    rw [e, num_told 4 ti (by omega)]
  have n8 : num ((s.data.toList.drop 8).take 4) = so := by
    have e : (s.data.toList.drop 8).take 4 = told so 4 := by rw [hd]; rfl
    rw [e, num_told 4 so (by omega)]
  have hc : words (s.extract 12 (at0 s)).data.toList = cl := by
    rw [Lib.extract_data, hd, mid _ _ _ 12 (at0 s - 12) (headB_length ..).symm (by rw [conB_length, hat]; omega), words_conB cl hci]
  have hxl : (s.size : Int) = 12 + 4 * cl.length + (extB ex pr en.data.toList).length + py.size + pa := by
    rw [hsz, extB_length, ← Lib.size_eq]
    unfold plen
    cases ex <;> simp <;> omega
  have hext : extPart s = some (pr, en, at0 s + (extB ex pr en.data.toList).length) := by
    unfold extPart
    cases ex
    · rw [if_neg (by rw [hb0.2.2.1]; simp)]
      rw [extOk_no, Bool.and_eq_true, decide_eq_true_eq, decide_eq_true_eq] at hx
      have h1 : pr = 0 := by omega
      have h2 : en = ⟨#[]⟩ := ba_ext (by rw [List.eq_nil_of_length_eq_zero (l := en.data.toList) (by rw [← Lib.size_eq]; exact hx.2)])
      subst h1 h2
      rfl
    · rw [extOk_yes, Bool.and_eq_true, decide_eq_true_eq, decide_eq_true_eq] at hx
      have hxb : extB true pr en.data.toList = told pr 2 ++ (told (en.size / 4) 2 ++ en.data.toList) := by
        unfold extB
        rw [if_pos rfl, List.append_assoc, ← Lib.size_eq]
      have hxn : (extB true pr en.data.toList).length = 4 + en.size := by rw [extB_length, if_pos rfl, ← Lib.size_eq]
      rw [hxn] at hxl ⊢
      have d0 : s.data.toList = (headB cl.length mk (decide (0 < pa)) true ty nu ti so ++ conB cl) ++ (told pr 2 ++ ((told (en.size / 4) 2 ++ en.data.toList) ++ (py.data.toList ++ padB pa))) := by
        rw [hd, hxb]; simp only [List.append_assoc]
      have d1 : s.data.toList = (headB cl.length mk (decide (0 < pa)) true ty nu ti so ++ conB cl ++ told pr 2) ++ (told (en.size / 4) 2 ++ (en.data.toList ++ (py.data.toList ++ padB pa))) := by
        rw [hd, hxb]; simp only [List.append_assoc]
      have d2 : s.data.toList = (headB cl.length mk (decide (0 < pa)) true ty nu ti so ++ conB cl ++ told pr 2 ++ told (en.size / 4) 2) ++ (en.data.toList ++ (py.data.toList ++ padB pa)) := by
        rw [hd, hxb]; simp only [List.append_assoc]
      have x1 : num (s.extract (at0 s) (at0 s + 2)).data.toList = pr := by
        rw [Lib.extract_data, d0, mid _ _ _ (at0 s) _ (by rw [List.length_append, headB_length, conB_length, hat]) (by rw [told_length]; omega), num_told 2 pr (by omega)]
      have x2 : extLen s = en.size := by
        unfold extLen
        rw [Lib.extract_data, d1, mid _ _ _ (at0 s + 2) _ (by rw [List.length_append, List.length_append, headB_length, conB_length, told_length, hat]) (by rw [told_length]; omega), num_told 2 (en.size / 4) (by omega)]
        omega
      have x3 : s.extract (at0 s + 4) (at0 s + 4 + en.size) = en := by
        apply ba_ext
        rw [Lib.extract_data, d2, mid _ _ _ (at0 s + 4) _ (by rw [List.length_append, List.length_append, List.length_append, headB_length, conB_length, told_length, told_length, hat]) (by rw [← Lib.size_eq]; omega)]
      rw [if_pos (hb0.2.2.1.2 rfl), if_neg (by omega), x1, x2, x3, if_neg (by omega), Nat.add_assoc]
  have dY : s.data.toList = (headB cl.length mk (decide (0 < pa)) ex ty nu ti so ++ conB cl ++ extB ex pr en.data.toList) ++ (py.data.toList ++ padB pa) := by
    rw [hd]; simp only [List.append_assoc]
  have hP2 : (headB cl.length mk (decide (0 < pa)) ex ty nu ti so ++ conB cl ++ extB ex pr en.data.toList).length = at0 s + (extB ex pr en.data.toList).length := by
    rw [List.length_append, List.length_append, headB_length, conB_length, hat]
  have hpad : padPart s (at0 s + (extB ex pr en.data.toList).length) = some (pa, s.size - pa) := by
    unfold padPart
    by_cases h0 : 0 < pa
    · have hD : padB pa = List.replicate (pa - 1) 0 ++ [UInt8.ofNat pa] := by unfold padB; rw [if_neg (by omega)]
      have dL : s.data.toList = (headB cl.length mk (decide (0 < pa)) ex ty nu ti so ++ conB cl ++ extB ex pr en.data.toList ++ py.data.toList ++ List.replicate (pa - 1) 0) ++ [UInt8.ofNat pa] := by
        rw [dY, hD]; simp only [List.append_assoc]
      have hPl : (headB cl.length mk (decide (0 < pa)) ex ty nu ti so ++ conB cl ++ extB ex pr en.data.toList ++ py.data.toList ++ List.replicate (pa - 1) 0).length = s.size - 1 := by
        rw [List.length_append, List.length_append, hP2, List.length_replicate, ← Lib.size_eq, hat]; omega
      have hBl : Bl s = UInt8.ofNat pa := by
        unfold Bl
        rw [dL, List.getD_eq_getElem?_getD, List.getElem?_append_right (by rw [hPl]; exact Nat.le_refl _), hPl]
        simp
      have hBn : (Bl s).toNat = pa := by
        rw [hBl, UInt8.toNat_ofNat']; exact Nat.mod_eq_of_lt (by omega)
      have dZ : s.data.toList = (headB cl.length mk (decide (0 < pa)) ex ty nu ti so ++ conB cl ++ extB ex pr en.data.toList ++ py.data.toList) ++ (List.replicate (pa - 1) 0 ++ [UInt8.ofNat pa]) := by
        rw [dY, hD]; simp only [List.append_assoc]
      have hN : noughts (s.extract (s.size - pa) (s.size - 1)).data.toList = true := by
        rw [Lib.extract_data, dZ, mid _ _ _ (s.size - pa) _ (by rw [List.length_append, hP2, ← Lib.size_eq, hat]; omega) (by rw [List.length_replicate]; omega)]
        exact noughts_rep _
      rw [if_pos (hb0.2.2.2.2 h0), hBn, if_neg (by rw [hat]; omega), if_pos hN]
    · have h1 : pa = 0 := by omega
      subst h1
      rw [if_neg (by rw [hb0.2.2.2]; exact h0), Nat.sub_zero]
  have hpy : s.extract (at0 s + (extB ex pr en.data.toList).length) (s.size - pa) = py := by
    apply ba_ext
    rw [Lib.extract_data, dY, mid _ _ _ _ _ hP2.symm (by rw [← Lib.size_eq, hat]; omega)]
  rw [readP_of s hbad (by omega), hext, Option.bind_some, hpad, Option.map_some]
  unfold mkP
  rw [n2, n4, n8, hc, hpy, hb1.1]
  have m1 : decide (128 ≤ (B1 s).toNat) = mk := by rw [Bool.eq_iff_iff, decide_eq_true_eq]; exact hb1.2
  have m2 : decide ((B0 s).toNat / 16 % 2 = 1) = ex := by rw [Bool.eq_iff_iff, decide_eq_true_eq]; exact hb0.2.2.1
  rw [m1, m2]

end Pk
end Go.Proofs.Ytdjhhnolcafkiaa
