/- One text for each packet, one packet for each text: plain facts. -/
import Derived.Test.YtdjhhnolcafkiaaParse
namespace Go.Proofs.Ytdjhhnolcafkiaa
namespace Pk

theorem num_told (k : Nat) : ∀ v, v < 256 ^ k → num (told v k) = v := by
  induction k with
  | zero => intro v h; simp at h; subst h; rfl
  | succ k ih =>
    intro v h
    rw [told, num_snoc, ih (v / 256) (by rw [Nat.pow_succ] at h; exact Nat.div_lt_of_lt_mul (by omega)), UInt8.toNat_ofNat']
    omega
theorem told_num (n : Nat) : ∀ l : List UInt8, l.length = n → told (num l) n = l := by
  induction n with
  | zero => intro l h; rw [List.eq_nil_of_length_eq_zero h]; rfl
  | succ n ih =>
    intro l h
    obtain ⟨i, b, rfl⟩ : ∃ i b, l = i ++ [b] := ⟨l.dropLast, l.getLast (by intro e; subst e; simp at h), (List.dropLast_concat_getLast _).symm⟩
    have hi : i.length = n := by simpa using h
    have hb := b.toNat_lt
    rw [num_snoc, told, show (num i * 256 + b.toNat) / 256 = num i by omega, ih i hi, show (num i * 256 + b.toNat) % 256 = b.toNat by omega, UInt8.ofNat_toNat]

theorem words_conB (cl : List Int) (h : allIn cl 4294967295 = true) : words (conB cl) = cl := by
  induction cl with
  | nil => rfl
  | cons c cl ih =>
    simp only [allIn, List.all_cons, Bool.and_eq_true, decide_eq_true_eq] at h
    have hl : 4 ≤ (conB (c :: cl)).length := by rw [conB_length]; simp; omega
    rw [words_step _ hl]
    have e1 : (conB (c :: cl)).take 4 = told c.toNat 4 := by rw [conB]; exact List.take_left' (told_length _ _)
    have e2 : (conB (c :: cl)).drop 4 = conB cl := by rw [conB]; exact List.drop_left' (told_length _ _)
    rw [e1, e2, ih h.2, num_told 4 c.toNat (by omega)]
    congr 1
    omega
theorem conB_words (n : Nat) : ∀ l : List UInt8, l.length = 4 * n → conB (words l) = l := by
  induction n with
  | zero => intro l h; rw [List.eq_nil_of_length_eq_zero (l := l) (by omega)]; rfl
  | succ n ih =>
    intro l h
    rw [words_step l (by omega), conB, ih (l.drop 4) (by rw [List.length_drop]; omega), Int.toNat_natCast, told_num 4 (l.take 4) (by rw [List.length_take]; omega), List.take_append_drop]
theorem words_in (n : Nat) : ∀ l : List UInt8, l.length = 4 * n → allIn (words l) 4294967295 = true := by
  induction n with
  | zero => intro l h; rw [words_stop l (by omega)]; rfl
  | succ n ih =>
    intro l h
    have hn := num_lt (l.take 4)
    have hl : (l.take 4).length = 4 := by rw [List.length_take]; omega
    rw [hl] at hn
    have h2 := ih (l.drop 4) (by rw [List.length_drop]; omega)
    rw [words_step l (by omega)]
    simp only [allIn, List.all_cons, Bool.and_eq_true, decide_eq_true_eq]
    exact ⟨by omega, h2⟩

theorem noughts_rep (n : Nat) : noughts (List.replicate n 0) = true := by simp [noughts]
theorem rep_noughts (l : List UInt8) (h : noughts l = true) : l = List.replicate l.length 0 := by
  apply List.eq_replicate_of_mem
  simpa [noughts] using h

theorem mid {α : Type} (p m q : List α) (a n : Nat) (ha : a = p.length) (hn : n = m.length) : ((p ++ (m ++ q)).drop a).take n = m := by
  subst ha hn
  rw [List.drop_left, List.take_left]

theorem cutAt {α : Type} (l : List α) (a b : Nat) (h : a ≤ b) : l.drop a = (l.drop a).take (b - a) ++ l.drop b := by
  have e : l.drop b = (l.drop a).drop (b - a) := by rw [List.drop_drop]; congr 1; omega
  rw [e, List.take_append_drop]

theorem ext_told (s : ByteArray) (pr a1 : Nat) (en : ByteArray) (h0 : at0 s ≤ s.size) (h : extPart s = some (pr, en, a1)) :
    extOk (decide ((B0 s).toNat / 16 % 2 = 1)) pr en = true ∧ (s.data.toList.drop (at0 s)).take (a1 - at0 s) = extB (decide ((B0 s).toNat / 16 % 2 = 1)) pr en.data.toList ∧ at0 s ≤ a1 ∧ a1 ≤ s.size := by
  unfold extPart at h
  by_cases hx : (B0 s).toNat / 16 % 2 = 1
  · rw [if_pos hx] at h
    rw [decide_eq_true hx]
    by_cases h4 : s.size - at0 s < 4
    · rw [if_pos h4] at h; cases h
    · rw [if_neg h4] at h
      by_cases hL : s.size - (at0 s + 4) < extLen s
      · rw [if_pos hL] at h; cases h
      · rw [if_neg hL, Option.some.injEq, Prod.mk.injEq, Prod.mk.injEq] at h
        obtain ⟨h1, h2, h3⟩ := h
        have hen : en.data.toList = (s.data.toList.drop (at0 s + 4)).take (extLen s) := by
          rw [← h2, Lib.extract_data]; congr 1; omega
        have hel : en.size = extLen s := by
          rw [Lib.size_eq, hen, List.length_take, List.length_drop, ← Lib.size_eq]; omega
        have hp : told pr 2 = (s.data.toList.drop (at0 s)).take 2 := by
          rw [← h1, Lib.extract_data, show at0 s + 2 - at0 s = 2 by omega]
          exact told_num 2 _ (by rw [List.length_take, List.length_drop, ← Lib.size_eq]; omega)
        have hm : told (en.data.toList.length / 4) 2 = (s.data.toList.drop (at0 s + 2)).take 2 := by
          rw [← Lib.size_eq, hel]
          unfold extLen
          rw [Nat.mul_div_cancel_left _ (by omega), Lib.extract_data, show at0 s + 4 - (at0 s + 2) = 2 by omega]
          exact told_num 2 _ (by rw [List.length_take, List.length_drop, ← Lib.size_eq]; omega)
        have hpr : pr < 65536 := by
          have := num_lt (s.extract (at0 s) (at0 s + 2)).data.toList
          have h5 : (s.extract (at0 s) (at0 s + 2)).data.toList.length = 2 := by rw [← Lib.size_eq, ByteArray.size_extract]; omega
          rw [h5, h1] at this
          omega
        refine ⟨?_, ?_, by omega, by omega⟩
        · rw [extOk_yes, Bool.and_eq_true, decide_eq_true_eq, decide_eq_true_eq, hel]
          unfold extLen
          omega
        · unfold extB
          rw [if_pos rfl, hp, hm, hen, show a1 - at0 s = 2 + (2 + extLen s) by omega, List.take_add, List.take_add, List.drop_drop, List.drop_drop, List.append_assoc]
  · rw [if_neg hx, Option.some.injEq, Prod.mk.injEq, Prod.mk.injEq] at h
    obtain ⟨h1, h2, h3⟩ := h
    subst h1 h2 h3
    rw [decide_eq_false hx]
    refine ⟨rfl, ?_, by omega, h0⟩
    simp [extB]

theorem pad_told (s : ByteArray) (a pa fin : Nat) (h0 : a ≤ s.size) (h1 : 12 ≤ s.size) (h : padPart s a = some (pa, fin)) :
    s.data.toList.drop fin = padB pa ∧ a ≤ fin ∧ fin ≤ s.size ∧ pa ≤ 255 ∧ decide (0 < pa) = decide ((B0 s).toNat / 32 % 2 = 1) := by
  unfold padPart at h
  by_cases hx : (B0 s).toNat / 32 % 2 = 1
  · rw [if_pos hx] at h
    rw [decide_eq_true hx]
    by_cases h2 : (Bl s).toNat = 0 ∨ s.size - a < (Bl s).toNat
    · rw [if_pos h2] at h; cases h
    · rw [if_neg h2] at h
      by_cases hN : noughts (s.extract (s.size - (Bl s).toNat) (s.size - 1)).data.toList = true
      · rw [if_pos hN, Option.some.injEq, Prod.mk.injEq] at h
        obtain ⟨h3, h4⟩ := h
        rw [h3] at h2 hN h4
        have hb := (Bl s).toNat_lt
        have hl : s.data.toList.length = s.size := (Lib.size_eq s).symm
        refine ⟨?_, by omega, by omega, by omega, decide_eq_true (by omega)⟩
        rw [cutAt s.data.toList fin (s.size - 1) (by omega)]
        have e1 : (s.data.toList.drop fin).take (s.size - 1 - fin) = List.replicate (pa - 1) 0 := by
          have h5 := rep_noughts _ hN
          rw [Lib.extract_data, h4, List.length_take, List.length_drop, hl] at h5
          rw [h5]
          congr 1
          omega
        have e2 : s.data.toList.drop (s.size - 1) = [UInt8.ofNat pa] := by
          rw [List.drop_eq_getElem_cons (by omega), List.drop_of_length_le (by omega)]
          have h6 : s.data.toList[s.size - 1]'(by omega) = Bl s := by
            unfold Bl
            rw [List.getD_eq_getElem?_getD, List.getElem?_eq_getElem (by omega)]
            rfl
          rw [h6, ← h3, UInt8.ofNat_toNat]
        rw [e1, e2]
        unfold padB
        rw [if_neg (by omega)]
      · rw [if_neg hN] at h; cases h
  · rw [if_neg hx, Option.some.injEq, Prod.mk.injEq] at h
    obtain ⟨h3, h4⟩ := h
    subst h3 h4
    rw [decide_eq_false hx]
    refine ⟨?_, h0, by omega, by omega, rfl⟩
    rw [List.drop_of_length_le (by rw [← Lib.size_eq]; omega)]
    rfl

end Pk
end Go.Proofs.Ytdjhhnolcafkiaa
