/- What a report is read as, and that an asking for numbers that rise is read as it was: plain facts. -/
import Derived.Test.YtdjhhnolcafkiaaAsk
import Derived.Test.YtdjhhnolcafkiaaPure
namespace Go.Proofs.Ytdjhhnolcafkiaa
namespace Pk

/-- the numbers of one entry -/
def setOf (p bits : Nat) : List Int := ((List.range 16).filter fun i => bits.testBit i).map fun i => (((p + 1 + i) % 65536 : Nat) : Int)
def entNums (p bits : Nat) : List Int := (p : Int) :: setOf p bits
/-- the numbers of all entries -/
def entsR : List UInt8 → List Int
  | a :: b :: c :: d :: r => entNums (num [a, b]) (num [c, d]) ++ entsR r
  | _ => []
def partLen (l : List UInt8) : Nat := 4 + 4 * num ((l.drop 2).take 2)
/-- the askings among the parts -/
def partsR : Nat → List UInt8 → Option (List (Nat × Nat × List Int))
  | 0, l => if l = [] then some [] else none
  | n + 1, l =>
    if l = [] then some []
    else if l.length < 4 ∨ (l.getD 0 0).toNat / 32 ≠ 4 then none
    else if l.length < partLen l then none
    else if (l.getD 0 0).toNat % 32 = 1 ∧ (l.getD 1 0).toNat = 205 then
      if partLen l < 16 then none else (partsR n (l.drop (partLen l))).map ((num ((l.drop 4).take 4), num ((l.drop 8).take 4), entsR ((l.drop 12).take (partLen l - 12))) :: ·)
    else partsR n (l.drop (partLen l))
def partsF (l : List UInt8) : Option (List (Nat × Nat × List Int)) := partsR l.length l

theorem parts_fuel : ∀ (n m : Nat) (l : List UInt8), l.length ≤ n → l.length ≤ m → partsR n l = partsR m l := by
  intro n
  induction n with
  | zero =>
    intro m l h1 h2
    have e : l = [] := List.eq_nil_of_length_eq_zero (by omega)
    subst e
    cases m <;> rfl
  | succ n ih =>
    intro m l h1 h2
    by_cases e : l = []
    · subst e
      cases m <;> rfl
    · have hl : 0 < l.length := List.length_pos_iff.2 e
      cases m with
      | zero => omega
      | succ m =>
        have hd : (l.drop (partLen l)).length ≤ n ∧ (l.drop (partLen l)).length ≤ m := by
          rw [List.length_drop]
          unfold partLen
          omega
        have h := ih m (l.drop (partLen l)) hd.1 hd.2
        unfold partsR
        rw [h]

theorem partsF_nil : partsF [] = some [] := rfl
theorem partsF_step (l : List UInt8) (h : l ≠ []) : partsF l =
    if l.length < 4 ∨ (l.getD 0 0).toNat / 32 ≠ 4 then none
    else if l.length < partLen l then none
    else if (l.getD 0 0).toNat % 32 = 1 ∧ (l.getD 1 0).toNat = 205 then
      if partLen l < 16 then none else (partsF (l.drop (partLen l))).map ((num ((l.drop 4).take 4), num ((l.drop 8).take 4), entsR ((l.drop 12).take (partLen l - 12))) :: ·)
    else partsF (l.drop (partLen l)) := by
  have hl : 0 < l.length := List.length_pos_iff.2 h
  obtain ⟨n, hn⟩ : ∃ n, l.length = n + 1 := ⟨l.length - 1, by omega⟩
  have hf : partsR n (l.drop (partLen l)) = partsF (l.drop (partLen l)) := parts_fuel _ _ _ (by rw [List.length_drop]; unfold partLen; omega) (Nat.le_refl _)
  have e : partsF l = partsR (n + 1) l := by show partsR l.length l = _; rw [hn]
  rw [e, partsR, if_neg h, hf]

/-- what a report is read as -/
def repR (s : ByteArray) : Option (List (Nat × Nat × List Int)) := if s.size = 0 ∨ 1500 < s.size then none else partsF s.data.toList

/-! an asking is read again -/
theorem entsR_step (l : List UInt8) (h : 4 ≤ l.length) : entsR l = entNums (num (l.take 2)) (num ((l.drop 2).take 2)) ++ entsR (l.drop 4) := by
  match l, h with
  | a :: b :: c :: d :: r, _ => rfl
theorem entB_cons (p : Nat × Nat) (E : List (Nat × Nat)) : entB (p :: E) = told p.1 2 ++ (told p.2 2 ++ entB E) := by
  simp [entB]
theorem entB_length (E : List (Nat × Nat)) : (entB E).length = 4 * E.length := by
  induction E with
  | nil => rfl
  | cons p E ih => rw [entB_cons, List.length_append, List.length_append, told_length, told_length, ih, List.length_cons]; omega
theorem entsR_entB (E : List (Nat × Nat)) (h : OkE E) : entsR (entB E) = E.flatMap fun p => entNums p.1 p.2 := by
  induction E with
  | nil => rfl
  | cons p E ih =>
    have hp := h p (by simp)
    have hE := ih (fun q hq => h q (by simp [hq]))
    rw [entsR_step _ (by rw [entB_length, List.length_cons]; omega)]
    have e1 : (entB (p :: E)).take 2 = told p.1 2 := by rw [entB_cons]; exact List.take_left' (told_length _ _)
    have e2 : (entB (p :: E)).drop 2 = told p.2 2 ++ entB E := by rw [entB_cons]; exact List.drop_left' (told_length _ _)
    have e3 : ((entB (p :: E)).drop 2).take 2 = told p.2 2 := by rw [e2]; exact List.take_left' (told_length _ _)
    have e4 : (entB (p :: E)).drop 4 = entB E := by
      rw [show (4 : Nat) = 2 + 2 from rfl, ← List.drop_drop, e2]
      exact List.drop_left' (told_length _ _)
    rw [e1, e3, e4, num_told 2 p.1 (by omega), num_told 2 p.2 (by omega), hE, List.flatMap_cons]

theorem askB_length (se so : Nat) (E : List (Nat × Nat)) : (askB se so E).length = 12 + 4 * E.length := by
  unfold askB
  rw [List.length_append, List.length_append, List.length_append, List.length_append, told_length, told_length, told_length, entB_length]
  rfl

theorem partsF_ask (se so : Nat) (E : List (Nat × Nat)) (r : List UInt8) (hse : se < 4294967296) (hso : so < 4294967296) (hE : OkE E) (h1 : 1 ≤ E.length) (h2 : E.length ≤ 300) :
    partsF (askB se so E ++ r) = (partsF r).map ((se, so, E.flatMap fun p => entNums p.1 p.2) :: ·) := by
  have e : askB se so E ++ r = 129 :: 205 :: (told (2 + E.length) 2 ++ (told se 4 ++ (told so 4 ++ (entB E ++ r)))) := by simp [askB]
  have d2 : (askB se so E ++ r).drop 2 = told (2 + E.length) 2 ++ (told se 4 ++ (told so 4 ++ (entB E ++ r))) := by rw [e]; rfl
  have d4 : (askB se so E ++ r).drop 4 = told se 4 ++ (told so 4 ++ (entB E ++ r)) := by
    rw [show (4 : Nat) = 2 + 2 from rfl, ← List.drop_drop, d2]; exact List.drop_left' (told_length _ _)
  have d8 : (askB se so E ++ r).drop 8 = told so 4 ++ (entB E ++ r) := by
    rw [show (8 : Nat) = 4 + 4 from rfl, ← List.drop_drop, d4]; exact List.drop_left' (told_length _ _)
  have d12 : (askB se so E ++ r).drop 12 = entB E ++ r := by
    rw [show (12 : Nat) = 8 + 4 from rfl, ← List.drop_drop, d8]; exact List.drop_left' (told_length _ _)
  have hL : partLen (askB se so E ++ r) = 12 + 4 * E.length := by
    unfold partLen
    rw [d2, List.take_left' (told_length _ _), num_told 2 (2 + E.length) (by omega)]
    omega
  have hd : (askB se so E ++ r).drop (12 + 4 * E.length) = r := List.drop_left' (askB_length se so E)
  have hlen : (askB se so E ++ r).length = 12 + 4 * E.length + r.length := by rw [List.length_append, askB_length]
  have g0 : (askB se so E ++ r).getD 0 0 = 129 := by rw [e]; rfl
  have g1 : (askB se so E ++ r).getD 1 0 = 205 := by rw [e]; rfl
  rw [partsF_step _ (by rw [e]; simp), g0, g1, hL, hd, hlen, d4, d8, d12, List.take_left' (told_length _ _), List.take_left' (told_length _ _), num_told 4 se (by omega), num_told 4 so (by omega)]
  have e5 : (entB E ++ r).take (12 + 4 * E.length - 12) = entB E := List.take_left' (by rw [entB_length]; omega)
  rw [e5, entsR_entB E hE, if_neg (by simp; omega), if_neg (by omega), if_pos (by decide), if_neg (by omega)]

/-- another part -/
theorem partsF_other (n : Nat) (o r : List UInt8) (hn : n < 65536) (ho : o.length = 4 * n) : partsF ([128, 200] ++ told n 2 ++ o ++ r) = partsF r := by
  have e : [128, 200] ++ told n 2 ++ o ++ r = 128 :: 200 :: (told n 2 ++ (o ++ r)) := by simp
  have d2 : ([128, 200] ++ told n 2 ++ o ++ r).drop 2 = told n 2 ++ (o ++ r) := by rw [e]; rfl
  have hL : partLen ([128, 200] ++ told n 2 ++ o ++ r) = 4 + 4 * n := by
    unfold partLen
    rw [d2, List.take_left' (told_length _ _), num_told 2 n (by omega)]
  have hl : ([128, 200] ++ told n 2 ++ o).length = 4 + 4 * n := by rw [List.length_append, List.length_append, told_length, ho]; rfl
  have hd : ([128, 200] ++ told n 2 ++ o ++ r).drop (4 + 4 * n) = r := List.drop_left' hl
  have g0 : ([128, 200] ++ told n 2 ++ o ++ r).getD 0 0 = 128 := by rw [e]; rfl
  have g1 : ([128, 200] ++ told n 2 ++ o ++ r).getD 1 0 = 200 := by rw [e]; rfl
  rw [partsF_step _ (by rw [e]; simp), g0, g1, hL, hd, List.length_append, hl, if_neg (by simp; omega), if_neg (by omega), if_neg (by decide)]

/-! numbers that rise -/
theorem setOf_add (p a e : Nat) (ha : a < 2 ^ e) (he : e < 16) : setOf p (a ||| 2 ^ e) = setOf p a ++ [(((p + 1 + e) % 65536 : Nat) : Int)] := by
  unfold setOf
  have hr : List.range 16 = List.range e ++ (e :: (List.range (15 - e)).map (fun i => e + 1 + i)) := by
    apply List.ext_getElem
    · simp; omega
    · intro i h1 h2
      simp only [List.getElem_range, List.getElem_append, List.length_range]
      split
      · rfl
      · rename_i hi
        rw [List.getElem_cons]
        split
        · omega
        · simp; omega
  have f1 : ∀ i, i < e → (a ||| 2 ^ e).testBit i = a.testBit i := fun i hi => by
    rw [Nat.testBit_or, Nat.testBit_two_pow_of_ne (by omega), Bool.or_false]
  have f2 : ∀ i, e ≤ i → a.testBit i = false := fun i hi => Nat.testBit_lt_two_pow (Nat.lt_of_lt_of_le ha (Nat.pow_le_pow_right (by omega) hi))
  have f3 : (a ||| 2 ^ e).testBit e = true := by rw [Nat.testBit_or, Nat.testBit_two_pow_self, Bool.or_true]
  have f4 : ∀ i, e < i → (a ||| 2 ^ e).testBit i = false := fun i hi => by rw [Nat.testBit_or, f2 i (by omega), Nat.testBit_two_pow_of_ne (by omega)]; rfl
  have t1 : (List.range e).filter (fun i => (a ||| 2 ^ e).testBit i) = (List.range e).filter (fun i => a.testBit i) := List.filter_congr (fun i hi => f1 i (List.mem_range.1 hi))
  have t2 : ((List.range (15 - e)).map (fun i => e + 1 + i)).filter (fun i => (a ||| 2 ^ e).testBit i) = [] := by
    rw [List.filter_eq_nil_iff]
    intro i hi
    obtain ⟨j, _, rfl⟩ := List.mem_map.1 hi
    rw [f4 _ (by omega)]
    simp
  have t3 : (e :: (List.range (15 - e)).map (fun i => e + 1 + i)).filter (fun i => a.testBit i) = [] := by
    rw [List.filter_eq_nil_iff]
    intro i hi
    rcases List.mem_cons.1 hi with rfl | hi
    · rw [f2 i (Nat.le_refl _)]; simp
    · obtain ⟨j, _, rfl⟩ := List.mem_map.1 hi
      rw [f2 _ (by omega)]; simp
  rw [hr, List.filter_append, List.filter_append, t1, t3, List.filter_cons, f3, if_pos rfl, t2, List.append_nil, List.map_append]
  rfl

/-- each number is 1 to 300 ahead of the one before it, round -/
def Rises : List Int → Prop
  | a :: b :: r => (∃ s : Nat, 1 ≤ s ∧ s ≤ 300 ∧ b = (a + s) % 65536) ∧ Rises (b :: r)
  | _ => True

def In16 (l : List Int) : Prop := ∀ n ∈ l, 0 ≤ n ∧ n ≤ 65535

/-- what stands in an entry whose last number is n: the bits are below it -/
def Last (E : List (Nat × Nat)) (n : Nat) : Prop := ∃ I f a, E = I ++ [(f, a)] ∧ f < 65536 ∧ stepsTo n f ≤ 16 ∧ a < 2 ^ stepsTo n f

theorem steps_self (n : Nat) (_h : n < 65536) : stepsTo n n = 0 := by unfold stepsTo; omega
theorem steps_add (n f s : Nat) (hn : n < 65536) (hf : f < 65536) (hd : stepsTo n f ≤ 16) (hs : s ≤ 300) : stepsTo ((n + s) % 65536) f = stepsTo n f + s := by
  unfold stepsTo at *
  omega
theorem steps_back (n f : Nat) (hn : n < 65536) (_hf : f < 65536) (h1 : 1 ≤ stepsTo n f) : (f + 1 + (stepsTo n f - 1)) % 65536 = n := by
  unfold stepsTo at *
  omega

theorem one_zero (p : Nat) : List.flatMap (fun p => entNums p.1 p.2) [(p, 0)] = [(p : Int)] := by simp [entNums, setOf]

/-- one more number that rises: what is read is one more -/
theorem read_push (E : List (Nat × Nat)) (n s : Nat) (hn : n < 65536) (h1 : 1 ≤ s) (h2 : s ≤ 300) (hL : Last E n) :
    (pushE E ((n + s) % 65536)).flatMap (fun p => entNums p.1 p.2) = E.flatMap (fun p => entNums p.1 p.2) ++ [(((n + s) % 65536 : Nat) : Int)] ∧ Last (pushE E ((n + s) % 65536)) ((n + s) % 65536) := by
  obtain ⟨I, f, a, rfl, hf, hd, ha⟩ := hL
  have hd' := steps_add n f s hn hf hd h2
  have hm : (n + s) % 65536 < 65536 := Nat.mod_lt _ (by decide)
  by_cases hc : stepsTo ((n + s) % 65536) f ≤ 16
  · have h1' : 1 ≤ stepsTo ((n + s) % 65536) f := by omega
    rw [pushE_yes I f a _ h1' hc]
    have hb := steps_back ((n + s) % 65536) f hm hf h1'
    have hae : a < 2 ^ (stepsTo ((n + s) % 65536) f - 1) := Nat.lt_of_lt_of_le ha (Nat.pow_le_pow_right (by omega) (by omega))
    refine ⟨?_, I, f, _, rfl, hf, hc, ?_⟩
    · rw [List.flatMap_append, List.flatMap_append, List.append_assoc]
      congr 1
      simp only [List.flatMap_cons, List.flatMap_nil, List.append_nil, entNums]
      rw [setOf_add f a _ hae (by omega), hb]
      rfl
    · have e : stepsTo ((n + s) % 65536) f = stepsTo ((n + s) % 65536) f - 1 + 1 := by omega
      generalize stepsTo ((n + s) % 65536) f - 1 = d at *
      rw [e]
      exact Nat.or_lt_two_pow (Nat.lt_of_lt_of_le hae (Nat.pow_le_pow_right (by omega) (by omega))) (Nat.pow_lt_pow_right (by omega) (by omega))
  · rw [pushE_no I f a _ (by omega)]
    refine ⟨?_, I ++ [(f, a)], (n + s) % 65536, 0, rfl, hm, by rw [steps_self _ hm]; omega, by rw [steps_self _ hm]; decide⟩
    rw [List.flatMap_append (xs := I ++ [(f, a)]), one_zero]

theorem read_rises : ∀ (l : List Int) (E : List (Nat × Nat)) (n : Nat), n < 65536 → Last E n → Rises ((n : Int) :: l) → In16 l →
    (l.foldl (fun E n => pushE E n.toNat) E).flatMap (fun p => entNums p.1 p.2) = E.flatMap (fun p => entNums p.1 p.2) ++ l := by
  intro l
  induction l with
  | nil => intro E n _ _ _ _; simp
  | cons b l ih =>
    intro E n hn hL hr hi
    obtain ⟨⟨s, h1, h2, hb⟩, hr'⟩ := hr
    have hbn : b = (((n + s) % 65536 : Nat) : Int) := by rw [hb]; omega
    obtain ⟨e1, e2⟩ := read_push E n s hn h1 h2 hL
    rw [List.foldl_cons, hbn, Int.toNat_natCast, ih _ ((n + s) % 65536) (Nat.mod_lt _ (by decide)) e2 (by rw [← hbn]; exact hr') (fun m hm => hi m (by simp [hm])), e1, List.append_assoc]
    rfl

/-- numbers that rise are read as they were -/
theorem read_entries (l : List Int) (hl : l ≠ []) (hr : Rises l) (hi : In16 l) : (entriesF l).flatMap (fun p => entNums p.1 p.2) = l := by
  cases l with
  | nil => exact absurd rfl hl
  | cons b l =>
    have hb := hi b (by simp)
    obtain ⟨n, rfl⟩ := Int.eq_ofNat_of_zero_le hb.1
    have hn : n < 65536 := by omega
    unfold entriesF
    rw [List.foldl_cons, Int.toNat_natCast, pushE_nil, read_rises l _ n hn ⟨[], n, 0, rfl, hn, by rw [steps_self n hn]; omega, by rw [steps_self n hn]; decide⟩ hr (fun m hm => hi m (by simp [hm])), List.nil_append, one_zero]
    rfl

end Pk
end Go.Proofs.Ytdjhhnolcafkiaa
