/- wire.ReadReport, mender.ParseReport: what a report is read as. -/
import Derived.Test.YtdjhhnolcafkiaaRepEnt
import Derived.Test.YtdjhhnolcafkiaaAsks
import Derived.Test.YtdjhhnolcafkiaaJump
namespace Go.Proofs.Ytdjhhnolcafkiaa
open Go.RowKit
namespace Pk

def wrongR : Value := .tuple #[.slice none 0 0, .int .i64 1]
/-- what is answered -/
def RepAs (r : Option (List (Nat × Nat × List Int))) (B : Nat) (e : Ending) (w : World) : Prop :=
  match r with
  | some L => ∃ lv xs, e = .returned (.tuple #[lv, .int .i64 0]) ∧ OwnAsks w B lv xs ∧ xs.map (fun x => (x.a, x.b, x.l)) = L.map (fun y => ((y.1 : Int), (y.2.1 : Int), y.2.2))
  | none => e = .returned wrongR

theorem low5 (b : UInt8) : bits .and .u8 (b.toNat : Int) 31 = ((b.toNat % 32 : Nat) : Int) := by
  have hb := b.toNat_lt
  have h := u8_and_nat b.toNat 31 (by omega) (by omega)
  rw [show (31 : Nat) = 2 ^ 5 - 1 from rfl, Nat.and_two_pow_sub_one_eq_mod] at h
  exact h
def mapN (L : List (Nat × Nat × List Int)) : List (Int × Int × List Int) := L.map fun y => ((y.1 : Int), (y.2.1 : Int), y.2.2)
def mapA (xs : List Ask1) : List (Int × Int × List Int) := xs.map fun x => (x.a, x.b, x.l)

/-- what is still to be read, behind what has been -/
def RestR (s t : ByteArray) (xs : List Ask1) : Prop := ∃ D : List (Nat × Nat × List Int), mapA xs = mapN D ∧ partsF s.data.toList = (partsF t.data.toList).map (D ++ ·)

theorem RestR.start (s : ByteArray) : RestR s s [] := ⟨[], rfl, by simp⟩
theorem RestR.wrong {s t : ByteArray} {xs : List Ask1} (h : RestR s t xs) (h2 : partsF t.data.toList = none) : partsF s.data.toList = none := by
  obtain ⟨D, _, h3⟩ := h
  rw [h3, h2]
  rfl
theorem RestR.done {s t : ByteArray} {xs : List Ask1} (h : RestR s t xs) (h2 : t.size = 0) : ∃ L, partsF s.data.toList = some L ∧ mapA xs = mapN L := by
  obtain ⟨D, h1, h3⟩ := h
  refine ⟨D, ?_, h1⟩
  rw [h3, show t.data.toList = [] from List.eq_nil_of_length_eq_zero (by rw [← Lib.size_eq]; exact h2), partsF_nil]
  simp
theorem RestR.skip {s t u : ByteArray} {xs : List Ask1} (h : RestR s t xs) (h2 : partsF t.data.toList = partsF u.data.toList) : RestR s u xs := by
  obtain ⟨D, h1, h3⟩ := h
  exact ⟨D, h1, by rw [h3, h2]⟩
theorem RestR.take {s t u : ByteArray} {xs : List Ask1} {x : Ask1} {a b : Nat} (h : RestR s t xs) (h2 : partsF t.data.toList = (partsF u.data.toList).map ((a, b, x.l) :: ·)) (ha : x.a = a) (hb : x.b = b) : RestR s u (xs ++ [x]) := by
  obtain ⟨D, h1, h3⟩ := h
  refine ⟨D ++ [(a, b, x.l)], ?_, ?_⟩
  · unfold mapA mapN at *
    rw [List.map_append, List.map_append, h1]
    simp [ha, hb]
  · rw [h3, h2, Option.map_map]
    congr 1
    funext L
    simp

/-- the length of a part -/
def pLen (t : ByteArray) : Nat := 4 + 4 * num (t.extract 2 4).data.toList
theorem pLen_eq (t : ByteArray) (_h : 4 ≤ t.size) : partLen t.data.toList = pLen t := by
  unfold partLen pLen
  rw [Lib.extract_data]
theorem num_lt_two (l : List UInt8) (h : l.length ≤ 2) : num l < 65536 := by
  match l, h with
  | [], _ => simp [num]
  | [a], _ => have := a.toNat_lt; simp [num]; omega
  | [a, b], _ => exact num_two_lt a b
theorem list_ne (t : ByteArray) (h : 0 < t.size) : t.data.toList ≠ [] := fun e => by
  have h2 : t.data.toList.length = 0 := by rw [e]; rfl
  rw [← Lib.size_eq] at h2
  omega
theorem parts_short (t : ByteArray) (h0 : 0 < t.size) (h : t.size < 4) : partsF t.data.toList = none := by
  rw [partsF_step _ (list_ne t h0), if_pos (.inl (by rw [← Lib.size_eq]; exact h))]
theorem parts_mark (t : ByteArray) (h0 : 0 < t.size) (h : (byteAt t 0).toNat / 32 ≠ 4) : partsF t.data.toList = none := by
  rw [partsF_step _ (list_ne t h0), if_pos (.inr h)]
theorem parts_long (t : ByteArray) (h4 : 4 ≤ t.size) (h : t.size < pLen t) : partsF t.data.toList = none := by
  rw [partsF_step _ (list_ne t (by omega)), pLen_eq t h4, ← Lib.size_eq, if_pos h]
  split <;> rfl
theorem drop_eq (t : ByteArray) (n : Nat) (_h : n ≤ t.size) : t.data.toList.drop n = (t.extract n t.size).data.toList := by
  rw [Lib.extract_data, List.take_of_length_le (by rw [List.length_drop, ← Lib.size_eq]; exact Nat.le_refl _)]
theorem parts_other (t : ByteArray) (h4 : 4 ≤ t.size) (hm : (byteAt t 0).toNat / 32 = 4) (h : pLen t ≤ t.size) (hn : ¬ ((byteAt t 0).toNat % 32 = 1 ∧ (byteAt t 1).toNat = 205)) : partsF t.data.toList = partsF (t.extract (pLen t) t.size).data.toList := by
  unfold byteAt at *
  rw [partsF_step _ (list_ne t (by omega)), pLen_eq t h4, ← Lib.size_eq, if_neg (by rintro (e | e); omega; exact e hm), if_neg (by omega), if_neg hn, drop_eq t _ h]
theorem parts_small (t : ByteArray) (h4 : 4 ≤ t.size) (hm : (byteAt t 0).toNat / 32 = 4) (h : pLen t ≤ t.size) (hn : (byteAt t 0).toNat % 32 = 1 ∧ (byteAt t 1).toNat = 205) (h16 : pLen t < 16) : partsF t.data.toList = none := by
  unfold byteAt at *
  rw [partsF_step _ (list_ne t (by omega)), pLen_eq t h4, ← Lib.size_eq, if_neg (by rintro (e | e); omega; exact e hm), if_neg (by omega), if_pos hn, if_pos h16]
theorem parts_ask (t : ByteArray) (h4 : 4 ≤ t.size) (hm : (byteAt t 0).toNat / 32 = 4) (h : pLen t ≤ t.size) (hn : (byteAt t 0).toNat % 32 = 1 ∧ (byteAt t 1).toNat = 205) (h16 : 16 ≤ pLen t) :
    partsF t.data.toList = (partsF (t.extract (pLen t) t.size).data.toList).map ((num ((t.extract 0 (pLen t)).extract 4 8).data.toList, num ((t.extract 0 (pLen t)).extract 8 12).data.toList, entsR ((t.extract 0 (pLen t)).extract 12 (t.extract 0 (pLen t)).size).data.toList) :: ·) := by
  unfold byteAt at *
  rw [partsF_step _ (list_ne t (by omega)), pLen_eq t h4, ← Lib.size_eq, if_neg (by rintro (e | e); omega; exact e hm), if_neg (by omega), if_pos hn, if_neg (by omega), drop_eq t _ h]
  have hs : (t.extract 0 (pLen t)).size = pLen t := by rw [ByteArray.size_extract]; omega
  rw [hs]
  generalize pLen t = n at *
  have e1 : ∀ a b, b ≤ n → ((t.extract 0 n).extract a b).data.toList = (t.data.toList.drop a).take (b - a) := fun a b hb => by
    rw [Lib.extract_data, Lib.extract_data, List.drop_zero, Nat.sub_zero, List.drop_take, List.take_take, Nat.min_eq_left (by omega)]
  rw [e1 4 8 (by omega), e1 8 12 (by omega), e1 12 n (Nat.le_refl _)]

end Pk
open Pk

set_option maxRecDepth 20000 in
set_option maxHeartbeats 2000000 in
theorem readReport_mid (s : ByteArray) (w : World) (h0 : 0 < s.size) (hs : s.size ≤ 1500) :
    Calls Try.prog 49 #[.string s] w fun e w' => Below w.heap.size w w' ∧ RepAs (partsF s.data.toList) w.heap.size e w' := by
  have hne : s.toList.isEmpty = false := by rw [isEmpty_size]; exact decide_eq_false (by omega)
  have hsi : (s.size : Int) ≤ 1500 := by omega
  go_enter Try.func49, Try.ntmps49
  go_wp2
  refine wp_scope_fwd 0 rfl ?_
  go_wp2
  go_loopw [4, 5] (fun s4 s5 wr => ∃ (t : ByteArray) (xs : List Ask1), s5 = .string t ∧ RestR s t xs ∧ 16 * xs.length + t.size ≤ s.size ∧ OwnAsks wr w.heap.size s4 xs ∧ Below w.heap.size w wr) (fun _ s5 _ => strLen s5)
  case atStart => exact ⟨s, [], rfl, RestR.start s, by simp, OwnAsks.nil _ _, Below.refl _ _⟩
  case round =>
    obtain ⟨t, xs, rfl, hR, hlen, hown, hb⟩ := hrel
    have HR : Hid (RestR s t xs) := hR
    obtain ⟨a1, c1, rfl⟩ := rowA_shape hown.row
    have Hown : Hid (OwnAsks wr w.heap.size (.slice a1 xs.length c1) xs) := hown
    have Hb : Hid (Below w.heap.size w wr) := hb
    have hws := hb.size
    clear hR hown hb
    have hg0 : ∀ e w', e = .returned wrongR → Below w.heap.size w w' → partsF t.data.toList = none → Below w.heap.size w w' ∧ RepAs (partsF s.data.toList) w.heap.size e w' := fun e w' he hbe hpe => by
      refine ⟨hbe, ?_⟩
      rw [HR.out.wrong hpe]
      exact he
    have Hg0 : Hid (∀ e w', e = .returned wrongR → Below w.heap.size w w' → partsF t.data.toList = none → Below w.heap.size w w' ∧ RepAs (partsF s.data.toList) w.heap.size e w') := hg0
    clear hg0
    by_cases h0 : t.size = 0
    · have hne : t.toList.isEmpty = true := by rw [isEmpty_size]; exact decide_eq_true h0
      go_wp2
      refine jump_ret 0 ?_
      go_ret2
      refine ⟨Hb.out, ?_⟩
      obtain ⟨L, hL, hm⟩ := HR.out.done h0
      rw [hL]
      exact ⟨_, xs, rfl, Hown.out, hm⟩
    have hne : t.toList.isEmpty = false := by rw [isEmpty_size]; exact decide_eq_false h0
    by_cases h4 : t.size < 4
    · have h4i : (t.size : Int) < 4 := by omega
      have Hn : Hid (partsF t.data.toList = none) := parts_short t (by omega) h4
      go_wp2
      go_step3
      refine jump_here 0 ?_
      go_wp2
      rw [Exit.noGoto_ret]
      go_ret2
      exact Hg0.out _ _ rfl Hb.out Hn.out
    have h4i : ¬ (t.size : Int) < 4 := by omega
    have h4j : (4 : Int) ≤ t.size := by omega
    have j0 : ∀ W : World, (Instr.index 9 (.string t) (.int .i64 0)).run Try.prog W = .ok (.int .u8 ((byteAt t 0).toNat : Int)) W := fun W => index_at t 0 (by omega) W
    have j1 : ∀ W : World, (Instr.index 9 (.string t) (.int .i64 1)).run Try.prog W = .ok (.int .u8 ((byteAt t 1).toNat : Int)) W := fun W => index_at t 1 (by omega) W
    have hb0 := (byteAt t 0).toNat_lt
    have hb1 := (byteAt t 1).toNat_lt
    by_cases hm : (byteAt t 0).toNat / 32 = 4
    case neg =>
      have Hn : Hid (partsF t.data.toList = none) := parts_mark t (by omega) hm
      have hmi : (((byteAt t 0).toNat : Int) / 32 != 4) = true := by rw [bne_iff_ne]; omega
      clear hm
      go_wp2
      go_step3
      refine jump_here 0 ?_
      go_wp2
      rw [Exit.noGoto_ret]
      go_ret2
      exact Hg0.out _ _ rfl Hb.out Hn.out
    have hmi : (((byteAt t 0).toNat : Int) / 32 != 4) = false := by rw [bne_eq_false_iff_eq]; omega
    have Hm : Hid ((byteAt t 0).toNat / 32 = 4) := hm
    have hl5 := low5 (byteAt t 0)
    have HP : Hid (pLen t = 4 + 4 * num (t.extract 2 4).data.toList) := rfl
    have hnl := num_lt_two (t.extract 2 4).data.toList (by rw [← Lib.size_eq, ByteArray.size_extract]; omega)
    clear hm
    by_cases hp : t.size < pLen t
    · have Hn : Hid (partsF t.data.toList = none) := parts_long t (by omega) hp
      have hpi : (t.size : Int) < 4 + 4 * (num (t.extract 2 4).data.toList : Int) := by have := HP.out; omega
      generalize hq : num (t.extract 2 4).data.toList = q at *
      have Hq : Hid (num (t.extract 2 4).data.toList = q) := hq
      clear hq hp
      go_wp2_with fail
      refine (readNumber_any _ _ (by simp only [ByteArray.size_extract]; omega)).mono ?_
      rintro e w1 ⟨rfl, hw1e⟩
      rw [Hq.out, hw1e]
      clear hw1e w1
      go_wp2
      go_step3
      refine jump_here 0 ?_
      go_wp2
      rw [Exit.noGoto_ret]
      go_ret2
      exact Hg0.out _ _ rfl Hb.out Hn.out
    have hpi : 4 + 4 * (num (t.extract 2 4).data.toList : Int) ≤ (t.size : Int) := by have := HP.out; omega
    have HPs : Hid (pLen t ≤ t.size) := by show _ ≤ _; omega
    have Hp4 : Hid (pLen t % 4 = 0) := by show _ = _; have := HP.out; omega
    clear hp
    generalize hq : num (t.extract 2 4).data.toList = q at *
    have Hq : Hid (num (t.extract 2 4).data.toList = q) := hq
    clear hq
    by_cases hf : (byteAt t 0).toNat % 32 = 1
    case neg =>
      have Hsk : Hid (RestR s (t.extract (4 + 4 * q) t.size) xs) := by
        show RestR _ _ _
        rw [← HP.out]
        exact HR.out.skip (parts_other t (by omega) Hm.out HPs.out (fun e => hf e.1))
      have hfi : ((((byteAt t 0).toNat % 32 : Nat) : Int) == 1) = false := by rw [beq_eq_false_iff_ne]; omega
      clear hf
      generalize (byteAt t 0).toNat % 32 = f5 at *
      go_wp2_with fail
      refine (readNumber_any _ _ (by simp only [ByteArray.size_extract]; omega)).mono ?_
      rintro e w1 ⟨rfl, hw1e⟩
      rw [Hq.out, hw1e]
      clear hw1e w1
      go_wp2
      go_roundw
      case rel => exact ⟨_, xs, rfl, Hsk.out, by simp only [ByteArray.size_extract]; omega, Hown.out, Hb.out⟩
      case measure => simp only [strLen, ByteArray.size_extract]; omega
    by_cases hk : (byteAt t 1).toNat = 205
    case neg =>
      have Hsk : Hid (RestR s (t.extract (4 + 4 * q) t.size) xs) := by
        show RestR _ _ _
        rw [← HP.out]
        exact HR.out.skip (parts_other t (by omega) Hm.out HPs.out (fun e => hk e.2))
      have hfi : ((((byteAt t 0).toNat % 32 : Nat) : Int) == 1) = true := by rw [beq_iff_eq]; omega
      have hki : (((byteAt t 1).toNat : Int) == 205) = false := by rw [beq_eq_false_iff_ne]; omega
      clear hf hk
      generalize (byteAt t 0).toNat % 32 = f5 at *
      generalize (byteAt t 1).toNat = k5 at *
      go_wp2_with fail
      refine (readNumber_any _ _ (by simp only [ByteArray.size_extract]; omega)).mono ?_
      rintro e w1 ⟨rfl, hw1e⟩
      rw [Hq.out, hw1e]
      clear hw1e w1
      go_wp2
      go_roundw
      case rel => exact ⟨_, xs, rfl, Hsk.out, by simp only [ByteArray.size_extract]; omega, Hown.out, Hb.out⟩
      case measure => simp only [strLen, ByteArray.size_extract]; omega
    by_cases h16 : pLen t < 16
    · have Hn : Hid (partsF t.data.toList = none) := parts_small t (by omega) Hm.out HPs.out ⟨hf, hk⟩ h16
      have h16i : 4 + 4 * (q : Int) < 16 := by have := HP.out; omega
      have hfi : ((((byteAt t 0).toNat % 32 : Nat) : Int) == 1) = true := by rw [beq_iff_eq]; omega
      have hki : (((byteAt t 1).toNat : Int) == 205) = true := by rw [beq_iff_eq]; omega
      clear hf hk h16
      generalize (byteAt t 0).toNat % 32 = f5 at *
      generalize (byteAt t 1).toNat = k5 at *
      go_wp2_with fail
      refine (readNumber_any _ _ (by simp only [ByteArray.size_extract]; omega)).mono ?_
      rintro e w1 ⟨rfl, hw1e⟩
      rw [Hq.out, hw1e]
      clear hw1e w1
      go_wp2
      go_step3
      refine jump_here 0 ?_
      go_wp2
      rw [Exit.noGoto_ret]
      go_ret2
      exact Hg0.out _ _ rfl Hb.out Hn.out
    have Hpa : Hid (partsF t.data.toList = _) := parts_ask t (by omega) Hm.out HPs.out ⟨hf, hk⟩ (by omega)
    have h16i : ¬ 4 + 4 * (q : Int) < 16 := by have := HP.out; omega
    have hfi : ((((byteAt t 0).toNat % 32 : Nat) : Int) == 1) = true := by rw [beq_iff_eq]; omega
    have hki : (((byteAt t 1).toNat : Int) == 205) = true := by rw [beq_iff_eq]; omega
    have hq16 : 16 ≤ 4 + 4 * q := by omega
    have hqs : 4 + 4 * q ≤ t.size := by omega
    rw [HP.out] at Hpa
    clear hf hk h16
    generalize (byteAt t 0).toNat % 32 = f5 at *
    generalize (byteAt t 1).toNat = k5 at *
    go_wp2_with fail
    refine (readNumber_any _ _ (by simp only [ByteArray.size_extract]; omega)).mono ?_
    rintro e w1 ⟨rfl, hw1e⟩
    rw [Hq.out, hw1e]
    clear hw1e w1
    go_wp2_with fail
    have hex : (t.extract 0 (4 + 4 * q)).size = 4 + 4 * q := by simp only [ByteArray.size_extract]; omega
    refine (readAsking_any _ _ (by omega) (by omega) (by omega)).mono ?_
    rintro e w1 ⟨v, rfl, hown1, hb1⟩
    obtain ⟨a2, c2, rfl⟩ := hown1.shape
    have Ho1 : Hid (OwnInts w1 wr.heap.size (.slice a2 (entsR ((t.extract 0 (4 + 4 * q)).extract 12 (t.extract 0 (4 + 4 * q)).size).data.toList).length c2) (entsR ((t.extract 0 (4 + 4 * q)).extract 12 (t.extract 0 (4 + 4 * q)).size).data.toList)) := hown1
    have Hb1 : Hid (Below wr.heap.size wr w1) := hb1
    have hws1 := hb1.size
    have hle : (entsR ((t.extract 0 (4 + 4 * q)).extract 12 (t.extract 0 (4 + 4 * q)).size).data.toList).length ≤ 6400 := by
      have := entsR_length q ((t.extract 0 (4 + 4 * q)).extract 12 (t.extract 0 (4 + 4 * q)).size).data.toList (by rw [← Lib.size_eq, ByteArray.size_extract]; omega)
      omega
    clear hown1 hb1
    generalize hee : entsR ((t.extract 0 (4 + 4 * q)).extract 12 (t.extract 0 (4 + 4 * q)).size).data.toList = el at *
    generalize hsa : num ((t.extract 0 (4 + 4 * q)).extract 4 8).data.toList = sa at *
    generalize hsb : num ((t.extract 0 (4 + 4 * q)).extract 8 12).data.toList = sb at *
    clear hee hsa hsb
    have hinfo := asks_info
    obtain ⟨i0, hi, hz0, hz1, hz2⟩ := info_parts hinfo
    have Hi : Hid (Try.prog.info? 40 = some i0 ∧ i0.zero = some (.agg #[.int .i64 0, .int .i64 0, .slice none 0 0]) ∧ i0.size = 3 ∧ i0.bytes = 40) := ⟨hi, hz0, hz1, hz2⟩
    clear hi hz0 hz1 hz2 hinfo
    go_wp2_with (at_builtin; (
      refine wpList_append_at rfl (.tmp 46) (.tmp 51) 37 rfl w.heap.size 40 i0 _ 3 40 Try.underlying37 Hi.out rfl (by decide) _ xs.length (flatA xs) rfl ((rowN_chg (Chg.ofBelow (T := fun _ => False) Hb1.out) Hown.out.row (fun _ _ e => e)).alloc _) _ 1 1 [.int .i64 sa, .int .i64 sb, .slice a2 el.length c2] rfl rfl (cells_new _ [.int .i64 sa, .int .i64 sb, .slice a2 el.length c2] _) ?_ (by unfold maxLen; omega) (by omega) (by simp; omega) ?_
      · intro u hu; simp at hu; rcases hu with rfl | rfl | rfl <;> rfl
      intro v' w2 hown' hgrow hob
      refine stop_here ?_))
    have Ha2 : Hid (OwnAsks w2 w.heap.size v' (xs ++ [⟨sa, sb, .slice a2 el.length c2, el⟩])) := by
      refine OwnAsks.snoc (x := ⟨sa, sb, .slice a2 el.length c2, el⟩) Hown.out (Hb1.out.alloc hws1 _) (Ho1.out.alloc _) hle hws hown' hgrow ?_
      rcases hob with h | h
      · exact .inl h
      · exact .inr (fun b hb => by rw [h] at hb; simp at hb; simp; omega)
    have Hb2 : Hid (Below w.heap.size w w2) := (Hb.out.trans ((Hb1.out.mono hws).alloc (Nat.le_trans hws hws1) _)).grown hgrow (by simp; omega) (fun x hx => (World.ownsRow.lt Hown.out.row x hx).1)
    have Hrs : Hid (RestR s (t.extract (4 + 4 * q) t.size) (xs ++ [⟨sa, sb, .slice a2 el.length c2, el⟩])) := HR.out.take (x := ⟨sa, sb, .slice a2 el.length c2, el⟩) Hpa.out rfl rfl
    obtain ⟨a3, c3, rfl⟩ := rowA_shape hown'
    clear hown' hgrow hob
    refine hid_in ?_
    go_wp2
    go_roundw
    case rel => exact ⟨_, _, rfl, Hrs.out, by simp only [ByteArray.size_extract, List.length_append, List.length_singleton]; omega, Ha2.out, Hb2.out⟩
    case measure => simp only [strLen, ByteArray.size_extract]; omega

set_option maxHeartbeats 1000000 in
theorem readReport_none (s : ByteArray) (w : World) (h0 : s.size = 0 ∨ 1500 < s.size) (hs : s.size ≤ maxLen) :
    Calls Try.prog 49 #[.string s] w fun e w' => Below w.heap.size w w' ∧ e = .returned wrongR := by
  unfold maxLen at hs
  by_cases hz : s.size = 0
  · have hne : s.toList.isEmpty = true := by rw [isEmpty_size]; exact decide_eq_true hz
    go_enter Try.func49, Try.ntmps49
    go_wp2
    refine wp_scope_fwd 0 rfl ?_
    go_wp2
    go_step3
    refine jump_here 0 ?_
    go_wp2
    rw [Exit.noGoto_ret]
    go_ret2
    exact ⟨Below.refl _ _, rfl⟩
  · have hne : s.toList.isEmpty = false := by rw [isEmpty_size]; exact decide_eq_false hz
    have hi : (1500 : Int) < s.size := by omega
    go_enter Try.func49, Try.ntmps49
    go_wp2
    refine wp_scope_fwd 0 rfl ?_
    go_wp2
    go_step3
    refine jump_here 0 ?_
    go_wp2
    rw [Exit.noGoto_ret]
    go_ret2
    exact ⟨Below.refl _ _, rfl⟩

theorem readReport_any (s : ByteArray) (w : World) (hs : s.size ≤ maxLen) :
    Calls Try.prog 49 #[.string s] w fun e w' => Below w.heap.size w w' ∧ RepAs (repR s) w.heap.size e w' := by
  unfold repR
  by_cases h : s.size = 0 ∨ 1500 < s.size
  · rw [if_pos h]
    exact readReport_none s w h hs
  · rw [if_neg h]
    exact readReport_mid s w (by omega) (by omega)

set_option maxHeartbeats 1000000 in
theorem parseReport_any (s : ByteArray) (w : World) (hs : s.size ≤ maxLen) :
    Calls Try.prog 24 #[.string s] w fun e w' => Below w.heap.size w w' ∧ RepAs (repR s) w.heap.size e w' := by
  go_enter Try.func24, Try.ntmps24
  go_wp2_with fail
  refine (readReport_any s _ hs).mono ?_
  rintro e w1 ⟨hb1, hr⟩
  have Hb1 : Hid (Below w.heap.size w w1) := hb1
  clear hb1
  cases hR : repR s with
  | none =>
    rw [hR] at hr
    have he : e = .returned wrongR := hr
    simp only [wrongR] at he
    subst he
    have HR : Hid (repR s = none) := hR
    clear hR hr
    go_wp2
    go_ret2
    refine ⟨Hb1.out, ?_⟩
    rw [HR.out]
    rfl
  | some L =>
    rw [hR] at hr
    obtain ⟨lv, xs, he, hown, hm⟩ := hr
    subst he
    have Hown : Hid (OwnAsks w1 w.heap.size lv xs) := hown
    have Hm : Hid (xs.map (fun x => (x.a, x.b, x.l)) = L.map (fun y => ((y.1 : Int), (y.2.1 : Int), y.2.2))) := hm
    obtain ⟨a2, c2, rfl⟩ := rowA_shape hown.row
    have HR : Hid (repR s = some L) := hR
    clear hR hown hm
    go_wp2
    go_ret2
    refine ⟨Hb1.out, ?_⟩
    rw [HR.out]
    exact ⟨_, xs, rfl, Hown.out, Hm.out⟩

end Go.Proofs.Ytdjhhnolcafkiaa
