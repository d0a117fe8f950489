/- menderkeep.Asked returns true. -/
import Derived.Test.YtdjhhnolcafkiaaRising
import Derived.Test.YtdjhhnolcafkiaaRep
import Derived.Test.YtdjhhnolcafkiaaPure
import Derived.Deep.QuietTactic
import Derived.BigQuiet
namespace Go.Proofs.Ytdjhhnolcafkiaa
open Go.RowKit
namespace Pk

theorem ba_eq {a b : ByteArray} (h : a.data.toList = b.data.toList) : a = b := ByteArray.ext (Array.ext' h)
theorem app_list (a b : ByteArray) : (a ++ b).data.toList = a.data.toList ++ b.data.toList := by
  rw [ByteArray.data_append, Array.toList_append]

theorem conv_two (g : Nat) (W : World) (b c : UInt8) (h : W.cell? ⟨g, 0, none⟩ = some (.int .u8 (b.toNat : Int))) (h' : W.cell? ⟨g, 1, none⟩ = some (.int .u8 (c.toNat : Int))) :
    (convert 56 9 (.slice (some ⟨g, 0, none⟩) 2 2)).run Try.prog W = .ok (.string ⟨#[b, c]⟩) W := by
  rw [run_convert_bytes_string W 56 9 5 _ _ _ Try.underlying56 Try.underlying5 Try.underlying9]
  have hl := run_loadCells_list (P := Try.prog) W ⟨g, 0, none⟩ [.int .u8 (b.toNat : Int), .int .u8 (c.toNat : Int)] (fun j v hj => by
    match j, hj with
    | 0, hj => simp at hj; subst hj; simpa [Addr.add] using h
    | 1, hj => simp at hj; subst hj; simpa [Addr.add] using h')
  rw [run_bytesToString W ⟨g, 0, none⟩ 2 2 [(b.toNat : Int), (c.toNat : Int)] hl]
  congr 2
  apply ba_eq
  rw [push_fold]
  simp

theorem fold_ok : ∀ (l : List Int) (E : List (Nat × Nat)), In16 l → OkE E → OkE (l.foldl (fun E n => pushE E n.toNat) E) ∧ (l.foldl (fun E n => pushE E n.toNat) E).length ≤ E.length + l.length ∧ (1 ≤ E.length ∨ l ≠ [] → 1 ≤ (l.foldl (fun E n => pushE E n.toNat) E).length) := by
  intro l
  induction l with
  | nil => intro E _ h; exact ⟨h, by simp, fun h => by rcases h with h | h; exact h; exact absurd rfl h⟩
  | cons n l ih =>
    intro E hi h
    have hn := hi n (by simp)
    obtain ⟨p1, p2⟩ := pushE_len E n.toNat
    obtain ⟨i1, i2, i3⟩ := ih (pushE E n.toNat) (fun m hm => hi m (by simp [hm])) (h.push n.toNat (by omega))
    exact ⟨i1, by rw [List.foldl_cons, List.length_cons]; omega, fun _ => i3 (.inl p2)⟩

/-- the other part -/
def otherB (o : ByteArray) : List UInt8 := [128, 200] ++ told (o.size / 4) 2 ++ o.data.toList

/-- what Asked leans on: every text is read as the asking -/
theorem asked_read (se so : Nat) (first : Int) (steps : List Int) (hse : se < 4294967296) (hso : so < 4294967296) :
    askR (se : Int) (so : Int) (risingF first steps) = (⟨(askB se so (entriesF (risingF first steps))).toArray⟩, 0) ∧ 16 ≤ (askB se so (entriesF (risingF first steps))).length ∧ (askB se so (entriesF (risingF first steps))).length ≤ 416 ∧
    ∀ r, partsF (askB se so (entriesF (risingF first steps)) ++ r) = (partsF r).map ((se, so, risingF first steps) :: ·) := by
  obtain ⟨hr, hi⟩ := risingF_rises first steps
  have hl := risingF_length first steps
  have hne : risingF first steps ≠ [] := by unfold risingF; simp
  have hl1 : 1 ≤ (risingF first steps).length := by unfold risingF; simp
  obtain ⟨f1, f2, f3⟩ := fold_ok (risingF first steps) [] hi (fun p hp => by simp at hp)
  have hE := read_entries _ hne hr hi
  change OkE (entriesF _) at f1
  change (entriesF _).length ≤ _ at f2
  change _ → 1 ≤ (entriesF _).length at f3
  have f3' := f3 (.inr hne)
  generalize hLL : risingF first steps = L at *
  simp only [List.length_nil, Nat.zero_add] at f2
  refine ⟨?_, ?_, ?_, fun r => ?_⟩
  · unfold askR
    rw [if_pos]
    · simp
    · unfold askOk
      rw [decide_eq_true (p := 0 ≤ (se : Int) ∧ (se : Int) ≤ 4294967295) (by omega), decide_eq_true (p := 0 ≤ (so : Int) ∧ (so : Int) ≤ 4294967295) (by omega), decide_eq_true (p := 1 ≤ L.length) (by omega), decide_eq_true (p := L.length ≤ 300) (by omega)]
      simp only [Bool.true_and]
      unfold allIn
      rw [List.all_eq_true]
      intro n hn
      have := hi n hn
      simp only [decide_eq_true_eq]
      omega
  · rw [askB_length]; omega
  · rw [askB_length]; omega
  · rw [partsF_ask se so _ r hse hso f1 f3' (by omega), hE]

theorem repR_of {T : ByteArray} {x : List (Nat × Nat × List Int)} (h0 : 0 < T.size) (h1 : T.size ≤ 1500) (h : partsF T.data.toList = some x) : repR T = some x := by
  unfold repR
  rw [if_neg (by omega), h]

/-- each of the four texts -/
theorem asked_texts (se so : Nat) (first : Int) (steps : List Int) (o s p : ByteArray) (hse : se < 4294967296) (hso : so < 4294967296) (ho : o.size ≤ 400) (ho4 : o.size % 4 = 0)
    (hs : s.data.toList = askB se so (entriesF (risingF first steps))) (hp : p.data.toList = otherB o) :
    ∀ T, (T = s ∨ T = p ++ s ∨ T = s ++ p ∨ T = p ++ p ++ s) → T.size ≤ 1500 ∧ repR T = some [(se, so, risingF first steps)] := by
  obtain ⟨_, hl0, hl, hr⟩ := asked_read se so first steps hse hso
  have hps : p.size = 4 + o.size := by
    rw [Lib.size_eq, hp]
    unfold otherB
    rw [List.length_append, List.length_append, told_length, ← Lib.size_eq]
    simp
  have hss : 16 ≤ s.size ∧ s.size ≤ 416 := by rw [Lib.size_eq, hs]; exact ⟨hl0, hl⟩
  have ho' : ∀ r, partsF (p.data.toList ++ r) = partsF r := fun r => by
    rw [hp]
    exact partsF_other (o.size / 4) o.data.toList r (by omega) (by rw [← Lib.size_eq]; omega)
  rintro T (rfl | rfl | rfl | rfl)
  · refine ⟨by omega, repR_of (by omega) (by omega) ?_⟩
    have := hr []
    rw [List.append_nil, partsF_nil] at this
    rw [hs, this]
    rfl
  · have hz : (p ++ s).size = p.size + s.size := by rw [ByteArray.size_append]
    refine ⟨by omega, repR_of (by omega) (by omega) ?_⟩
    have := hr []
    rw [List.append_nil, partsF_nil] at this
    rw [app_list, ho', hs, this]
    rfl
  · have hz : (s ++ p).size = s.size + p.size := by rw [ByteArray.size_append]
    refine ⟨by omega, repR_of (by omega) (by omega) ?_⟩
    have h2 := ho' []
    rw [List.append_nil, partsF_nil] at h2
    rw [app_list, hs, hr, h2]
    rfl
  · have hz : (p ++ p ++ s).size = p.size + p.size + s.size := by rw [ByteArray.size_append, ByteArray.size_append]
    refine ⟨by omega, repR_of (by omega) (by omega) ?_⟩
    have := hr []
    rw [List.append_nil, partsF_nil] at this
    rw [app_list, app_list, List.append_assoc, ho', ho', hs, this]
    rfl

end Pk
open Pk

set_option maxRecDepth 20000 in
set_option maxHeartbeats 4000000 in
theorem asked_walk (se so first : Int) (v : Value) (l : List Int) (o : ByteArray) (w : World) (hv : IsInts w.heap.size w v l) (hse : -9223372036854775808 ≤ se ∧ se ≤ 9223372036854775807) (hso : -9223372036854775808 ≤ so ∧ so ≤ 9223372036854775807) (hf : -9223372036854775808 ≤ first ∧ first ≤ 9223372036854775807) (hl : ∀ c ∈ l, -9223372036854775808 ≤ c ∧ c ≤ 9223372036854775807) (hn : l.length ≤ maxLen) (ho : o.size ≤ maxLen) :
    Calls Try.prog 6 #[.int .i64 se, .int .i64 so, .int .i64 first, v, .string o] w fun e w' => e = .returned (.bool true) ∧ Below w.heap.size w w' := by
  have Hv : Hid (IsInts w.heap.size w v l) := hv
  have Hl : Hid (∀ c ∈ l, -9223372036854775808 ≤ c ∧ c ≤ 9223372036854775807) := hl
  obtain ⟨ao, cap, rfl, _⟩ := hv
  clear hl
  go_enter Try.func6, Try.ntmps6
  go_wp2_with fail
  refine (pick_any _ _ _ (by omega) (by omega) (by omega) (by omega)).mono ?_
  rintro e w1 ⟨rfl, hw1⟩
  rw [hw1]
  clear hw1 w1
  go_wp2_with fail
  refine (pick_any _ _ _ (by omega) (by omega) (by omega) (by omega)).mono ?_
  rintro e w1 ⟨rfl, hw1⟩
  rw [hw1]
  clear hw1 w1
  have s0 := pickF_lo se 4294967296 (by omega)
  have s1 := pickF_hi se 4294967296 (by omega)
  have t0 := pickF_lo so 4294967296 (by omega)
  have t1 := pickF_hi so 4294967296 (by omega)
  generalize pickF se 4294967296 = se' at *
  generalize pickF so 4294967296 = so' at *
  obtain ⟨sn, rfl⟩ := Int.eq_ofNat_of_zero_le s0
  obtain ⟨tn, rfl⟩ := Int.eq_ofNat_of_zero_le t0
  go_wp2_with fail
  refine (rising_any _ _ l _ Hv.out hf Hl.out hn).mono ?_
  rintro e w1 ⟨v1, rfl, hown1, hb1⟩
  obtain ⟨HA, ha0, ha1, _⟩ := asked_read sn tn first l (by omega) (by omega)
  have HT : Hid (∀ (o s p : ByteArray), o.size ≤ 400 → o.size % 4 = 0 → s.data.toList = askB sn tn (entriesF (risingF first l)) → p.data.toList = otherB o → ∀ T, (T = s ∨ T = p ++ s ∨ T = s ++ p ∨ T = p ++ p ++ s) → T.size ≤ 1500 ∧ repR T = some [(sn, tn, risingF first l)]) := fun o s p h1 h2 h3 h4 => asked_texts sn tn first l o s p (by omega) (by omega) h1 h2 h3 h4
  have hLl := risingF_length first l
  generalize risingF first l = L at *
  generalize hA2 : askB sn tn (entriesF L) = AB at *
  obtain ⟨sb, hsb⟩ : ∃ sb : ByteArray, sb = ⟨AB.toArray⟩ := ⟨_, rfl⟩
  have Hsb : Hid (sb.data.toList = AB) := by show _ = _; rw [hsb]
  have hss : 16 ≤ sb.size ∧ sb.size ≤ 416 := by rw [Lib.size_eq, Hsb.out]; omega
  rw [← hsb] at HA
  have HA' : Hid (askR (sn : Int) (tn : Int) L = (sb, 0)) := HA
  clear HA hsb hA2
  obtain ⟨a1, c1, rfl⟩ := hown1.shape
  have Hb1 : Hid (Below w.heap.size w w1) := hb1
  have Hi1 : Hid (IsInts w1.heap.size w1 (.slice a1 L.length c1) L) := hown1.isInts
  clear hown1 hb1
  have hne : sb.toList.isEmpty = false := by rw [isEmpty_size]; exact decide_eq_false (by omega)
  go_wp2_with fail
  refine (tellAsking_any _ _ _ L _ ((Hi1.out.alloc (Nat.le_refl _) _).mono (by simp)) (by omega)).mono ?_
  rintro e w2 ⟨rfl, hb2⟩
  rw [HA'.out]
  have hc2 := box_below hb2 w1.heap.size (by simp)
  have hw2 : w1.heap.size < w2.heap.size := by have := hb2.size; simp at this; omega
  have Hb2 : Hid (Below w1.heap.size w1 w2) := ((Below.refl _ _).alloc (Nat.le_refl _) _).trans (hb2.mono (by simp))
  clear hb2
  go_wp2_with fail
  refine (cut_any _ 400 _ ho (by omega)).mono ?_
  rintro e w3 ⟨rfl, hw3⟩
  rw [hw3]
  clear hw3 w3
  have hct := cutF_size o 400
  generalize cutF o 400 = oc at *
  obtain ⟨q, hq⟩ : ∃ q, q = oc.size / 4 := ⟨_, rfl⟩
  obtain ⟨od, hod⟩ : ∃ od, od = oc.extract 0 (oc.size / 4 * 4) := ⟨_, rfl⟩
  have hm4 : (((min (oc.size / 4 * 4) oc.size : Nat) : Int) / 4) = (q : Int) := by omega
  have hds : od.size = 4 * q := by rw [hod, ByteArray.size_extract]; omega
  obtain ⟨b, hb⟩ : ∃ b : UInt8, b = UInt8.ofNat (q / 256 % 256) := ⟨_, rfl⟩
  obtain ⟨c, hc⟩ : ∃ c : UInt8, c = UInt8.ofNat (q % 256) := ⟨_, rfl⟩
  have hbi : (q : Int) / 256 = (b.toNat : Int) := by rw [hb, UInt8.toNat_ofNat']; omega
  have hci : (q : Int) % 256 = (c.toNat : Int) := by rw [hc, UInt8.toNat_ofNat']; omega
  have Htd : Hid (told q 2 = [b, c]) := by show _ = _; rw [hb, hc]; rfl
  have hcv := conv_two w2.heap.size (w2.alloc (.cells #[.int .u8 (b.toNat : Int), .int .u8 (c.toNat : Int)] 5)) b c (cell_of_row _ w2.heap.size 0 _ _ (0, 0) (heap_alloc_new w2 _)) (cell_of_row _ w2.heap.size 1 _ _ (0, 0) (heap_alloc_new w2 _))
  have Hds : Hid (od.size = 4 * q) := hds
  have hd4 : (od.size : Int) / 4 = (q : Int) := by omega
  have hod' : oc.extract 0 (oc.size / 4 * 4) = od := hod.symm
  have hql : 4 * q ≤ 400 := by omega
  have hodl : od.size ≤ 400 := by omega
  clear hb hc hq hod hds
  go_wp2
  obtain ⟨pp, hpp⟩ : ∃ pp : ByteArray, pp = (⟨#[128, 200]⟩ ++ ⟨#[b, c]⟩ ++ od) := ⟨_, rfl⟩
  rw [← hpp]
  have Hp : Hid (pp.data.toList = otherB od) := by
    show _ = _
    rw [hpp, app_list, app_list]
    unfold otherB
    rw [Hds.out, Nat.mul_div_cancel_left q (by omega), Htd.out]
  have HTT := HT.out od sb pp hodl (by have := Hds.out; omega) Hsb.out Hp.out
  clear hpp Hp Htd hcv hod' hd4
  obtain ⟨W0, hW0⟩ : ∃ W0, W0 = ((w2.alloc (Obj.cells #[Value.int IntKind.u8 ↑b.toNat, Value.int IntKind.u8 ↑c.toNat] 5)).alloc (Obj.cells #[Value.string sb, Value.string (pp ++ sb), Value.string (sb ++ pp), Value.string (pp ++ pp ++ sb)] 9)) := ⟨_, rfl⟩
  rw [← hW0]
  have hg1 : (w2.alloc (Obj.cells #[Value.int IntKind.u8 ↑b.toNat, Value.int IntKind.u8 ↑c.toNat] 5)).heap.size = w2.heap.size + 1 := by simp
  have Hcell : Hid (∀ k, k < 4 → ∃ T, W0.cell? ⟨w2.heap.size + 1, 0 + k, none⟩ = some (.string T) ∧ T.size ≤ 1500 ∧ repR T = some [(sn, tn, L)]) := fun k hk => by
    rw [hW0, Nat.zero_add, cell_newAt _ _ _ _ k hg1]
    rcases (show k = 0 ∨ k = 1 ∨ k = 2 ∨ k = 3 by omega) with rfl | rfl | rfl | rfl
    · exact ⟨_, rfl, HTT _ (.inl rfl)⟩
    · exact ⟨_, rfl, HTT _ (.inr (.inl rfl))⟩
    · exact ⟨_, rfl, HTT _ (.inr (.inr (.inl rfl)))⟩
    · exact ⟨_, rfl, HTT _ (.inr (.inr (.inr rfl)))⟩
  have Hbel0 : Hid (Below w2.heap.size w2 W0) := by show Below _ _ _; rw [hW0]; exact ((Below.refl _ _).alloc (Nat.le_refl _) _).alloc (by simp) _
  have hW0s : w2.heap.size + 2 ≤ W0.heap.size := by rw [hW0]; simp
  clear hW0 hg1 HTT HT
  have bx : ∀ k u, (w1.alloc (Obj.cells #[.int .i64 (sn : Int), .int .i64 (tn : Int), .slice a1 L.length c1] 40)).cell? ⟨w1.heap.size, k, none⟩ = some u → W0.cell? ⟨w1.heap.size, k, none⟩ = some u := fun k u hu => ((Hbel0.out.cell (p := ⟨w1.heap.size, k, none⟩) hw2).trans (hc2 k)).trans hu
  have B0 : Hid (W0.cell? ⟨w1.heap.size, 0, none⟩ = some (.int .i64 (sn : Int))) := bx 0 _ (cell_new _ _ _ 0)
  have B1 : Hid (W0.cell? ⟨w1.heap.size, 1, none⟩ = some (.int .i64 (tn : Int))) := bx 1 _ (cell_new _ _ _ 1)
  have B2 : Hid (W0.cell? ⟨w1.heap.size, 2, none⟩ = some (.slice a1 L.length c1)) := bx 2 _ (cell_new _ _ _ 2)
  have HI0 : Hid (IsInts W0.heap.size W0 (.slice a1 L.length c1) L) := ((Hi1.out.carry Hb2.out).carry (Hbel0.out.mono (Nat.le_of_lt hw2))).mono (by omega)
  have HB0 : Hid (Below w.heap.size w W0) := Hb1.out.trans ((Hb2.out.trans (Hbel0.out.mono (Nat.le_of_lt hw2))).mono Hb1.out.size)
  have hws0 : w.heap.size ≤ W0.heap.size := HB0.out.size
  clear bx hc2 Hbel0 Hi1 Hb2
  have hgb : w1.heap.size < W0.heap.size := by omega
  have hgt : w2.heap.size + 1 < W0.heap.size := by omega
  generalize hgx : w1.heap.size = bx at *
  generalize hgy : w2.heap.size + 1 = tx at *
  clear hgx hgy hws0 hW0s hw2 hm4 hbi hci hql hodl hct
  go_loopw [18] (fun s18 wr => ∃ k : Nat, k ≤ 4 ∧ s18 = .int .i64 k ∧ Below W0.heap.size W0 wr) (fun s18 _ => 4 - (intOf s18).toNat)
  case atStart => exact ⟨0, Nat.zero_le _, rfl, Below.refl _ _⟩
  case round =>
    obtain ⟨k, hk, rfl, hbr⟩ := hrel
    have Hbr : Hid (Below W0.heap.size W0 wr) := hbr
    have hwr := hbr.size
    clear hbr
    by_cases hlt : k < 4
    · have hlt' : (k : Int) < 4 := by omega
      obtain ⟨T, hT, hTs, hTr⟩ := Hcell.out k hlt
      have hT' : wr.cell? ⟨tx, k, none⟩ = some (.string T) := (Hbr.out.cell (p := ⟨tx, k, none⟩) hgt).trans (by rwa [Nat.zero_add] at hT)
      have hTi : ¬ (1500 : Int) < T.size := by omega
      have HTr : Hid (repR T = some [(sn, tn, L)]) := hTr
      clear hT hTr
      go_wp2_with fail
      refine (parseReport_any T _ (by unfold maxLen; omega)).mono ?_
      rintro e w4 ⟨hb4, hr4⟩
      rw [HTr.out] at hr4
      obtain ⟨lv, xs, rfl, hown, hm⟩ := hr4
      have hx : ∃ x : Ask1, xs = [x] ∧ x.a = sn ∧ x.b = tn ∧ x.l = L := by
        match xs, hm with
        | [x], hm => simp at hm; exact ⟨x, rfl, hm.1, hm.2.1, hm.2.2⟩
        | [], hm => simp at hm
        | _ :: _ :: _, hm => simp at hm
      obtain ⟨x, rfl, hxa, hxb, hxl⟩ := hx
      obtain ⟨xa, xb, xv, xl⟩ := x
      simp only at hxa hxb hxl
      subst hxa hxb hxl
      obtain ⟨a4, c4, rfl⟩ := rowA_shape hown.row
      have hrow := hown.row
      obtain ⟨g4, rfl⟩ := rowA_some hrow (by simp)
      have d0 : w4.cell? ⟨g4, 0, none⟩ = some (.int .i64 (sn : Int)) := hrow.cellAt 0 (by simp)
      have d1 : w4.cell? ⟨g4, 1, none⟩ = some (.int .i64 (tn : Int)) := hrow.cellAt 1 (by simp)
      have d2 : w4.cell? ⟨g4, 2, none⟩ = some xv := hrow.cellAt 2 (by simp)
      have hxo := (hown.each 0 _ rfl).1
      obtain ⟨a5, c5, hv5⟩ := hxo.shape
      simp only at hv5 hxo
      subst hv5
      have Hi5 : Hid (IsInts w4.heap.size w4 (.slice a5 xl.length c5) xl) := hxo.isInts
      have Hb4 : Hid (Below W0.heap.size W0 w4) := Hbr.out.trans (hb4.mono hwr)
      have Hb4' : Hid (Below W0.heap.size W0 w4) := Hb4.out
      have e0 : w4.cell? ⟨bx, 0, none⟩ = some (.int .i64 (sn : Int)) := (Hb4.out.cell (p := ⟨bx, 0, none⟩) hgb).trans B0.out
      have e1 : w4.cell? ⟨bx, 1, none⟩ = some (.int .i64 (tn : Int)) := (Hb4.out.cell (p := ⟨bx, 1, none⟩) hgb).trans B1.out
      have e2 : w4.cell? ⟨bx, 2, none⟩ = some (.slice a1 xl.length c1) := (Hb4.out.cell (p := ⟨bx, 2, none⟩) hgb).trans B2.out
      clear hown hrow hxo hm hb4
      go_wp2
      go_quiet (fail)
      go_wp2
      clear d0 d1 e0 e1 hT'
      go_loopw [21] (fun s21 wi => ∃ (j n : Nat), j ≤ xl.length ∧ s21 = .int .i64 j ∧ wi = w4.drewN n) (fun s21 _ => xl.length - (intOf s21).toNat)
      case atStart => exact ⟨0, _, Nat.zero_le _, rfl, rfl⟩
      case round =>
        obtain ⟨j, n, hj, rfl, rfl⟩ := hrel
        by_cases hjl : j < xl.length
        · have hjl' : (j : Int) < xl.length := by omega
          obtain ⟨aa5, cc5, he5, hh5⟩ := Hi5.out
          simp only [Value.slice.injEq] at he5
          obtain ⟨rfl, _, rfl⟩ := he5
          obtain ⟨b5, o5, rfl, hb5, hx5⟩ := hh5 j hjl
          obtain ⟨aa6, cc6, he6, hh6⟩ := HI0.out
          simp only [Value.slice.injEq] at he6
          obtain ⟨rfl, _, rfl⟩ := he6
          obtain ⟨b6, o6, rfl, hb6, hx6⟩ := hh6 j hjl
          have hy6 := (Hb4.out.cell (p := ⟨b6, o6 + j, none⟩) hb6).trans hx6
          clear hh5 hh6 hx6
          generalize xl.getD j 0 = q5 at *
          go_wp2
          go_quiet (fail)
          go_wp2
          go_roundw
          case rel => exact ⟨j + 1, _, by omega, by go_num, rfl⟩
          case measure => simp [intOf]; omega
        · have hjl' : ¬ (j : Int) < xl.length := by omega
          go_wp2
          go_roundw
          case rel => exact ⟨k + 1, by omega, by go_num, below_drewN Hb4'.out _⟩
          case measure => simp [intOf]; omega
    · have hlt' : ¬ (k : Int) < 4 := by omega
      go_wp2
      go_ret
      exact ⟨rfl, HB0.out.trans (Hbr.out.mono HB0.out.size)⟩

end Go.Proofs.Ytdjhhnolcafkiaa
