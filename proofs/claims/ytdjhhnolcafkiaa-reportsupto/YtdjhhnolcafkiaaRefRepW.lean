/- The document's ParseReport: the walk. -/
import Derived.Test.YtdjhhnolcafkiaaRefRep
import Derived.Outline
namespace Go.Proofs.Ytdjhhnolcafkiaa
open Go.RowKit Pk

set_option maxRecDepth 20000 in
set_option maxHeartbeats 8000000 in
theorem refRep_mid (s : ByteArray) (w : World) (h0 : 0 < s.size) (hs : s.size ≤ 1500) :
    Calls Try.prog 43 #[.string s] w fun e w' => Below w.heap.size w w' ∧ RepAs (partsF s.data.toList) w.heap.size e w' := by
  have hne : s.toList.isEmpty = false := by rw [isEmpty_size]; exact decide_eq_false (by omega)
  have hsi : (s.size : Int) ≤ 1500 := by omega
  have hsm : s.size ≤ maxLen := by unfold maxLen; omega
  go_enter Try.func43, Try.ntmps43
  go_wp2
  go_loopw [4, 5] (fun s4 s5 wr => ∃ (a : Nat) (xs : List Ask1), s5 = .int .i64 a ∧ a ≤ s.size ∧ RestR s (s.extract a s.size) xs ∧ 16 * xs.length ≤ a ∧ OwnAsks wr w.heap.size s4 xs ∧ Below w.heap.size w wr) (fun _ s5 _ => s.size - (intOf s5).toNat)
  case atStart => exact ⟨0, [], rfl, Nat.zero_le _, by rw [show s.extract 0 s.size = s from ba_ext (by rw [tail_list s 0 (Nat.zero_le _), List.drop_zero])]; exact RestR.start s, Nat.le_refl _, OwnAsks.nil _ _, Below.refl _ _⟩
  case round =>
    obtain ⟨a, xs, rfl, has, hR, hlen, hown, hb⟩ := hrel
    have HR : Hid (RestR s (s.extract a s.size) xs) := hR
    obtain ⟨a1, c1, rfl⟩ := rowA_shape hown.row
    have Hown : Hid (OwnAsks wr w.heap.size (.slice a1 xs.length c1) xs) := hown
    have Hb : Hid (Below w.heap.size w wr) := hb
    have hws := hb.size
    have hTs : (s.extract a s.size).size = s.size - a := by rw [ByteArray.size_extract]; omega
    clear hR hown hb
    have Hg0 : Hid (∀ e w', e = .returned wrongR → Below w.heap.size w w' → partsF (s.extract a s.size).data.toList = none → Below w.heap.size w w' ∧ RepAs (partsF s.data.toList) w.heap.size e w') := fun e w' he hbe hpe => by
      refine ⟨hbe, ?_⟩
      rw [HR.out.wrong hpe]
      exact he
    by_cases hend : a = s.size
    · have hai : ¬ (a : Int) < s.size := by omega
      clear hTs
      have HD : Hid (∃ L, partsF s.data.toList = some L ∧ mapA xs = mapN L) := HR.out.done (by rw [ByteArray.size_extract]; omega)
      go_wp2
      go_ret2
      refine ⟨Hb.out, ?_⟩
      obtain ⟨L, hL, hm⟩ := HD.out
      rw [hL]
      exact ⟨_, xs, rfl, Hown.out, hm⟩
    have hai : (a : Int) < s.size := by omega
    by_cases h4 : s.size < a + 4
    · have h4i : (s.size : Int) < (a : Int) + 4 := by omega
      have Hn : Hid (partsF (s.extract a s.size).data.toList = none) := parts_short _ (by omega) (by omega)
      clear hTs
      go_wp2
      go_ret2
      exact Hg0.out _ _ rfl Hb.out Hn.out
    have h4i : ¬ (s.size : Int) < (a : Int) + 4 := by omega
    have j0 : ∀ W : World, (Instr.index 9 (.string s) (.int .i64 (a : Int))).run Try.prog W = .ok (.int .u8 ((byteAt s a).toNat : Int)) W := fun W => index_at s a (by omega) W
    have j1 : ∀ W : World, (Instr.index 9 (.string s) (.int .i64 ((a : Int) + 1))).run Try.prog W = .ok (.int .u8 ((byteAt s (a + 1)).toNat : Int)) W := fun W => index_at s (a + 1) (by omega) W
    have hb0 := (byteAt s a).toNat_lt
    have hb1 := (byteAt s (a + 1)).toNat_lt
    have tb0 : byteAt (s.extract a s.size) 0 = byteAt s a := tail_byte s a 0 has
    have tb1 : byteAt (s.extract a s.size) 1 = byteAt s (a + 1) := tail_byte s a 1 has
    by_cases hm : (byteAt s a).toNat / 32 = 4
    case neg =>
      have Hn : Hid (partsF (s.extract a s.size).data.toList = none) := parts_mark _ (by omega) (by rw [tb0]; exact hm)
      clear tb0 tb1 hTs j1 hb1
      generalize (byteAt s a).toNat = b at *
      by_cases hlo : b < 128
      · have hlo' : (b : Int) < 128 := by omega
        clear hm
        go_wp2
        go_ret2
        exact Hg0.out _ _ rfl Hb.out Hn.out
      · have hlo' : ¬ (b : Int) < 128 := by omega
        have hhi' : (159 : Int) < b := by omega
        clear hm
        go_wp2
        go_ret2
        exact Hg0.out _ _ rfl Hb.out Hn.out
    have hlo' : ¬ ((byteAt s a).toNat : Int) < 128 := by omega
    have hhi' : ¬ (159 : Int) < ((byteAt s a).toNat : Int) := by omega
    have hpl := tail_plen s a (by omega)
    have hq : num ((s.data.toList.drop (a + 2)).take 2) < 65536 := num_lt_two _ (by rw [List.length_take]; omega)
    have Hask := parts_askAt s a (by omega)
    obtain ⟨q, hqq⟩ : ∃ q, num ((s.data.toList.drop (a + 2)).take 2) = q := ⟨_, rfl⟩
    have Hqq : Hid (num ((s.data.toList.drop (a + 2)).take 2) = q) := hqq
    rw [hqq] at hpl hq Hask
    clear hqq
    have hcn : Hid (∀ W : World, Calls Try.prog 64 #[.string s, .int .i64 ((a : Int) + 2), .int .i64 2] W fun e w' => e = .returned (.int .i64 (q : Int)) ∧ w' = W) := fun W => by
      have h := refNumber_any s (a + 2) 2 W hsm (by omega) (by omega)
      rw [Hqq.out] at h
      exact h
    by_cases hp : s.size < a + (4 + 4 * q)
    · have Hn : Hid (partsF (s.extract a s.size).data.toList = none) := parts_long _ (by omega) (by rw [hpl]; omega)
      have hpi : (s.size : Int) < (a : Int) + 4 + 4 * (q : Int) := by omega
      clear tb0 tb1 hTs j1 hb1 Hask hm hpl
      generalize (byteAt s a).toNat = b at *
      go_wp2_with fail
      refine (hcn.out _).mono ?_
      rintro e w1 ⟨rfl, hw1⟩
      rw [hw1]
      clear hw1 w1
      go_wp2
      go_ret2
      exact Hg0.out _ _ rfl Hb.out Hn.out
    have hpi : ¬ (s.size : Int) < (a : Int) + 4 + 4 * (q : Int) := by omega
    by_cases hf : (byteAt s a).toNat = 129 ∧ (byteAt s (a + 1)).toNat = 205
    case neg =>
      have Hsk : Hid (RestR s (s.extract (a + (4 + 4 * q)) s.size) xs) := by
        refine HR.out.skip ?_
        rw [parts_other _ (by omega) (by rw [tb0]; exact hm) (by rw [hpl]; omega) (fun e => hf ⟨by rw [tb0] at e; omega, by rw [tb1] at e; exact e.2⟩), hpl, tail_tail s a _ (by omega)]
      clear tb0 tb1 hTs Hask hm hpl
      generalize (byteAt s a).toNat = b at *
      generalize (byteAt s (a + 1)).toNat = b' at *
      by_cases hb129 : b = 129
      · have e1 : ((b : Int) == 129) = true := by rw [beq_iff_eq]; omega
        have e2 : ((b' : Int) == 205) = false := by rw [beq_eq_false_iff_ne]; omega
        clear hf
        go_wp2_with fail
        refine (hcn.out _).mono ?_
        rintro e w1 ⟨rfl, hw1⟩
        rw [hw1]
        clear hw1 w1
        go_wp2
        go_roundw
        case rel => exact ⟨a + (4 + 4 * q), xs, by go_num, by omega, Hsk.out, by omega, Hown.out, Hb.out⟩
        case measure => simp [intOf]; omega
      · have e1 : ((b : Int) == 129) = false := by rw [beq_eq_false_iff_ne]; omega
        clear hf
        go_wp2_with fail
        refine (hcn.out _).mono ?_
        rintro e w1 ⟨rfl, hw1⟩
        rw [hw1]
        clear hw1 w1
        go_wp2
        go_roundw
        case rel => exact ⟨a + (4 + 4 * q), xs, by go_num, by omega, Hsk.out, by omega, Hown.out, Hb.out⟩
        case measure => simp [intOf]; omega
    obtain ⟨hf1, hf2⟩ := hf
    have e1 : (((byteAt s a).toNat : Int) == 129) = true := by rw [beq_iff_eq]; omega
    have e2 : (((byteAt s (a + 1)).toNat : Int) == 205) = true := by rw [beq_iff_eq]; omega
    by_cases h16 : q < 3
    · have h16i : (a : Int) + 4 + 4 * (q : Int) < (a : Int) + 16 := by omega
      have Hn : Hid (partsF (s.extract a s.size).data.toList = none) := parts_small _ (by omega) (by rw [tb0]; exact hm) (by rw [hpl]; omega) ⟨by rw [tb0]; omega, by rw [tb1]; exact hf2⟩ (by rw [hpl]; omega)
      clear tb0 tb1 hTs Hask hm hpl hf1 hf2
      generalize (byteAt s a).toNat = b at *
      generalize (byteAt s (a + 1)).toNat = b' at *
      go_wp2_with fail
      refine (hcn.out _).mono ?_
      rintro e w1 ⟨rfl, hw1⟩
      rw [hw1]
      clear hw1 w1
      go_wp2
      go_ret2
      exact Hg0.out _ _ rfl Hb.out Hn.out
    have h16i : ¬ (a : Int) + 4 + 4 * (q : Int) < (a : Int) + 16 := by omega
    have HP := Hask hf1 hf2 (by omega) (by omega)
    obtain ⟨se, hse⟩ : ∃ n, num ((s.data.toList.drop (a + 4)).take 4) = n := ⟨_, rfl⟩
    obtain ⟨so, hso⟩ : ∃ n, num ((s.data.toList.drop (a + 8)).take 4) = n := ⟨_, rfl⟩
    have hc4 : Hid (∀ W : World, Calls Try.prog 64 #[.string s, .int .i64 ((a : Int) + 4), .int .i64 4] W fun e w' => e = .returned (.int .i64 (se : Int)) ∧ w' = W) := fun W => by
      have h := refNumber_any s (a + 4) 4 W hsm (by omega) (by omega)
      rw [hse] at h
      exact h
    have hc8 : Hid (∀ W : World, Calls Try.prog 64 #[.string s, .int .i64 ((a : Int) + 8), .int .i64 4] W fun e w' => e = .returned (.int .i64 (so : Int)) ∧ w' = W) := fun W => by
      have h := refNumber_any s (a + 8) 4 W hsm (by omega) (by omega)
      rw [hso] at h
      exact h
    rw [hse, hso] at HP
    have HPa : Hid (partsF (s.extract a s.size).data.toList = _) := HP
    clear tb0 tb1 hTs Hask hm hpl hf1 hf2 HP hse hso
    generalize (byteAt s a).toNat = b at *
    generalize (byteAt s (a + 1)).toNat = b' at *
    go_wp2_with fail
    refine (hcn.out _).mono ?_
    rintro e w1 ⟨rfl, hw1⟩
    rw [hw1]
    clear hw1 w1
    go_wp2_with fail
    refine (hc4.out _).mono ?_
    rintro e w1 ⟨rfl, hw1⟩
    rw [hw1]
    clear hw1 w1
    go_wp2_with fail
    refine (hc8.out _).mono ?_
    rintro e w1 ⟨rfl, hw1⟩
    rw [hw1]
    clear hw1 w1
    go_wp2
    obtain ⟨z, hz⟩ : ∃ z, z = a + (4 + 4 * q) := ⟨_, rfl⟩
    have hzi : (a : Int) + 4 + 4 * (q : Int) = (z : Int) := by omega
    rw [hzi]
    have hza : a + 16 ≤ z ∧ z ≤ s.size ∧ (z - (a + 12)) % 4 = 0 := by omega
    rw [← hz] at HPa
    have HBx : Hid (BxA wr (wr.alloc (Obj.cells #[Value.int IntKind.i64 ↑se, Value.int IntKind.i64 ↑so, Value.slice none 0 0] 40)) se so (.slice none 0 0) []) := BxA.init wr se so
    clear hz hzi hpi h16i hcn hc4 hc8
    generalize hw0 : wr = w0 at *
    clear hw0
    go_loopw [8] (fun s8 wi => ∃ (k : Nat) (v : Value) (L : List Int), s8 = .int .i64 k ∧ a + 12 ≤ k ∧ k ≤ z ∧ (z - k) % 4 = 0 ∧ L ++ entsAt s k z = entsAt s (a + 12) z ∧ 4 * L.length ≤ 17 * (k - (a + 12)) ∧ BxA w0 wi se so v L) (fun s8 _ => z - (intOf s8).toNat)
    case atStart => exact ⟨a + 12, _, [], by go_num, Nat.le_refl _, by omega, by omega, rfl, by simp, HBx.out⟩
    case round =>
      clear HBx
      obtain ⟨k, v, L, rfl, hk1, hk2, hk4, hL, hLl, hbx⟩ := hrel
      have HL : Hid (L ++ entsAt s k z = entsAt s (a + 12) z) := hL
      obtain ⟨a2, c2, rfl⟩ := hbx.own.shape
      have HB : Hid (BxA w0 wr se so (.slice a2 L.length c2) L) := hbx
      have y2 := hbx.c2
      have yf := hbx.fz
      have ysz := hbx.siz
      clear hL hbx
      have hLb : L.length ≤ 6383 := by omega
      by_cases hlt : k < z
      · have hlt' : (k : Int) < z := by omega
        have hst := entsAt_step s k z (by omega) (by omega)
        obtain ⟨p, hp⟩ : ∃ p, num ((s.data.toList.drop k).take 2) = p := ⟨_, rfl⟩
        obtain ⟨bt, hbt⟩ : ∃ p, num ((s.data.toList.drop (k + 2)).take 2) = p := ⟨_, rfl⟩
        have hp16 : p < 65536 := by rw [← hp]; exact num_lt_two _ (by rw [List.length_take]; omega)
        have hb16 : bt < 65536 := by rw [← hbt]; exact num_lt_two _ (by rw [List.length_take]; omega)
        have hc1 : Hid (∀ W : World, Calls Try.prog 64 #[.string s, .int .i64 (k : Int), .int .i64 2] W fun e w' => e = .returned (.int .i64 (p : Int)) ∧ w' = W) := fun W => by
          have h := refNumber_any s k 2 W hsm (by omega) (by omega)
          rw [hp] at h
          exact h
        have hc2 : Hid (∀ W : World, Calls Try.prog 64 #[.string s, .int .i64 ((k : Int) + 2), .int .i64 2] W fun e w' => e = .returned (.int .i64 (bt : Int)) ∧ w' = W) := fun W => by
          have h := refNumber_any s (k + 2) 2 W hsm (by omega) (by omega)
          rw [hbt] at h
          exact h
        rw [hp, hbt] at hst
        have Hst : Hid (entsAt s k z = _) := hst
        clear hst hp hbt
        go_wp2_with fail
        refine (hc1.out _).mono ?_
        rintro e w1 ⟨rfl, hw1⟩
        rw [hw1]
        clear hw1 w1
        go_wp2_with fail
        refine (hc2.out _).mono ?_
        rintro e w1 ⟨rfl, hw1⟩
        rw [hw1]
        clear hw1 w1 hc1 hc2
        go_wp2_with (at_builtin; (
          refine wpList_append_int rfl (.tmp 92) (.tmp 94) rfl (w0.heap.size + 1) _ L (p : Int) rfl (HB.out.own.alloc _) _ 1 rfl ?_ (by omega) (by simp; omega) ?_
          · exact cell_one_new _ _ _ 0 _ rfl
          intro v' w2 hown' hgrow _
          refine stop_here ?_))
        have hbg : Below (w0.heap.size + 1) wr w2 := ((Below.refl _ _).alloc (by omega) _).grown hgrow (by simp; omega) (fun x hx => (World.ownsRow.lt HB.out.own x hx).1)
        have HB2 : Hid (BxA w0 (w2.setCell ⟨w0.heap.size, 2, none⟩ v') se so v' (L ++ [(p : Int)])) := HB.out.next hown' hbg
        have z2 : w2.cell? ⟨w0.heap.size, 2, none⟩ = some (.slice a2 L.length c2) := (hbg.cell (p := ⟨w0.heap.size, 2, none⟩) (Nat.lt_succ_self _)).trans y2
        have zf : ∀ o, w2.frozen? ⟨w0.heap.size, o, none⟩ = false := fun o => (hbg.frozen (p := ⟨w0.heap.size, o, none⟩) (Nat.lt_succ_self _)).trans (yf o)
        obtain ⟨a3, c3, rfl⟩ := hown'.shape
        clear hown' hgrow hbg y2 yf
        generalize (L ++ [(p : Int)]).length = n1 at *
        refine hid_in ?_
        go_wp2
        clear z2 zf
        go_loopw [11] (fun s11 wi => ∃ (i : Nat) (v : Value), s11 = .int .i64 i ∧ i ≤ 16 ∧ BxA w0 wi se so v (L ++ [(p : Int)] ++ (bitsF bt i).map fun i => (((p + 1 + i) % 65536 : Nat) : Int))) (fun s11 _ => 16 - (intOf s11).toNat)
        case atStart => exact ⟨0, _, rfl, Nat.zero_le _, by simpa [bitsF] using HB2.out⟩
        case round =>
          clear HB2 HB ysz
          obtain ⟨i, v, rfl, hi, hbx⟩ := hrel
          have hbl := bitsF_length bt i
          have hlM : (L ++ [(p : Int)] ++ (bitsF bt i).map fun i => (((p + 1 + i) % 65536 : Nat) : Int)).length ≤ 6400 := by simp; omega
          have Hsu : Hid ((bitsF bt (i + 1)) = bitsF bt i ++ (if bt.testBit i then [i] else [])) := bitsF_succ bt i
          generalize hM : (L ++ [(p : Int)] ++ (bitsF bt i).map fun i => (((p + 1 + i) % 65536 : Nat) : Int)) = M at *
          have HM : Hid ((L ++ [(p : Int)] ++ (bitsF bt i).map fun i => (((p + 1 + i) % 65536 : Nat) : Int)) = M) := hM
          obtain ⟨a4, c4, rfl⟩ := hbx.own.shape
          have HB : Hid (BxA w0 wr se so (.slice a4 M.length c4) M) := hbx
          have y2 := hbx.c2
          have yf := hbx.fz
          have ysz := hbx.siz
          clear hM hbx hbl
          by_cases hi16 : i < 16
          · have hi16' : (i : Int) < 16 := by omega
            have htb := Nat.testBit_eq_decide_div_mod_eq (x := bt) (i := i)
            go_wp2_with fail
            refine (refBit_any bt i _ (by omega) (by omega)).mono ?_
            rintro e w1 ⟨rfl, hw1⟩
            rw [hw1, ← htb]
            clear hw1 w1 htb
            cases hb : bt.testBit i with
            | false =>
              rw [hb] at Hsu
              go_wp2
              go_roundw
              case rel => exact ⟨i + 1, _, by go_num, by omega, by rw [Hsu.out, if_neg (by simp), List.append_nil, HM.out]; exact HB.out⟩
              case measure => simp [intOf]; omega
            | true =>
              rw [hb] at Hsu
              have hw1 : IntKind.i64.wrap ((p : Int) + 1) = (p : Int) + 1 := wrapI64 _ (by omega) (by omega)
              have hw2 : IntKind.i64.wrap ((p : Int) + 1 + (i : Int)) = (p : Int) + 1 + (i : Int) := wrapI64 _ (by omega) (by omega)
              obtain ⟨x, hx⟩ : ∃ x : Nat, x = (p + 1 + i) % 65536 := ⟨_, rfl⟩
              have Hx : Hid (((p : Int) + 1 + (i : Int)) % 65536 = (x : Int)) := by show _ = _; omega
              have HM2 : Hid (L ++ [(p : Int)] ++ (bitsF bt (i + 1)).map (fun i => (((p + 1 + i) % 65536 : Nat) : Int)) = M ++ [(x : Int)]) := by
                show _ = _
                rw [Hsu.out, if_pos rfl, List.map_append, ← HM.out, hx]
                simp
              clear hx
              go_wp2
              refine wp_region_noPanic ?_
              refine wp_region_held_drew (S := fun _ => True) (by kernel_rfl) trivial (fun hHeld => ?_)
              refine wpAnyH_take (i := 0) (v := ?vt1) rfl (by kernel_rfl) (by kernel_rfl) (by kernel_rfl) (fun _ _ _ h => h) (Or.inl ⟨by rfl, ?yt1⟩) hHeld ?rt1
              case yt1 => ((intro W hSw; go_simp) <;> with_reducible rfl)
              try simp only [Act.put]
              try simp only [List.getElem_toArray]
              try simp only [List.getElem_cons_succ]
              try simp only [List.getElem_cons_zero]
              try simp only [List.setIfInBounds_toArray]
              try simp only [List.set_cons_succ]
              try simp only [List.set_cons_zero]
              refine wpAnyH_take (i := 2) (v := ?vt2) rfl (by kernel_rfl) (by kernel_rfl) (by kernel_rfl) (fun _ _ _ h => h) (Or.inl ⟨by rfl, ?yt2⟩) hHeld ?rt2
              case yt2 => ((intro W hSw; go_simp) <;> with_reducible rfl)
              try simp only [Act.put]
              try simp only [List.getElem_toArray]
              try simp only [List.getElem_cons_succ]
              try simp only [List.getElem_cons_zero]
              try simp only [List.setIfInBounds_toArray]
              try simp only [List.set_cons_succ]
              try simp only [List.set_cons_zero]
              refine wpAnyH_take (i := 3) (v := ?vt3) rfl (by kernel_rfl) (by kernel_rfl) (by kernel_rfl) (fun _ _ _ h => h) (Or.inl ⟨by rfl, ?yt3⟩) hHeld ?rt3
              case yt3 => ((intro W hSw; go_simp) <;> with_reducible rfl)
              try simp only [Act.put]
              try simp only [List.getElem_toArray]
              try simp only [List.getElem_cons_succ]
              try simp only [List.getElem_cons_zero]
              try simp only [List.setIfInBounds_toArray]
              try simp only [List.set_cons_succ]
              try simp only [List.set_cons_zero]
              refine wpAnyH_take (i := 4) (v := ?vt4) rfl (by kernel_rfl) (by kernel_rfl) (by kernel_rfl) (fun _ _ _ h => h) (Or.inl ⟨by rfl, ?yt4⟩) hHeld ?rt4
              case yt4 => ((intro W hSw; go_simp) <;> with_reducible rfl)
              try simp only [Act.put]
              try simp only [List.getElem_toArray]
              try simp only [List.getElem_cons_succ]
              try simp only [List.getElem_cons_zero]
              try simp only [List.setIfInBounds_toArray]
              try simp only [List.set_cons_succ]
              try simp only [List.set_cons_zero]
              refine wpAnyH_take (i := 5) (v := ?vt5) rfl (by kernel_rfl) (by kernel_rfl) (by kernel_rfl) (fun _ _ _ h => h) (Or.inl ⟨by rfl, ?yt5⟩) hHeld ?rt5
              case yt5 => ((intro W hSw; go_simp) <;> with_reducible rfl)
              try simp only [Act.put]
              try simp only [List.getElem_toArray]
              try simp only [List.getElem_cons_succ]
              try simp only [List.getElem_cons_zero]
              try simp only [List.setIfInBounds_toArray]
              try simp only [List.set_cons_succ]
              try simp only [List.set_cons_zero]
              refine wpAnyH_ready (rs := [1, 6]) (by kernel_rfl) (by simp) ?_
              refine AllReadyH.cons rfl (fun K hK => ?_) (AllReadyH.cons rfl (fun K hK => ?_) AllReadyH.nil)
              · go_simp
                refine hK.out _ _ trivial (fun hHeld => ?_)
                clear hK K
                try simp only [Act.put]
                try simp only [List.getElem_toArray]
                try simp only [List.getElem_cons_succ]
                try simp only [List.getElem_cons_zero]
                try simp only [List.setIfInBounds_toArray]
                try simp only [List.set_cons_succ]
                try simp only [List.set_cons_zero]
                refine wpAnyH_ready (rs := [6]) (by kernel_rfl) (by simp) ?_
                refine AllReadyH.cons rfl (fun K hK => ?_) AllReadyH.nil
                go_simp
                refine (refRound_any _ _).mono ?_
                rintro e w1 ⟨rfl, hw1e⟩
                rw [hw1e, Hx.out]
                clear hw1e w1
                go_wp2_with fail
                refine hK.out _ _ trivial (fun hHeld => ?_)
                clear hK K
                refine wpAnyH_ready (rs := [7]) (by kernel_rfl) (by simp) ?_
                refine AllReadyH.cons rfl (fun K hK => ?_) AllReadyH.nil
                go_simp
                refine hK.out _ _ trivial (fun hHeld => ?_)
                clear hK K
                try simp only [Act.put]
                try simp only [List.getElem_toArray]
                try simp only [List.getElem_cons_succ]
                try simp only [List.getElem_cons_zero]
                try simp only [List.setIfInBounds_toArray]
                try simp only [List.set_cons_succ]
                try simp only [List.set_cons_zero]
                refine wpAnyH_ready (rs := [8]) (by kernel_rfl) (by simp) ?_
                refine AllReadyH.cons rfl (fun K hK => ?_) AllReadyH.nil
                rw [if_pos (by rfl)]
                refine wp_append_int (.tmp 106) (.tmp 112) rfl (w0.heap.size + 1) (.slice a4 M.length c4) M (x : Int) (by rfl) (World.ownsRow.drew (World.ownsRow.alloc HB.out.own _)) _ 1 (by rfl) (cell_one_new _ _ _ 0 _ rfl) (by omega) (by simp; omega) ?_
                intro v' w2 hown' hgrow _
                have hbg : Below (w0.heap.size + 1) wr w2 := (((Below.refl _ _).alloc (by omega) _).drew).grown hgrow (by simp; omega) (fun x hx => (World.ownsRow.lt HB.out.own x hx).1)
                have HB2 : Hid (BxA w0 (w2.setCell ⟨w0.heap.size, 2, none⟩ v') se so v' (M ++ [(x : Int)])) := HB.out.next hown' hbg
                have z2 : w2.cell? ⟨w0.heap.size, 2, none⟩ = some (.slice a4 M.length c4) := (hbg.cell (p := ⟨w0.heap.size, 2, none⟩) (Nat.lt_succ_self _)).trans y2
                have zf : ∀ o, w2.frozen? ⟨w0.heap.size, o, none⟩ = false := fun o => (hbg.frozen (p := ⟨w0.heap.size, o, none⟩) (Nat.lt_succ_self _)).trans (yf o)
                obtain ⟨a3, c3, rfl⟩ := hown'.shape
                refine hK.out _ _ trivial (fun hHeld => ?_)
                clear hK K hown' hgrow hbg y2 yf
                try simp only [Act.put]
                try simp only [List.getElem_toArray]
                try simp only [List.getElem_cons_succ]
                try simp only [List.getElem_cons_zero]
                try simp only [List.setIfInBounds_toArray]
                try simp only [List.set_cons_succ]
                try simp only [List.set_cons_zero]
                generalize (M ++ [(x : Int)]).length = n3 at *
                refine wpAnyH_take (i := 9) (v := ?vt6) rfl (by kernel_rfl) (by kernel_rfl) (by kernel_rfl) (fun _ _ _ h => h) (Or.inl ⟨by rfl, ?yt6⟩) hHeld ?rt6
                case yt6 => ((intro W hSw; go_simp) <;> with_reducible rfl)
                try simp only [Act.put]
                try simp only [List.getElem_toArray]
                try simp only [List.getElem_cons_succ]
                try simp only [List.getElem_cons_zero]
                try simp only [List.setIfInBounds_toArray]
                try simp only [List.set_cons_succ]
                try simp only [List.set_cons_zero]
                refine wpAnyH_ready (rs := [10]) (by kernel_rfl) (by simp) ?_
                refine AllReadyH.cons rfl (fun K hK => ?_) AllReadyH.nil
                go_simp
                refine hK.out _ _ trivial (fun hHeld => ?_)
                clear hK K
                refine wpAnyH_done (by kernel_rfl) ?_ _
                refine NoPanic.normal ?_
                go_wp2
                go_roundw
                case rel => exact ⟨i + 1, _, by go_num, by omega, by rw [HM2.out]; exact HB2.out⟩
                case measure => simp [intOf]; omega
              · go_simp
                refine (refRound_any _ _).mono ?_
                rintro e w1 ⟨rfl, hw1e⟩
                rw [hw1e, Hx.out]
                clear hw1e w1
                go_wp2_with fail
                refine hK.out _ _ trivial (fun hHeld => ?_)
                clear hK K
                refine wpAnyH_ready (rs := [1, 7]) (by kernel_rfl) (by simp) ?_
                refine AllReadyH.cons rfl (fun K hK => ?_) (AllReadyH.cons rfl (fun K hK => ?_) AllReadyH.nil)
                · go_simp
                  refine hK.out _ _ trivial (fun hHeld => ?_)
                  clear hK K
                  try simp only [Act.put]
                  try simp only [List.getElem_toArray]
                  try simp only [List.getElem_cons_succ]
                  try simp only [List.getElem_cons_zero]
                  try simp only [List.setIfInBounds_toArray]
                  try simp only [List.set_cons_succ]
                  try simp only [List.set_cons_zero]
                  refine wpAnyH_ready (rs := [7]) (by kernel_rfl) (by simp) ?_
                  refine AllReadyH.cons rfl (fun K hK => ?_) AllReadyH.nil
                  go_simp
                  refine hK.out _ _ trivial (fun hHeld => ?_)
                  clear hK K
                  try simp only [Act.put]
                  try simp only [List.getElem_toArray]
                  try simp only [List.getElem_cons_succ]
                  try simp only [List.getElem_cons_zero]
                  try simp only [List.setIfInBounds_toArray]
                  try simp only [List.set_cons_succ]
                  try simp only [List.set_cons_zero]
                  refine wpAnyH_ready (rs := [8]) (by kernel_rfl) (by simp) ?_
                  refine AllReadyH.cons rfl (fun K hK => ?_) AllReadyH.nil
                  rw [if_pos (by rfl)]
                  refine wp_append_int (.tmp 106) (.tmp 112) rfl (w0.heap.size + 1) (.slice a4 M.length c4) M (x : Int) (by rfl) (World.ownsRow.drew (World.ownsRow.alloc HB.out.own _)) _ 1 (by rfl) (cell_one_new _ _ _ 0 _ rfl) (by omega) (by simp; omega) ?_
                  intro v' w2 hown' hgrow _
                  have hbg : Below (w0.heap.size + 1) wr w2 := (((Below.refl _ _).alloc (by omega) _).drew).grown hgrow (by simp; omega) (fun x hx => (World.ownsRow.lt HB.out.own x hx).1)
                  have HB2 : Hid (BxA w0 (w2.setCell ⟨w0.heap.size, 2, none⟩ v') se so v' (M ++ [(x : Int)])) := HB.out.next hown' hbg
                  have z2 : w2.cell? ⟨w0.heap.size, 2, none⟩ = some (.slice a4 M.length c4) := (hbg.cell (p := ⟨w0.heap.size, 2, none⟩) (Nat.lt_succ_self _)).trans y2
                  have zf : ∀ o, w2.frozen? ⟨w0.heap.size, o, none⟩ = false := fun o => (hbg.frozen (p := ⟨w0.heap.size, o, none⟩) (Nat.lt_succ_self _)).trans (yf o)
                  obtain ⟨a3, c3, rfl⟩ := hown'.shape
                  refine hK.out _ _ trivial (fun hHeld => ?_)
                  clear hK K hown' hgrow hbg y2 yf
                  try simp only [Act.put]
                  try simp only [List.getElem_toArray]
                  try simp only [List.getElem_cons_succ]
                  try simp only [List.getElem_cons_zero]
                  try simp only [List.setIfInBounds_toArray]
                  try simp only [List.set_cons_succ]
                  try simp only [List.set_cons_zero]
                  generalize (M ++ [(x : Int)]).length = n3 at *
                  refine wpAnyH_take (i := 9) (v := ?vt7) rfl (by kernel_rfl) (by kernel_rfl) (by kernel_rfl) (fun _ _ _ h => h) (Or.inl ⟨by rfl, ?yt7⟩) hHeld ?rt7
                  case yt7 => ((intro W hSw; go_simp) <;> with_reducible rfl)
                  try simp only [Act.put]
                  try simp only [List.getElem_toArray]
                  try simp only [List.getElem_cons_succ]
                  try simp only [List.getElem_cons_zero]
                  try simp only [List.setIfInBounds_toArray]
                  try simp only [List.set_cons_succ]
                  try simp only [List.set_cons_zero]
                  refine wpAnyH_ready (rs := [10]) (by kernel_rfl) (by simp) ?_
                  refine AllReadyH.cons rfl (fun K hK => ?_) AllReadyH.nil
                  go_simp
                  refine hK.out _ _ trivial (fun hHeld => ?_)
                  clear hK K
                  refine wpAnyH_done (by kernel_rfl) ?_ _
                  refine NoPanic.normal ?_
                  go_wp2
                  go_roundw
                  case rel => exact ⟨i + 1, _, by go_num, by omega, by rw [HM2.out]; exact HB2.out⟩
                  case measure => simp [intOf]; omega
                · go_simp
                  refine hK.out _ _ trivial (fun hHeld => ?_)
                  clear hK K
                  try simp only [Act.put]
                  try simp only [List.getElem_toArray]
                  try simp only [List.getElem_cons_succ]
                  try simp only [List.getElem_cons_zero]
                  try simp only [List.setIfInBounds_toArray]
                  try simp only [List.set_cons_succ]
                  try simp only [List.set_cons_zero]
                  refine wpAnyH_ready (rs := [1]) (by kernel_rfl) (by simp) ?_
                  refine AllReadyH.cons rfl (fun K hK => ?_) AllReadyH.nil
                  go_simp
                  refine hK.out _ _ trivial (fun hHeld => ?_)
                  clear hK K
                  try simp only [Act.put]
                  try simp only [List.getElem_toArray]
                  try simp only [List.getElem_cons_succ]
                  try simp only [List.getElem_cons_zero]
                  try simp only [List.setIfInBounds_toArray]
                  try simp only [List.set_cons_succ]
                  try simp only [List.set_cons_zero]
                  refine wpAnyH_ready (rs := [8]) (by kernel_rfl) (by simp) ?_
                  refine AllReadyH.cons rfl (fun K hK => ?_) AllReadyH.nil
                  rw [if_pos (by rfl)]
                  refine wp_append_int (.tmp 106) (.tmp 112) rfl (w0.heap.size + 1) (.slice a4 M.length c4) M (x : Int) (by rfl) (World.ownsRow.drew (World.ownsRow.alloc HB.out.own _)) _ 1 (by rfl) (cell_one_new _ _ _ 0 _ rfl) (by omega) (by simp; omega) ?_
                  intro v' w2 hown' hgrow _
                  have hbg : Below (w0.heap.size + 1) wr w2 := (((Below.refl _ _).alloc (by omega) _).drew).grown hgrow (by simp; omega) (fun x hx => (World.ownsRow.lt HB.out.own x hx).1)
                  have HB2 : Hid (BxA w0 (w2.setCell ⟨w0.heap.size, 2, none⟩ v') se so v' (M ++ [(x : Int)])) := HB.out.next hown' hbg
                  have z2 : w2.cell? ⟨w0.heap.size, 2, none⟩ = some (.slice a4 M.length c4) := (hbg.cell (p := ⟨w0.heap.size, 2, none⟩) (Nat.lt_succ_self _)).trans y2
                  have zf : ∀ o, w2.frozen? ⟨w0.heap.size, o, none⟩ = false := fun o => (hbg.frozen (p := ⟨w0.heap.size, o, none⟩) (Nat.lt_succ_self _)).trans (yf o)
                  obtain ⟨a3, c3, rfl⟩ := hown'.shape
                  refine hK.out _ _ trivial (fun hHeld => ?_)
                  clear hK K hown' hgrow hbg y2 yf
                  try simp only [Act.put]
                  try simp only [List.getElem_toArray]
                  try simp only [List.getElem_cons_succ]
                  try simp only [List.getElem_cons_zero]
                  try simp only [List.setIfInBounds_toArray]
                  try simp only [List.set_cons_succ]
                  try simp only [List.set_cons_zero]
                  generalize (M ++ [(x : Int)]).length = n3 at *
                  refine wpAnyH_take (i := 9) (v := ?vt8) rfl (by kernel_rfl) (by kernel_rfl) (by kernel_rfl) (fun _ _ _ h => h) (Or.inl ⟨by rfl, ?yt8⟩) hHeld ?rt8
                  case yt8 => ((intro W hSw; go_simp) <;> with_reducible rfl)
                  try simp only [Act.put]
                  try simp only [List.getElem_toArray]
                  try simp only [List.getElem_cons_succ]
                  try simp only [List.getElem_cons_zero]
                  try simp only [List.setIfInBounds_toArray]
                  try simp only [List.set_cons_succ]
                  try simp only [List.set_cons_zero]
                  refine wpAnyH_ready (rs := [10]) (by kernel_rfl) (by simp) ?_
                  refine AllReadyH.cons rfl (fun K hK => ?_) AllReadyH.nil
                  go_simp
                  refine hK.out _ _ trivial (fun hHeld => ?_)
                  clear hK K
                  refine wpAnyH_done (by kernel_rfl) ?_ _
                  refine NoPanic.normal ?_
                  go_wp2
                  go_roundw
                  case rel => exact ⟨i + 1, _, by go_num, by omega, by rw [HM2.out]; exact HB2.out⟩
                  case measure => simp [intOf]; omega
          · have hi16' : ¬ (i : Int) < 16 := by omega
            have hie : i = 16 := by omega
            subst hie
            have hfin : M ++ entsAt s (k + 4) z = entsAt s (a + 12) z := by
              rw [← HL.out, Hst.out, ← HM.out]
              simp
            have Hfin : Hid (M ++ entsAt s (k + 4) z = entsAt s (a + 12) z) := hfin
            have hMl : 4 * M.length ≤ 17 * (k + 4 - (a + 12)) := by
              have := bitsF_length bt 16
              rw [← HM.out]
              simp
              omega
            clear hfin
            go_wp2
            go_roundw
            case rel => exact ⟨k + 4, by omega, by omega, by omega, by omega, _, M, Hfin.out, hMl, HB.out⟩
            case measure => simp [intOf]; omega
      · have hlt' : ¬ (k : Int) < z := by omega
        have hkz : k = z := by omega
        have HLL : Hid (L = entsAt s (a + 12) z) := by
          have h := HL.out
          rw [hkz, entsAt_end s z z (Nat.le_refl _), List.append_nil] at h
          exact h
        have y0 := HB.out.c0
        have y1 := HB.out.c1
        obtain ⟨i0, hi0, hz0, hz1, hz2⟩ := info_parts asks_info
        have Hi : Hid (Try.prog.info? 40 = some i0 ∧ i0.zero = some (.agg #[.int .i64 0, .int .i64 0, .slice none 0 0]) ∧ i0.size = 3 ∧ i0.bytes = 40) := ⟨hi0, hz0, hz1, hz2⟩
        clear hi0 hz0 hz1 hz2
        go_wp2_with (at_builtin; (
          refine wpList_append_at rfl (.tmp 115) (.tmp 117) 37 rfl w.heap.size 40 i0 _ 3 40 Try.underlying37 Hi.out rfl (by decide) _ xs.length (flatA xs) rfl ((rowN_chg (Chg.ofBelow (T := fun _ => False) HB.out.bel) Hown.out.row (fun _ _ e => e)).alloc _) _ 1 1 [.int .i64 se, .int .i64 so, .slice a2 L.length c2] rfl rfl (cells_new _ [.int .i64 se, .int .i64 so, .slice a2 L.length c2] _) ?_ (by unfold maxLen; omega) (by omega) (by simp; omega) ?_
          · intro u hu; simp at hu; rcases hu with rfl | rfl | rfl <;> rfl
          intro v' w2 hown' hgrow hob
          refine stop_here ?_))
        have Ha2 : Hid (OwnAsks w2 w.heap.size v' (xs ++ [⟨se, so, .slice a2 L.length c2, L⟩])) := by
          refine OwnAsks.snoc (x := ⟨se, so, .slice a2 L.length c2, L⟩) Hown.out (HB.out.bel.alloc (Nat.le_of_lt ysz) _) ((HB.out.own.mono (Nat.le_succ _)).alloc _) (show L.length ≤ 6400 by omega) hws hown' hgrow ?_
          rcases hob with h | h
          · exact .inl h
          · exact .inr (fun b hb => by rw [h] at hb; simp at hb; simp; omega)
        have Hb2 : Hid (Below w.heap.size w w2) := (Hb.out.trans ((HB.out.bel.mono hws).alloc (by omega) _)).grown hgrow (by simp; omega) (fun x hx => (World.ownsRow.lt Hown.out.row x hx).1)
        have Hrs : Hid (RestR s (s.extract z s.size) (xs ++ [⟨se, so, .slice a2 L.length c2, L⟩])) := by
          refine HR.out.take (x := ⟨se, so, .slice a2 L.length c2, L⟩) ?_ rfl rfl
          simp only
          rw [HPa.out, HLL.out]
        obtain ⟨a3, c3, rfl⟩ := rowA_shape hown'
        clear hown' hgrow hob
        refine hid_in ?_
        go_wp2
        go_roundw
        case rel => exact ⟨z, _, rfl, by omega, Hrs.out, by simp; omega, Ha2.out, Hb2.out⟩
        case measure => simp [intOf]; omega

set_option maxHeartbeats 1000000 in
theorem refRep_none (s : ByteArray) (w : World) (h0 : s.size = 0 ∨ 1500 < s.size) (hs : s.size ≤ maxLen) :
    Calls Try.prog 43 #[.string s] w fun e w' => Below w.heap.size w w' ∧ e = .returned wrongR := by
  unfold maxLen at hs
  by_cases hz : s.size = 0
  · have hne : s.toList.isEmpty = true := by rw [isEmpty_size]; exact decide_eq_true hz
    go_enter Try.func43, Try.ntmps43
    go_wp2
    go_ret2
    exact ⟨Below.refl _ _, rfl⟩
  · have hne : s.toList.isEmpty = false := by rw [isEmpty_size]; exact decide_eq_false hz
    have hi : (1500 : Int) < s.size := by omega
    go_enter Try.func43, Try.ntmps43
    go_wp2
    go_ret2
    exact ⟨Below.refl _ _, rfl⟩

theorem refRep_any (s : ByteArray) (w : World) (hs : s.size ≤ maxLen) :
    Calls Try.prog 43 #[.string s] w fun e w' => Below w.heap.size w w' ∧ RepAs (repR s) w.heap.size e w' := by
  unfold repR
  by_cases h : s.size = 0 ∨ 1500 < s.size
  · rw [if_pos h]
    exact refRep_none s w h hs
  · rw [if_neg h]
    exact refRep_mid s w (by omega) (by omega)

end Go.Proofs.Ytdjhhnolcafkiaa
