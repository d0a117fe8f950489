/- A packet is read: with an extension. -/
import Derived.Test.YtdjhhnolcafkiaaG02
import Derived.Test.YtdjhhnolcafkiaaG08
import Derived.Test.YtdjhhnolcafkiaaG03
namespace Go.Proofs.Ytdjhhnolcafkiaa
open Go.RowKit Pk

set_option maxHeartbeats 8000000 in
theorem read_ext (s : ByteArray) (w : World) (hs : 12 ≤ s.size) (hs2 : s.size ≤ 1500) (hm : (B0 s).toNat / 64 = 2) (hat : at0 s ≤ s.size) (hx : (B0 s).toNat / 16 % 2 = 1) :
    Calls Try.prog 47 #[.string s] w fun e w' => Below w.heap.size w w' ∧ ReadAs (readP s) w.heap.size e w' := by
  have hi : (12 : Int) ≤ s.size := by omega
  have hi2 : (s.size : Int) ≤ 1500 := by omega
  have i0 : (0 : Int) < s.size := by omega
  have hbad : bad1 s = false := by unfold bad1; exact decide_eq_false (by omega)
  have HP : Hid (readP s = (extPart s).bind fun x => (padPart s x.2.2).map fun y => mkP s x y) := readP_of s hbad hat
  clear hbad
  have j0 : ∀ W : World, (Instr.index 9 (.string s) (.int .i64 0)).run Try.prog W = .ok (.int .u8 ((B0 s).toNat : Int)) W := fun W => by
    rw [run_index_string W 9 s .i64 0 Try.underlying9, dif_pos ⟨by omega, i0⟩, ← get0 s (by omega)]; rfl
  have hb := (B0 s).toNat_lt
  have hne : (((B0 s).toNat : Int) / 64 != 2) = false := by rw [bne_eq_false_iff_eq]; omega
  have e15 : IntKind.i64.wrap (bits .and .u8 ((B0 s).toNat : Int) 15) = ((B0 s).toNat : Int) % 16 := by rw [low4]; exact (wrapI64 _ (by omega) (by omega)).trans (by omega)
  obtain ⟨A, hA⟩ : ∃ A, A = at0 s := ⟨_, rfl⟩
  have HA : Hid (A = at0 s) := hA
  have hA1 : (12 + 4 * (((B0 s).toNat : Int) % 16)) = (A : Int) := by rw [hA]; unfold at0; omega
  have hA2 : A ≤ s.size := by rw [hA]; exact hat
  have hA3 : 12 ≤ A := by rw [hA]; unfold at0; omega
  clear hm hat hA
  go_enter Try.func47, Try.ntmps47
  go_wp2
  refine wp_scope_fwd 0 rfl ?_
  go_wp2_with fail
  refine (readHead_any s _ hs hs2).mono ?_
  rintro e w1 ⟨rfl, hb1⟩
  rw [get0 s (by omega), get1 s (by omega)]
  have hSt0 := St.init w 33
  have hSt1 := hSt0.below hb1
  have hSt := hSt1
  obtain ⟨bel, siz, r0, r1, r2, r3, r4, r5, r6, r7, r8, r9, r10, y0, y1, y2, y3, y4, y5, y6, y7, y8, y9, y10, fr, fy⟩ := hSt1
  clear hb1 hSt0
  go_wp2_with fail
  clear bel siz r0 r1 r2 r3 r4 r5 r6 r7 r8 r9 r10 y0 y1 y2 y3 y4 y5 y6 y7 y8 y9 y10 fr fy
  refine (readWords_any _ _ (by simp only [ByteArray.size_extract]; omega)).mono ?_
  rintro e w2 ⟨v, rfl, hown, hb2⟩
  have hSt2 := (((((((((((hSt.set0 _).set1 _).set2 _).set3 _).set4 _).set5 _).set6 _).set7 _).set8 _).set9 _).set10 _).below hb2
  have hown2 := hown.mono (base' := w.heap.size + 2) (by have := hSt.siz; simp; omega)
  clear hown hb2 hSt
  obtain ⟨ao, cap, rfl⟩ := hown2.shape
  have Hown : Hid (OwnInts w2 (w.heap.size + 2) _ _) := hown2
  clear hown2
  generalize hcl : words (s.extract 12 A).data.toList = cl at *
  have Hcl : Hid (words (s.extract 12 A).data.toList = cl) := hcl
  clear hcl
  have hSt := hSt2
  obtain ⟨bel, siz, r0, r1, r2, r3, r4, r5, r6, r7, r8, r9, r10, y0, y1, y2, y3, y4, y5, y6, y7, y8, y9, y10, fr, fy⟩ := hSt2
  clear w1
  have hxd : decide ((B0 s).toNat / 16 % 2 = 1) = true := decide_eq_true hx
  have HE : Hid (extPart s = if s.size - A < 4 then none else if s.size - (A + 4) < 4 * num (s.extract (A + 2) (A + 4)).data.toList then none else some (num (s.extract A (A + 2)).data.toList, s.extract (A + 4) (A + 4 + 4 * num (s.extract (A + 2) (A + 4)).data.toList), A + 4 + 4 * num (s.extract (A + 2) (A + 4)).data.toList)) := by
    show _ = _
    unfold extPart extLen
    rw [if_pos hx, HA.out]
  clear hx
  by_cases h4 : s.size - A < 4
  · have h4' : (s.size : Int) - A < 4 := by omega
    have HR : Hid (readP s = none) := by
      show _ = _
      rw [HP.out, HE.out, if_pos h4]
      rfl
    go_wp2
    go_step3
    refine jump_here 0 ?_
    go_wp2
    rw [Exit.noGoto_ret]
    refine bodyPost_ret (v := wrongV) (by simp [results, Try.results47, wrongV, go_sem, r0, r1, r2, r3, r4, r5, r6, r7, r8, r9, r10]) rfl ⟨?_, ?_⟩
    · exact below_fin ((bel.setCell (p := ⟨w.heap.size + 1, 5, none⟩) (by simp) _))
    · rw [HR.out]
      rfl
  · have h4' : ¬ ((s.size : Int) - A < 4) := by omega
    have HE2 : Hid (extPart s = if s.size - (A + 4) < 4 * num (s.extract (A + 2) (A + 4)).data.toList then none else some (num (s.extract A (A + 2)).data.toList, s.extract (A + 4) (A + 4 + 4 * num (s.extract (A + 2) (A + 4)).data.toList), A + 4 + 4 * num (s.extract (A + 2) (A + 4)).data.toList)) := by
      show _ = _
      rw [HE.out, if_neg h4]
    clear HE
    have hA5 : A + 4 ≤ s.size := by omega
    go_wp2_with fail
    refine (readNumber_any _ _ (by simp only [ByteArray.size_extract]; omega)).mono ?_
    rintro e w4 ⟨rfl, rfl⟩
    have hm := num_two s (A + 2)
    generalize num (s.extract (A + 2) (A + 4)).data.toList = m at *
    go_wp2_with fail
    refine (readNumber_any _ _ (by simp only [ByteArray.size_extract]; omega)).mono ?_
    rintro e w4 ⟨rfl, rfl⟩
    generalize num (s.extract A (A + 2)).data.toList = pr at *
    by_cases hL : s.size - (A + 4) < 4 * m
    · have hL' : (s.size : Int) - (A + 4) < 4 * m := by omega
      have HR : Hid (readP s = none) := by
        show _ = _
        rw [HP.out, HE2.out, if_pos hL]
        rfl
      go_wp2
      go_step3
      refine jump_here 0 ?_
      go_wp2
      rw [Exit.noGoto_ret]
      refine bodyPost_ret (v := wrongV) (by simp [results, Try.results47, wrongV, go_sem, r0, r1, r2, r3, r4, r5, r6, r7, r8, r9, r10]) rfl ⟨?_, ?_⟩
      · exact below_fin (((bel.setCell (p := ⟨w.heap.size + 1, 5, none⟩) (by simp) _).setCell (p := ⟨w.heap.size + 1, 7, none⟩) (by simp) _))
      · rw [HR.out]
        rfl
    · have hL' : ¬ ((s.size : Int) - (A + 4) < 4 * m) := by omega
      obtain ⟨A1, hA6⟩ : ∃ A1, A1 = A + 4 + 4 * m := ⟨_, rfl⟩
      have hA7 : A1 ≤ s.size := by omega
      have hA8 : (A : Int) + 4 + 4 * m = A1 := by omega
      have hA9 : A + 4 + 4 * m = A1 := hA6.symm
      have HX : Hid (extPart s = some (pr, s.extract (A + 4) A1, A1)) := by
        show _ = _
        rw [HE2.out, if_neg hL, hA9]
      have hA10 : A + 4 ≤ A1 := by omega
      clear hA6 HE2
      go_wp2_with fail
      clear bel siz r0 r1 r2 r3 r4 r5 r6 r7 r8 r9 r10 y0 y1 y2 y3 y4 y5 y6 y7 y8 y9 y10 fr fy
      refine (clone_any _ _ (by simp only [ByteArray.size_extract]; omega)).mono ?_
      rintro e w5 ⟨rfl, hb5⟩
      have hStn := ((hSt.set5 _).set7 _).below hb5
      have hownn := ((Hown.out.setCell (a := ⟨w.heap.size + 1, 5, none⟩) (by simp) _).setCell (a := ⟨w.heap.size + 1, 7, none⟩) (by simp) _).below hb5
      clear hb5 hSt Hown
      have Hown : Hid (OwnInts w5 (w.heap.size + 2) _ _) := hownn
      clear hownn
      have hSt := hStn
      obtain ⟨bel, siz, r0, r1, r2, r3, r4, r5, r6, r7, r8, r9, r10, y0, y1, y2, y3, y4, y5, y6, y7, y8, y9, y10, fr, fy⟩ := hStn
      generalize s.extract (A + 4) A1 = en at *
      clear w2
      by_cases hp : (B0 s).toNat / 32 % 2 = 1
      · have hpd : (bits .and .u8 ((B0 s).toNat : Int) 32 != 0) = true := by rw [pad_bit]; exact decide_eq_true hp
        have hq := (Bl s).toNat_lt
        have jl : ∀ W : World, (Instr.index 9 (.string s) (.int .i64 ((s.size : Int) - 1))).run Try.prog W = .ok (.int .u8 ((Bl s).toNat : Int)) W := fun W => run_last W s (by omega)
        have HPd : Hid (padPart s A1 = if (Bl s).toNat = 0 ∨ s.size - A1 < (Bl s).toNat then none else if noughts (s.extract (s.size - (Bl s).toNat) (s.size - 1)).data.toList = true then some ((Bl s).toNat, s.size - (Bl s).toNat) else none) := by show _ = _; unfold padPart; rw [if_pos hp]
        clear hp
        generalize hqq : (Bl s).toNat = q at *
        have Hqq : Hid ((Bl s).toNat = q) := hqq
        clear hqq
        by_cases hq0 : q = 0
        · subst hq0
          have HR : Hid (readP s = none) := by
            show _ = _
            rw [HP.out, HX.out]
            simp only [Option.bind_some]
            rw [HPd.out, if_pos (.inl rfl)]
            rfl
          go_wp2
          go_step3
          refine jump_here 0 ?_
          go_wp2
          rw [Exit.noGoto_ret]
          refine bodyPost_ret (v := wrongV) (by simp [results, Try.results47, wrongV, go_sem, r0, r1, r2, r3, r4, r5, r6, r7, r8, r9, r10]) rfl ⟨?_, ?_⟩
          · exact below_fin (((bel.setCell (p := ⟨w.heap.size + 1, 8, none⟩) (by simp) _).setCell (p := ⟨w.heap.size + 1, 10, none⟩) (by simp) _))
          · rw [HR.out]
            rfl
        · have hq0' : ((q : Int) == 0) = false := by simpa using hq0
          by_cases hq1 : s.size - A1 < q
          · have hq1' : (s.size : Int) - (A1 : Nat) < q := by omega
            have HR : Hid (readP s = none) := by
              show _ = _
              rw [HP.out, HX.out]
              simp only [Option.bind_some]
              rw [HPd.out, if_pos (.inr hq1)]
              rfl
            clear hq0
            go_wp2
            go_step3
            refine jump_here 0 ?_
            go_wp2
            rw [Exit.noGoto_ret]
            refine bodyPost_ret (v := wrongV) (by simp [results, Try.results47, wrongV, go_sem, r0, r1, r2, r3, r4, r5, r6, r7, r8, r9, r10]) rfl ⟨?_, ?_⟩
            · exact below_fin (((bel.setCell (p := ⟨w.heap.size + 1, 8, none⟩) (by simp) _).setCell (p := ⟨w.heap.size + 1, 10, none⟩) (by simp) _))
            · rw [HR.out]
              rfl
          · have hq1' : ¬ ((s.size : Int) - (A1 : Nat) < q) := by omega
            have hq2 : (1 : Int) ≤ q := by omega
            have hq3 : (q : Int) ≤ s.size := by omega
            have HPd2 : Hid (padPart s A1 = if noughts (s.extract (s.size - q) (s.size - 1)).data.toList = true then some (q, s.size - q) else none) := by show _ = _; rw [HPd.out, if_neg (by omega)]
            clear hq0 HPd
            have hz1 : s.size - q ≤ s.size - 1 := by omega
            have hz2 : A1 ≤ s.size - q := by omega
            have hz3 : s.size - q ≤ s.size := by omega
            go_wp2_with fail
            refine (allNoughts_any _ _ (by simp only [ByteArray.size_extract]; unfold maxLen; omega)).mono ?_
            rintro e w4 ⟨rfl, rfl⟩
            cases hN : noughts (s.extract (s.size - q) (s.size - 1)).data.toList with
            | false =>
              have HR : Hid (readP s = none) := by
                show _ = _
                rw [HP.out, HX.out]
                simp only [Option.bind_some]
                rw [HPd2.out, hN]
                rfl
              clear hN
              go_wp2
              go_step3
              refine jump_here 0 ?_
              go_wp2
              rw [Exit.noGoto_ret]
              refine bodyPost_ret (v := wrongV) (by simp [results, Try.results47, wrongV, go_sem, r0, r1, r2, r3, r4, r5, r6, r7, r8, r9, r10]) rfl ⟨?_, ?_⟩
              · exact below_fin (((bel.setCell (p := ⟨w.heap.size + 1, 8, none⟩) (by simp) _).setCell (p := ⟨w.heap.size + 1, 10, none⟩) (by simp) _))
              · rw [HR.out]
                rfl
            | true =>
              have HR : Hid (readP s = some (mkP s (pr, en, A1) (q, s.size - q))) := by
                show _ = _
                rw [HP.out, HX.out]
                simp only [Option.bind_some]
                rw [HPd2.out, hN]
                rfl
              clear hN
              go_wp2_with fail
              clear bel siz r0 r1 r2 r3 r4 r5 r6 r7 r8 r9 r10 y0 y1 y2 y3 y4 y5 y6 y7 y8 y9 y10 fr fy
              refine (clone_any _ _ (by simp only [ByteArray.size_extract]; omega)).mono ?_
              rintro e w9 ⟨rfl, hb9⟩
              have hStn := ((hSt.set8 _).set10 _).below hb9
              have hownn := ((Hown.out.setCell (a := ⟨w.heap.size + 1, 8, none⟩) (by simp) _).setCell (a := ⟨w.heap.size + 1, 10, none⟩) (by simp) _).below hb9
              clear hb9 hSt Hown
              have Hown : Hid (OwnInts w9 (w.heap.size + 2) _ _) := hownn
              clear hownn
              have hSt := hStn
              obtain ⟨bel, siz, r0, r1, r2, r3, r4, r5, r6, r7, r8, r9, r10, y0, y1, y2, y3, y4, y5, y6, y7, y8, y9, y10, fr, fy⟩ := hStn
              go_wp2
              simp only [Exit.jump]
              obtain ⟨q1, q2⟩ := told_fin (bel.setCell (p := ⟨w.heap.size + 1, 9, none⟩) (by simp) _) (Hown.out.setCell (a := ⟨w.heap.size + 1, 9, none⟩) (by simp) _)
              refine bodyPost_ret (v := .tuple #[.agg #[.bool (decide (128 ≤ (B1 s).toNat)), .int .i64 ((B1 s).toNat % 128), .int .i64 (num ((s.data.toList.drop 2).take 2)), .int .i64 (num ((s.data.toList.drop 4).take 4)), .int .i64 (num ((s.data.toList.drop 8).take 4)), .slice ao cl.length cap, .bool true, .int .i64 pr, .string en, .string (s.extract A1 (s.size - q)), .int .i64 q], .int .i64 0]) (by simp [results, Try.results47, go_sem, r0, r1, r2, r3, r4, r5, r6, r7, r8, r9, r10]) rfl ⟨?_, ?_⟩
              · exact q1
              · rw [HR.out]
                refine ⟨.slice ao cl.length cap, ?_, ?_⟩
                · simp [okV, mkP, hxd]
                · have e : (mkP s (pr, en, A1) (q, s.size - q)).cl = cl := by rw [← Hcl.out, HA.out]; rfl
                  rw [e]
                  exact q2.mono (by omega)
      · have hpd : (bits .and .u8 ((B0 s).toNat : Int) 32 != 0) = false := by rw [pad_bit]; exact decide_eq_false hp
        have HR : Hid (readP s = some (mkP s (pr, en, A1) (0, s.size))) := by
          show _ = _
          rw [HP.out, HX.out]
          simp [padPart, hp]
        clear hp
        go_wp2_with fail
        clear bel siz r0 r1 r2 r3 r4 r5 r6 r7 r8 r9 r10 y0 y1 y2 y3 y4 y5 y6 y7 y8 y9 y10 fr fy
        refine (clone_any _ _ (by simp only [ByteArray.size_extract]; omega)).mono ?_
        rintro e w9 ⟨rfl, hb9⟩
        have hStn := (hSt.set8 _).below hb9
        have hownn := (Hown.out.setCell (a := ⟨w.heap.size + 1, 8, none⟩) (by simp) _).below hb9
        clear hb9 hSt Hown
        have Hown : Hid (OwnInts w9 (w.heap.size + 2) _ _) := hownn
        clear hownn
        have hSt := hStn
        obtain ⟨bel, siz, r0, r1, r2, r3, r4, r5, r6, r7, r8, r9, r10, y0, y1, y2, y3, y4, y5, y6, y7, y8, y9, y10, fr, fy⟩ := hStn
        go_wp2
        simp only [Exit.jump]
        obtain ⟨q1, q2⟩ := told_fin (bel.setCell (p := ⟨w.heap.size + 1, 9, none⟩) (by simp) _) (Hown.out.setCell (a := ⟨w.heap.size + 1, 9, none⟩) (by simp) _)
        refine bodyPost_ret (v := .tuple #[.agg #[.bool (decide (128 ≤ (B1 s).toNat)), .int .i64 ((B1 s).toNat % 128), .int .i64 (num ((s.data.toList.drop 2).take 2)), .int .i64 (num ((s.data.toList.drop 4).take 4)), .int .i64 (num ((s.data.toList.drop 8).take 4)), .slice ao cl.length cap, .bool true, .int .i64 pr, .string en, .string (s.extract A1 s.size), .int .i64 0], .int .i64 0]) (by simp [results, Try.results47, go_sem, r0, r1, r2, r3, r4, r5, r6, r7, r8, r9, r10]) rfl ⟨?_, ?_⟩
        · exact q1
        · rw [HR.out]
          refine ⟨.slice ao cl.length cap, ?_, ?_⟩
          · simp [okV, mkP, hxd]
          · have e : (mkP s (pr, en, A1) (0, s.size)).cl = cl := by rw [← Hcl.out, HA.out]; rfl
            rw [e]
            exact q2.mono (by omega)

end Go.Proofs.Ytdjhhnolcafkiaa

/- A packet is read: all ways. -/
namespace Go.Proofs.Ytdjhhnolcafkiaa
open Go.RowKit Pk

set_option maxHeartbeats 8000000 in
theorem read_at (s : ByteArray) (w : World) (hs : 12 ≤ s.size) (hs2 : s.size ≤ 1500) (hm : (B0 s).toNat / 64 = 2) (hat : s.size < at0 s) :
    Calls Try.prog 47 #[.string s] w fun e w' => Below w.heap.size w w' ∧ ReadAs (readP s) w.heap.size e w' := by
  have hi : (12 : Int) ≤ s.size := by omega
  have hi2 : (s.size : Int) ≤ 1500 := by omega
  have i0 : (0 : Int) < s.size := by omega
  have hbad : bad1 s = false := by unfold bad1; exact decide_eq_false (by omega)
  have HR : Hid (readP s = none) := readP_at s hbad hat
  clear hbad
  have j0 : ∀ W : World, (Instr.index 9 (.string s) (.int .i64 0)).run Try.prog W = .ok (.int .u8 ((B0 s).toNat : Int)) W := fun W => by
    rw [run_index_string W 9 s .i64 0 Try.underlying9, dif_pos ⟨by omega, i0⟩, ← get0 s (by omega)]; rfl
  have hb := (B0 s).toNat_lt
  have hne : (((B0 s).toNat : Int) / 64 != 2) = false := by rw [bne_eq_false_iff_eq]; omega
  have e15 : IntKind.i64.wrap (bits .and .u8 ((B0 s).toNat : Int) 15) = ((B0 s).toNat : Int) % 16 := by rw [low4]; exact (wrapI64 _ (by omega) (by omega)).trans (by omega)
  obtain ⟨A, hA⟩ : ∃ A, A = at0 s := ⟨_, rfl⟩
  have HA : Hid (A = at0 s) := hA
  have hA1 : (12 + 4 * (((B0 s).toNat : Int) % 16)) = (A : Int) := by rw [hA]; unfold at0; omega
  have hA2 : (s.size : Int) < A := by rw [hA]; omega
  have hA3 : 12 ≤ A := by rw [hA]; unfold at0; omega
  clear hm hat hA
  go_enter Try.func47, Try.ntmps47
  go_wp2
  refine wp_scope_fwd 0 rfl ?_
  go_wp2_with fail
  refine (readHead_any s _ hs hs2).mono ?_
  rintro e w1 ⟨rfl, hb1⟩
  rw [get0 s (by omega), get1 s (by omega)]
  have hSt0 := St.init w 33
  have hSt1 := hSt0.below hb1
  have hSt := hSt1
  obtain ⟨bel, siz, r0, r1, r2, r3, r4, r5, r6, r7, r8, r9, r10, y0, y1, y2, y3, y4, y5, y6, y7, y8, y9, y10, fr, fy⟩ := hSt1
  clear hb1 hSt0
  go_wp2
  go_step3
  refine jump_here 0 ?_
  go_wp2
  rw [Exit.noGoto_ret]
  refine bodyPost_ret (v := wrongV) (by simp [results, Try.results47, wrongV, go_sem, r0, r1, r2, r3, r4, r5, r6, r7, r8, r9, r10]) rfl ⟨?_, ?_⟩
  · exact below_fin (((((((((((bel.setCell (p := ⟨w.heap.size + 1, 0, none⟩) (by simp) _).setCell (p := ⟨w.heap.size + 1, 1, none⟩) (by simp) _).setCell (p := ⟨w.heap.size + 1, 2, none⟩) (by simp) _).setCell (p := ⟨w.heap.size + 1, 3, none⟩) (by simp) _).setCell (p := ⟨w.heap.size + 1, 4, none⟩) (by simp) _).setCell (p := ⟨w.heap.size + 1, 5, none⟩) (by simp) _).setCell (p := ⟨w.heap.size + 1, 6, none⟩) (by simp) _).setCell (p := ⟨w.heap.size + 1, 7, none⟩) (by simp) _).setCell (p := ⟨w.heap.size + 1, 8, none⟩) (by simp) _).setCell (p := ⟨w.heap.size + 1, 9, none⟩) (by simp) _).setCell (p := ⟨w.heap.size + 1, 10, none⟩) (by simp) _)
  · rw [HR.out]
    rfl

theorem readPacket_any (s : ByteArray) (w : World) (hs : s.size ≤ maxLen) :
    Calls Try.prog 47 #[.string s] w fun e w' => Below w.heap.size w w' ∧ ReadAs (readP s) w.heap.size e w' := by
  by_cases h1 : s.size < 12
  · exact read_short s w h1
  · by_cases h2 : 1500 < s.size
    · exact read_long s w h2 hs
    · by_cases h3 : (B0 s).toNat / 64 = 2
      · by_cases h4 : s.size < at0 s
        · exact read_at s w (by omega) (by omega) h3 h4
        · by_cases h5 : (B0 s).toNat / 16 % 2 = 1
          · exact read_ext s w (by omega) (by omega) h3 (by omega) h5
          · exact read_plain s w (by omega) (by omega) h3 (by omega) h5
      · exact read_mark s w (by omega) (by omega) h3

theorem own_fin {w W : World} {b : Nat} {v : Value} {l : List Int} {c0 c1 c2 c3 c4 c5 c6 c7 c8 c9 c10 : Value} (hb : w.heap.size < b) (ho : OwnInts W b v l) :
    OwnInts (((((((((((W.setCell ⟨w.heap.size, 0, none⟩ c0).setCell ⟨w.heap.size, 1, none⟩ c1).setCell ⟨w.heap.size, 2, none⟩ c2).setCell ⟨w.heap.size, 3, none⟩ c3).setCell ⟨w.heap.size, 4, none⟩ c4).setCell ⟨w.heap.size, 5, none⟩ c5).setCell ⟨w.heap.size, 6, none⟩ c6).setCell ⟨w.heap.size, 7, none⟩ c7).setCell ⟨w.heap.size, 8, none⟩ c8).setCell ⟨w.heap.size, 9, none⟩ c9).setCell ⟨w.heap.size, 10, none⟩ c10) b v l := (((((((((((ho.setCell (a := ⟨w.heap.size, 0, none⟩) (by simpa using hb) _).setCell (a := ⟨w.heap.size, 1, none⟩) (by simpa using hb) _).setCell (a := ⟨w.heap.size, 2, none⟩) (by simpa using hb) _).setCell (a := ⟨w.heap.size, 3, none⟩) (by simpa using hb) _).setCell (a := ⟨w.heap.size, 4, none⟩) (by simpa using hb) _).setCell (a := ⟨w.heap.size, 5, none⟩) (by simpa using hb) _).setCell (a := ⟨w.heap.size, 6, none⟩) (by simpa using hb) _).setCell (a := ⟨w.heap.size, 7, none⟩) (by simpa using hb) _).setCell (a := ⟨w.heap.size, 8, none⟩) (by simpa using hb) _).setCell (a := ⟨w.heap.size, 9, none⟩) (by simpa using hb) _).setCell (a := ⟨w.heap.size, 10, none⟩) (by simpa using hb) _)

set_option maxHeartbeats 2000000 in
theorem parsePacket_any (s : ByteArray) (w : World) (hs : s.size ≤ maxLen) :
    Calls Try.prog 18 #[.string s] w fun e w' => Below w.heap.size w w' ∧ ReadAs (readP s) w.heap.size e w' := by
  have HR : ∀ r, Hid (readP s = r) → readP s = r := fun _ h => h
  cases hR : readP s with
  | none =>
    go_enter Try.func18, Try.ntmps18
    go_wp2_with fail
    refine (readPacket_any s _ hs).mono ?_
    rintro e w1 ⟨hb1, hr⟩
    rw [hR] at hr
    obtain ⟨hc, hf⟩ := kept_below hb1 w.heap.size (by simp)
    have hb : Below w.heap.size w w1 := ((Below.refl _ _).alloc (Nat.le_refl _) _).trans (hb1.mono (by simp))
    have he : e = .returned wrongV := hr
    unfold wrongV at he
    subst he
    clear hr hR hb1 HR
    go_wp2
    refine bodyPost_ret (v := wrongV) (by simp [results, Try.results18, wrongV, go_sem, hc]) rfl ⟨below_fin hb, rfl⟩
  | some x =>
    go_enter Try.func18, Try.ntmps18
    go_wp2_with fail
    refine (readPacket_any s _ hs).mono ?_
    rintro e w1 ⟨hb1, hr⟩
    rw [hR] at hr
    obtain ⟨hc, hf⟩ := kept_below hb1 w.heap.size (by simp)
    have hb : Below w.heap.size w w1 := ((Below.refl _ _).alloc (Nat.le_refl _) _).trans (hb1.mono (by simp))
    obtain ⟨v, he, hown0⟩ := hr
    have hown := hown0.mono (base' := w.heap.size + 1) (by simp)
    obtain ⟨ao, cap, hv⟩ := hown.shape
    subst hv
    unfold okV at he
    subst he
    clear hR hb1 HR hown0
    have Hown : Hid (OwnInts w1 (w.heap.size + 1) _ _) := hown
    clear hown
    obtain ⟨mrk, ex, ty, nu, ti, so, pr, pa, cl, en, py⟩ := x
    go_wp2
    refine bodyPost_ret (v := okV ⟨mrk, ex, ty, nu, ti, so, pr, pa, cl, en, py⟩ (.slice ao cl.length cap)) (by simp [results, Try.results18, okV, go_sem, hc]) rfl ⟨below_fin hb, ⟨_, rfl, ?_⟩⟩
    exact (own_fin (by omega) Hown.out).mono (by omega)

end Go.Proofs.Ytdjhhnolcafkiaa

/- What passOn does: plain facts. -/
namespace Go.Proofs.Ytdjhhnolcafkiaa
open Go.RowKit
namespace Pk

/-- the first k wants have had the packet -/
def passTo (M : Md) (p : PP) (cv : Value) (ring k : Nat) : Md := { M with wns := M.wns.mapIdx fun i x => if i < k ∧ x.of_ = p.so then passW x p cv ring else x }
/-- a packet as it goes to a want -/
def textOf (x : Wn) (p : PP) : ByteArray := (tellR p.mrk p.ex x.pl.ty (numOf x p.nu.toNat : Nat) p.ti x.src p.pr p.pa p.cl p.en p.py).1
def textsTo (M : Md) (p : PP) (k : Nat) : List ByteArray := ((M.wns.take k).filter fun x => decide (x.of_ = p.so)).map fun x => textOf x p

theorem passTo_len (M : Md) (p : PP) (cv : Value) (ring k : Nat) : (passTo M p cv ring k).wns.length = M.wns.length := by simp [passTo]
theorem passTo_at (M : Md) (p : PP) (cv : Value) (ring k i : Nat) (x : Wn) (h : M.wns[i]? = some x) : (passTo M p cv ring k).wns[i]? = some (if i < k ∧ x.of_ = p.so then passW x p cv ring else x) := by
  simp [passTo, h]
theorem passTo_zero (M : Md) (p : PP) (cv : Value) (ring : Nat) : passTo M p cv ring 0 = M := by
  obtain ⟨c, s, sds, wns, last⟩ := M
  unfold passTo
  congr 1
  apply List.ext_getElem?
  intro i
  simp
theorem passTo_skip (M : Md) (p : PP) (cv : Value) (ring k : Nat) (x : Wn) (h : M.wns[k]? = some x) (hn : x.of_ ≠ p.so) : passTo M p cv ring (k + 1) = passTo M p cv ring k := by
  unfold passTo
  congr 1
  apply List.ext_getElem?
  intro i
  rw [List.getElem?_mapIdx, List.getElem?_mapIdx]
  by_cases e : i = k
  · subst e
    rw [h]
    simp [hn]
  · cases M.wns[i]? with
    | none => rfl
    | some y =>
      simp only [Option.map_some, Option.some.injEq]
      by_cases hk : i < k
      · have : i < k + 1 := by omega
        simp [hk, this]
      · have : ¬ i < k + 1 := by omega
        simp [hk, this]
theorem passTo_step (M : Md) (p : PP) (cv : Value) (ring k : Nat) (x : Wn) (h : M.wns[k]? = some x) (hn : x.of_ = p.so) : (⟨(passTo M p cv ring k).c, (passTo M p cv ring k).s, (passTo M p cv ring k).sds, (passTo M p cv ring k).wns.set k (passW x p cv ring), (passTo M p cv ring k).last⟩ : Md) = passTo M p cv ring (k + 1) := by
  have hl := (List.getElem?_eq_some_iff.1 h).1
  unfold passTo
  congr 1
  apply List.ext_getElem?
  intro i
  rw [List.getElem?_set, List.getElem?_mapIdx, List.getElem?_mapIdx]
  by_cases e : k = i
  · subst e
    rw [h, if_pos rfl, if_pos (by simpa using hl)]
    simp [hn]
  · rw [if_neg e]
    cases M.wns[i]? with
    | none => rfl
    | some y =>
      simp only [Option.map_some, Option.some.injEq]
      by_cases hk : i < k
      · have : i < k + 1 := by omega
        simp [hk, this]
      · have : ¬ i < k + 1 := by omega
        simp [hk, this]
theorem textsTo_zero (M : Md) (p : PP) : textsTo M p 0 = [] := by simp [textsTo]
theorem textsTo_skip (M : Md) (p : PP) (k : Nat) (x : Wn) (h : M.wns[k]? = some x) (hn : x.of_ ≠ p.so) : textsTo M p (k + 1) = textsTo M p k := by
  unfold textsTo
  rw [List.take_add_one, h, List.filter_append]
  simp [hn]
theorem textsTo_step (M : Md) (p : PP) (k : Nat) (x : Wn) (h : M.wns[k]? = some x) (hn : x.of_ = p.so) : textsTo M p (k + 1) = textsTo M p k ++ [textOf x p] := by
  unfold textsTo
  rw [List.take_add_one, h, List.filter_append, List.map_append]
  simp [hn]
theorem textsTo_len (M : Md) (p : PP) (k : Nat) : (textsTo M p k).length ≤ k := by
  unfold textsTo
  rw [List.length_map]
  exact Nat.le_trans (List.length_filter_le _ _) (by rw [List.length_take]; exact Nat.min_le_left _ _)

/-- the cells of a packet in its box -/
structure PbAt (B : Nat) (p : PP) (cv : Value) (W : World) : Prop where
  q0 : W.cell? ⟨B, 0, none⟩ = some (.bool p.mrk)
  q1 : W.cell? ⟨B, 1, none⟩ = some (.int .i64 p.ty)
  q2 : W.cell? ⟨B, 2, none⟩ = some (.int .i64 p.nu)
  q3 : W.cell? ⟨B, 3, none⟩ = some (.int .i64 p.ti)
  q4 : W.cell? ⟨B, 4, none⟩ = some (.int .i64 p.so)
  q5 : W.cell? ⟨B, 5, none⟩ = some cv
  q6 : W.cell? ⟨B, 6, none⟩ = some (.bool p.ex)
  q7 : W.cell? ⟨B, 7, none⟩ = some (.int .i64 p.pr)
  q8 : W.cell? ⟨B, 8, none⟩ = some (.string p.en)
  q9 : W.cell? ⟨B, 9, none⟩ = some (.string p.py)
  q10 : W.cell? ⟨B, 10, none⟩ = some (.int .i64 p.pa)
theorem PbAt.chg {T : Nat → Prop} {W W' : World} {B : Nat} {p : PP} {cv : Value} (h : PbAt B p cv W) (hc : Chg T W W') (hn : ¬ T B) : PbAt B p cv W' :=
  ⟨hc.cell h.q0 hn, hc.cell h.q1 hn, hc.cell h.q2 hn, hc.cell h.q3 hn, hc.cell h.q4 hn, hc.cell h.q5 hn, hc.cell h.q6 hn, hc.cell h.q7 hn, hc.cell h.q8 hn, hc.cell h.q9 hn, hc.cell h.q10 hn⟩
theorem PbAt.below {W W' : World} {B : Nat} {p : PP} {cv : Value} (h : PbAt B p cv W) (hb : Below W.heap.size W W') : PbAt B p cv W' := h.chg (T := fun _ => False) (Chg.ofBelow hb) (fun e => e)
theorem PbAt.lt {W : World} {B : Nat} {p : PP} {cv : Value} (h : PbAt B p cv W) : B < W.heap.size := lt_of_cell h.q0

/-- how things stand when k wants have had the packet -/
structure PassRel (w : World) (ρ : Nat → Nat) (mb : Nat) (M : Md) (sv wv : Value) (SB : List (Nat × Value)) (p : PP) (cv : Value) (ring k : Nat) (ov : Value) (W : World) (ρ' : Nat → Nat) (WB : List (Nat × Value)) : Prop where
  md : MdAt W ρ' mb (passTo M p cv ring k) sv wv SB WB
  ic : IsC (fun b => ρ' b = 4) W cv p.cl
  row : W.ownsRow (w.heap.size + 1) 9 1 ov (textsTo M p k).length ((textsTo M p k).map Value.string)
  r0 : ∀ b, ov.ownBlock = some b → ρ' b = 0
  rb : ρ' w.heap.size = 0
  bx : PbAt w.heap.size p cv W
  z : ∀ b, b < w.heap.size → ρ b = 0 → ρ' b = 0
  chg : Chg (fun b => ρ b ≠ 0) w W

theorem PassRel.skip {w : World} {ρ : Nat → Nat} {mb : Nat} {M : Md} {sv wv : Value} {SB : List (Nat × Value)} {p : PP} {cv : Value} {ring k : Nat} {ov : Value} {W : World} {ρ' : Nat → Nat} {WB : List (Nat × Value)} (h : PassRel w ρ mb M sv wv SB p cv ring k ov W ρ' WB) {x : Wn} (hx : M.wns[k]? = some x) (hn : x.of_ ≠ p.so) : PassRel w ρ mb M sv wv SB p cv ring (k + 1) ov W ρ' WB := by
  obtain ⟨a, b, c, d, e, f, g, i⟩ := h
  refine ⟨?_, b, ?_, d, e, f, g, i⟩
  · rw [passTo_skip M p cv ring k x hx hn]; exact a
  · rw [textsTo_skip M p k x hx hn]; exact c

theorem PassRel.step {w : World} {ρ : Nat → Nat} {mb : Nat} {M : Md} {sv wv : Value} {SB : List (Nat × Value)} {p : PP} {cv : Value} {ring k : Nat} {ov : Value} {W : World} {ρ' : Nat → Nat} {WB : List (Nat × Value)} (h : PassRel w ρ mb M sv wv SB p cv ring k ov W ρ' WB) {x : Wn} (hx : M.wns[k]? = some x) (hn : x.of_ = p.so)
    {q : Nat × Value} {v1 ov' : Value} {Wd W1 W2 W3 : World} {ob : Obj} (hq : WB[k]? = some q) (hd : Below W.heap.size W Wd) (hW1 : WnAt (fun b => ρ' b = 4) W1 (q.1 + 1) q.1 v1 (passW x p cv ring)) (hU1 : SdUp Wd W1 q.1 q.2 v1) (hb2 : Below W1.heap.size W1 W2) (hg : (W2.alloc ob).grownBy W3 ov.ownBlock)
    (hrow : W3.ownsRow (w.heap.size + 1) 9 1 ov' ((textsTo M p k).length + 1) ((textsTo M p k).map Value.string ++ [.string (textOf x p)])) (hob : ov'.ownBlock = ov.ownBlock ∨ ov'.ownBlock = some (W2.alloc ob).heap.size) :
    ∃ ρ3 WB3, PassRel w ρ mb M sv wv SB p cv ring (k + 1) ov' W3 ρ3 WB3 := by
  have hMd := h.md.below hd
  have hxk : (passTo M p cv ring k).wns[k]? = some x := by rw [passTo_at M p cv ring k k x hx]; simp
  obtain ⟨_, hr1, hr2⟩ := hMd.wa k q x hq hxk
  obtain ⟨m1, z1, c1⟩ := hMd.wnt (x' := passW x p cv ring) hq hxk rfl hW1 hU1
  rw [passTo_step M p cv ring k x hx hn] at m1
  have hbx := h.bx.lt
  have hWd := hd.size
  have hW2a : Below W1.heap.size W1 (W2.alloc ob) := hb2.alloc hb2.size _
  have m2 := m1.below hW2a
  have hovlt : ∀ b, ov.ownBlock = some b → b < W.heap.size ∧ w.heap.size + 1 ≤ b := fun b hb => ⟨(h.row.lt b hb).2, (h.row.lt b hb).1⟩
  have hz : ∀ b, b < W.heap.size → ρ' b = 0 → (if v1.ownBlock = some b then 1001 + 2 * x.id.toNat else ρ' b) = 0 := fun b hb e => z1 b (Nat.lt_of_lt_of_le hb hWd) e
  have hov : ∀ b, ov.ownBlock = some b → (if v1.ownBlock = some b then 1001 + 2 * x.id.toNat else ρ' b) = 0 := fun b hb => hz b (hovlt b hb).1 (h.r0 b hb)
  have m3 := m2.chg (Chg.ofGrown hg) hov
  have cU : ∀ b, (b = q.1 ∨ q.2.ownBlock = some b) → ρ' b ≠ 0 ∧ ρ' b ≠ 4 := fun b hb => by
    rcases hb with e | e
    · rw [e, hr1]; omega
    · rw [hr2 b e]; omega
  have ic1 : IsC (fun b => (if v1.ownBlock = some b then 1001 + 2 * x.id.toNat else ρ' b) = 4) W1 cv p.cl := by
    have i1 : IsC (fun b => ρ' b = 4) W1 cv p.cl := (h.ic.chg (T := fun _ => False) (Chg.ofBelow hd) (fun _ _ e => e)).chg hU1.chg (fun b hb e => (cU b e).2 hb)
    refine i1.mono (fun b _ e => ?_)
    rw [if_neg (fun e' => ?_)]
    · exact e
    · rcases hU1.own b e' with e2 | e2
      · exact (cU b (.inr e2)).2 e
      · have := hMd.hi b e2
        omega
  have cAll : Chg (fun b => ρ b ≠ 0) w W3 := by
    have t1 : Chg (fun b => ρ b ≠ 0) w Wd := h.chg.trans (T' := fun _ => False) (Chg.ofBelow hd) (fun _ _ e => e.elim)
    have t2 : Chg (fun b => ρ b ≠ 0) w W1 := t1.trans hU1.chg (fun b hb e => fun e0 => (cU b e).1 (h.z b hb e0))
    have t3 : Chg (fun b => ρ b ≠ 0) w (W2.alloc ob) := t2.trans (T' := fun _ => False) (Chg.ofBelow hW2a) (fun _ _ e => e.elim)
    exact t3.trans (Chg.ofGrown hg) (fun b hb e => by have := (hovlt b e).2; omega)
  have b1 : PbAt w.heap.size p cv W1 := (h.bx.below hd).chg hU1.chg (fun e => (cU _ e).1 h.rb)
  refine ⟨_, _, m3, ?_, ?_, ?_, hz _ hbx h.rb, (b1.below hW2a).chg (Chg.ofGrown hg) (fun e => by have := (hovlt _ e).2; omega), fun b hb e => hz b (Nat.lt_of_lt_of_le hb h.chg.size) (h.z b hb e), cAll⟩
  · exact (ic1.chg (T := fun _ => False) (Chg.ofBelow hW2a) (fun _ _ e => e)).chg (Chg.ofGrown hg) (fun b hb e => by have := hov b e; omega)
  · rw [textsTo_step M p k x hx hn, List.length_append, List.map_append]
    exact hrow
  · intro b hb
    rcases hob with e | e
    · exact hov b (e ▸ hb)
    · rw [e] at hb
      cases hb
      exact m2.hi _ (Nat.le_refl _)
end Pk
end Go.Proofs.Ytdjhhnolcafkiaa

/- passOn. -/
namespace Go.Proofs.Ytdjhhnolcafkiaa
open Go.RowKit
namespace Pk
theorem infoT : (Try.prog.info? 9).map (fun i => (i.zero, i.size, i.bytes)) = some (some (.string ⟨#[]⟩), 1, 16) := by kernel_rfl
/-- what stays while a packet is passed to a want -/
def PsS (mb B ring : Nat) (mk ex : Bool) (ty n ti so pr pa : Int) (cv : Value) (en py : ByteArray) (W : World) : Prop :=
  W.cell? ⟨mb, 0, none⟩ = some (.int .i64 ring) ∧ W.cell? ⟨B, 0, none⟩ = some (.bool mk) ∧ W.cell? ⟨B, 1, none⟩ = some (.int .i64 ty) ∧ W.cell? ⟨B, 2, none⟩ = some (.int .i64 n) ∧ W.cell? ⟨B, 3, none⟩ = some (.int .i64 ti) ∧ W.cell? ⟨B, 4, none⟩ = some (.int .i64 so) ∧ W.cell? ⟨B, 5, none⟩ = some cv ∧ W.cell? ⟨B, 6, none⟩ = some (.bool ex) ∧ W.cell? ⟨B, 7, none⟩ = some (.int .i64 pr) ∧ W.cell? ⟨B, 8, none⟩ = some (.string en) ∧ W.cell? ⟨B, 9, none⟩ = some (.string py) ∧ W.cell? ⟨B, 10, none⟩ = some (.int .i64 pa)
theorem PsS.of {mb B ring : Nat} {mk ex : Bool} {ty n ti so pr pa : Int} {cl : List Int} {cv : Value} {en py : ByteArray} {W : World} (h0 : W.cell? ⟨mb, 0, none⟩ = some (.int .i64 ring)) (h : PbAt B ⟨mk, ex, ty, n, ti, so, pr, pa, cl, en, py⟩ cv W) : PsS mb B ring mk ex ty n ti so pr pa cv en py W :=
  ⟨h0, h.q0, h.q1, h.q2, h.q3, h.q4, h.q5, h.q6, h.q7, h.q8, h.q9, h.q10⟩
theorem PsS.chg {T : Nat → Prop} {W W' : World} {mb B ring : Nat} {mk ex : Bool} {ty n ti so pr pa : Int} {cv : Value} {en py : ByteArray} (h : PsS mb B ring mk ex ty n ti so pr pa cv en py W) (hc : Chg T W W') (h1 : ¬ T mb) (h2 : ¬ T B) : PsS mb B ring mk ex ty n ti so pr pa cv en py W' := by
  obtain ⟨a, b0, b1, b2, b3, b4, b5, b6, b7, b8, b9, b10⟩ := h
  exact ⟨hc.cell a h1, hc.cell b0 h2, hc.cell b1 h2, hc.cell b2 h2, hc.cell b3 h2, hc.cell b4 h2, hc.cell b5 h2, hc.cell b6 h2, hc.cell b7 h2, hc.cell b8 h2, hc.cell b9 h2, hc.cell b10 h2⟩
theorem PsS.below {W W' : World} {mb B ring : Nat} {mk ex : Bool} {ty n ti so pr pa : Int} {cv : Value} {en py : ByteArray} (h : PsS mb B ring mk ex ty n ti so pr pa cv en py W) (hb : Below W.heap.size W W') : PsS mb B ring mk ex ty n ti so pr pa cv en py W' := h.chg (T := fun _ => False) (Chg.ofBelow hb) (fun e => e) (fun e => e)
def WOk (x : Wn) : Prop := 0 ≤ x.pl.first ∧ x.pl.first ≤ 65535 ∧ x.shift < 65536 ∧ x.kept.length ≤ 90000
end Pk
open Pk

set_option maxRecDepth 20000 in
set_option maxHeartbeats 2000000 in
theorem passOn_any (ρ : Nat → Nat) (mb : Nat) (M : Md) (sv wv : Value) (SB WB : List (Nat × Value)) (mk ex : Bool) (ty ti so pr pa : Int) (n : Nat) (cl : List Int) (en py : ByteArray) (cv : Value) (ring : Nat) (w : World) (h : MdAt w ρ mb M sv wv SB WB) (hcv : IsC (fun b => ρ b = 4) w cv cl)
    (hr : M.c.ring = ring) (hring : ring ≤ 1000) (hn : n < 65536) (h8 : M.wns.length ≤ 8) (hw : ∀ x ∈ M.wns, WOk x) (hcl : cl.length ≤ 1000) (hen : en.size ≤ 1000000) (hpy : py.size ≤ 1000000) :
    Calls Try.prog 56 #[.pointer (some ⟨mb, 0, none⟩), .agg #[.bool mk, .int .i64 ty, .int .i64 n, .int .i64 ti, .int .i64 so, cv, .bool ex, .int .i64 pr, .string en, .string py, .int .i64 pa]] w fun e w' =>
      ∃ ρ' WB' ov, e = .returned ov ∧ PassRel w ρ mb M sv wv SB ⟨mk, ex, ty, n, ti, so, pr, pa, cl, en, py⟩ cv ring M.wns.length ov w' ρ' WB' := by
  obtain ⟨ao, cap, rfl⟩ := rowA_shape h.wr
  obtain ⟨acv, ccv, rfl, -⟩ := id hcv
  have Hr : Hid (M.c.ring = ring) := hr
  have Hw : Hid (∀ x ∈ M.wns, WOk x) := hw
  have hlt := h.lt
  have y19 : w.cell? ⟨mb, 19, none⟩ = some (.slice ao WB.length cap) := h.k 19 _ rfl
  have Hwl : Hid (WB.length = M.wns.length) := h.wl
  have HR0 : Hid (PassRel w ρ mb M sv (.slice ao WB.length cap) SB ⟨mk, ex, ty, n, ti, so, pr, pa, cl, en, py⟩ (.slice acv cl.length ccv) ring 0 (.slice none 0 0) (w.alloc (.cells #[.bool mk, .int .i64 ty, .int .i64 n, .int .i64 ti, .int .i64 so, .slice acv cl.length ccv, .bool ex, .int .i64 pr, .string en, .string py, .int .i64 pa] 33)) ρ WB) := by
    have hb0 : Below w.heap.size w (w.alloc (.cells #[.bool mk, .int .i64 ty, .int .i64 n, .int .i64 ti, .int .i64 so, .slice acv cl.length ccv, .bool ex, .int .i64 pr, .string en, .string py, .int .i64 pa] 33)) := (Below.refl _ _).alloc (Nat.le_refl _) _
    refine ⟨?_, hcv.chg (T := fun _ => False) (Chg.ofBelow hb0) (fun _ _ e => e), ?_, fun b hb => (by cases hb), h.hi _ (Nat.le_refl _), ⟨cell_new _ _ _ 0, cell_new _ _ _ 1, cell_new _ _ _ 2, cell_new _ _ _ 3, cell_new _ _ _ 4, cell_new _ _ _ 5, cell_new _ _ _ 6, cell_new _ _ _ 7, cell_new _ _ _ 8, cell_new _ _ _ 9, cell_new _ _ _ 10⟩, fun _ _ e => e, Chg.ofBelow hb0⟩
    · rw [passTo_zero]; exact h.below hb0
    · rw [textsTo_zero]; exact World.ownsRow_nil _ _ _ _
  obtain ⟨i0, hi0, hz0, hz1, hz2⟩ := info_parts infoT
  have Hi : Hid (Try.prog.info? 9 = some i0 ∧ i0.zero = some (.string ⟨#[]⟩) ∧ i0.size = 1 ∧ i0.bytes = 16) := ⟨hi0, hz0, hz1, hz2⟩
  clear h hcv hr hw hi0 hz0 hz1 hz2
  go_enter Try.func56, Try.ntmps56
  go_wp2
  go_loopw [5, 15] (fun s5 s15 wr => ∃ (k : Nat) (ρ' : Nat → Nat) (WB' : List (Nat × Value)), k ≤ WB.length ∧ s15 = .int .i64 k ∧ PassRel w ρ mb M sv (.slice ao WB.length cap) SB ⟨mk, ex, ty, n, ti, so, pr, pa, cl, en, py⟩ (.slice acv cl.length ccv) ring k s5 wr ρ' WB') (fun _ s15 _ => WB.length - (intOf s15).toNat)
  case atStart => exact ⟨0, ρ, WB, Nat.zero_le _, rfl, HR0.out⟩
  case round =>
    obtain ⟨k, ρ', WB', hk, rfl, hR⟩ := hrel
    obtain ⟨ov, oc, rfl⟩ := rowA_shape hR.row
    have HR : Hid (PassRel w ρ mb M sv (.slice ao WB.length cap) SB ⟨mk, ex, ty, n, ti, so, pr, pa, cl, en, py⟩ (.slice acv cl.length ccv) ring k (.slice ov (textsTo M ⟨mk, ex, ty, n, ti, so, pr, pa, cl, en, py⟩ k).length oc) wr ρ' WB') := hR
    have htl := textsTo_len M ⟨mk, ex, ty, n, ti, so, pr, pa, cl, en, py⟩ k
    generalize hkl : (textsTo M ⟨mk, ex, ty, n, ti, so, pr, pa, cl, en, py⟩ k).length = tl at *
    have Hkl : Hid ((textsTo M ⟨mk, ex, ty, n, ti, so, pr, pa, cl, en, py⟩ k).length = tl) := hkl
    have q4 := hR.bx.q4
    clear hR hkl
    by_cases hlt : k < WB.length
    · have hlt' : (k : Int) < WB.length := by omega
      have hwl' : WB'.length = WB.length := by rw [HR.out.md.wl, passTo_len, Hwl.out]
      have hwr := HR.out.md.wr
      rw [hwl'] at hwr
      obtain ⟨g, rfl⟩ := rowA_some hwr (by omega)
      have hks : k < M.wns.length := by have := Hwl.out; omega
      have hp : WB'[k]? = some (WB'[k]'(by omega)) := List.getElem?_eq_getElem (by omega)
      have hs : M.wns[k]? = some M.wns[k] := List.getElem?_eq_getElem hks
      obtain ⟨q, hq⟩ : ∃ q, WB'[k]'(by omega) = q := ⟨_, rfl⟩
      obtain ⟨x, hx⟩ : ∃ x, M.wns[k] = x := ⟨_, rfl⟩
      rw [hq] at hp
      rw [hx] at hs
      have d0 : wr.cell? ⟨g, k, none⟩ = some (ptr q.1) := by
        have h := hwr.cellAt k (by omega)
        rw [h, List.getElem?_map, hp]
        rfl
      have hxk : (passTo M ⟨mk, ex, ty, n, ti, so, pr, pa, cl, en, py⟩ (.slice acv cl.length ccv) ring k).wns[k]? = some x := by rw [passTo_at _ _ _ _ k k x hs]; simp
      obtain ⟨hWn, hr1, hr2⟩ := HR.out.md.wa k q x hp hxk
      have Hp : Hid (WB'[k]? = some q) := hp
      have Hs : Hid (M.wns[k]? = some x) := hs
      have HWn : Hid (WnAt (fun b => ρ' b = 4) wr (q.1 + 1) q.1 q.2 x) := hWn
      have hc4 := hWn.c4
      have HWO : Hid (WOk x) := Hw.out x (List.mem_of_getElem? hs)
      unfold ptr at d0
      clear hq hx hp hs hWn hxk hwr
      go_wp2_with fail
      refine (wantOf_any q.1 x.of_ so _ hc4).mono ?_
      rintro e w1 ⟨rfl, hw1⟩
      rw [hw1]
      clear hw1
      by_cases he : x.of_ = so
      · rw [decide_eq_true he]
        have He : Hid (x.of_ = so) := he
        clear he hc4
        go_wp2
        have HS : Hid (PsS mb w.heap.size ring mk ex ty n ti so pr pa (.slice acv cl.length ccv) en py wr) := by
          refine PsS.of ?_ HR.out.bx
          have := HR.out.md.k 0 _ rfl
          rw [this]
          exact congrArg (fun z => some (Value.int .i64 z)) Hr.out
        have hmr : ρ' mb = 1 := HR.out.md.rm
        have hbr : ρ' w.heap.size = 0 := HR.out.rb
        have cU : ∀ b, (b = q.1 ∨ q.2.ownBlock = some b) → ρ' b ≠ 0 ∧ ρ' b ≠ 1 := fun b hb => by
          rcases hb with e | e
          · rw [e, hr1]; omega
          · rw [hr2 b e]; omega
        have HU : Hid (∀ b, (b = q.1 ∨ q.2.ownBlock = some b) → ρ' b ≠ 0 ∧ ρ' b ≠ 1) := cU
        clear cU hr1 hr2 q4
        have HWd : Hid (WnAt (fun b => ρ' b = 4) wr.drew (q.1 + 1) q.1 q.2 x) := HWn.out.below (Below.refl _ _).drew
        have HId : Hid (IsC (fun b => ρ' b = 4) wr.drew (.slice acv cl.length ccv) cl) := HR.out.ic.chg (T := fun _ => False) (Chg.refl _ _).drew (fun _ _ e => e)
        have Hbd : Hid (Below wr.heap.size wr wr.drew) := (Below.refl _ _).drew
        have HCd : Hid (∀ b, ρ' b = 4 → b < wr.drew.heap.size) := fun b hb => by
          rcases Nat.lt_or_ge b wr.heap.size with h | h
          · exact h
          · have := HR.out.md.hi b h
            omega
        refine wp_region_noPanic ?_
        refine wp_region_held_drew (S := PsS mb w.heap.size ring mk ex ty n ti so pr pa (.slice acv cl.length ccv) en py) (by kernel_rfl) HS.out (fun hHeld => ?_)
        refine wpAnyH_take (i := 0) (v := ?vt1) rfl (by kernel_rfl) (by kernel_rfl) (by kernel_rfl) (fun _ _ _ h => h) (Or.inl ⟨by rfl, ?yt1⟩) hHeld ?rt1
        case yt1 => ((intro W hSw; obtain ⟨hS0, hS1, hS2, hS3, hS4, hS5, hS6, hS7, hS8, hS9, hS10, hS11⟩ := hSw; go_simp) <;> with_reducible rfl)
        try simp only [Act.put]
        try simp only [List.getElem_toArray]
        try simp only [List.getElem_cons_succ]
        try simp only [List.getElem_cons_zero]
        try simp only [List.setIfInBounds_toArray]
        try simp only [List.set_cons_succ]
        try simp only [List.set_cons_zero]
        refine wpAnyH_take (i := 1) (v := ?vt2) rfl (by kernel_rfl) (by kernel_rfl) (by kernel_rfl) (fun _ _ _ h => h) (Or.inl ⟨by rfl, ?yt2⟩) hHeld ?rt2
        case yt2 => ((intro W hSw; obtain ⟨hS0, hS1, hS2, hS3, hS4, hS5, hS6, hS7, hS8, hS9, hS10, hS11⟩ := hSw; go_simp) <;> with_reducible rfl)
        try simp only [Act.put]
        try simp only [List.getElem_toArray]
        try simp only [List.getElem_cons_succ]
        try simp only [List.getElem_cons_zero]
        try simp only [List.setIfInBounds_toArray]
        try simp only [List.set_cons_succ]
        try simp only [List.set_cons_zero]
        refine wpAnyH_take (i := 2) (v := ?vt3) rfl (by kernel_rfl) (by kernel_rfl) (by kernel_rfl) (fun _ _ _ h => h) (Or.inl ⟨by rfl, ?yt3⟩) hHeld ?rt3
        case yt3 => ((intro W hSw; obtain ⟨hS0, hS1, hS2, hS3, hS4, hS5, hS6, hS7, hS8, hS9, hS10, hS11⟩ := hSw; go_simp) <;> with_reducible rfl)
        try simp only [Act.put]
        try simp only [List.getElem_toArray]
        try simp only [List.getElem_cons_succ]
        try simp only [List.getElem_cons_zero]
        try simp only [List.setIfInBounds_toArray]
        try simp only [List.set_cons_succ]
        try simp only [List.set_cons_zero]
        refine wpAnyH_take (i := 3) (v := ?vt4) rfl (by kernel_rfl) (by kernel_rfl) (by kernel_rfl) (fun _ _ _ h => h) (Or.inl ⟨by rfl, ?yt4⟩) hHeld ?rt4
        case yt4 => ((intro W hSw; obtain ⟨hS0, hS1, hS2, hS3, hS4, hS5, hS6, hS7, hS8, hS9, hS10, hS11⟩ := hSw; go_simp) <;> with_reducible rfl)
        try simp only [Act.put]
        try simp only [List.getElem_toArray]
        try simp only [List.getElem_cons_succ]
        try simp only [List.getElem_cons_zero]
        try simp only [List.setIfInBounds_toArray]
        try simp only [List.set_cons_succ]
        try simp only [List.set_cons_zero]
        refine wpAnyH_take (i := 4) (v := ?vt5) rfl (by kernel_rfl) (by kernel_rfl) (by kernel_rfl) (fun _ _ _ h => h) (Or.inl ⟨by rfl, ?yt5⟩) hHeld ?rt5
        case yt5 => ((intro W hSw; obtain ⟨hS0, hS1, hS2, hS3, hS4, hS5, hS6, hS7, hS8, hS9, hS10, hS11⟩ := hSw; go_simp) <;> with_reducible rfl)
        try simp only [Act.put]
        try simp only [List.getElem_toArray]
        try simp only [List.getElem_cons_succ]
        try simp only [List.getElem_cons_zero]
        try simp only [List.setIfInBounds_toArray]
        try simp only [List.set_cons_succ]
        try simp only [List.set_cons_zero]
        refine wpAnyH_take (i := 5) (v := ?vt6) rfl (by kernel_rfl) (by kernel_rfl) (by kernel_rfl) (fun _ _ _ h => h) (Or.inl ⟨by rfl, ?yt6⟩) hHeld ?rt6
        case yt6 => ((intro W hSw; obtain ⟨hS0, hS1, hS2, hS3, hS4, hS5, hS6, hS7, hS8, hS9, hS10, hS11⟩ := hSw; go_simp) <;> with_reducible rfl)
        try simp only [Act.put]
        try simp only [List.getElem_toArray]
        try simp only [List.getElem_cons_succ]
        try simp only [List.getElem_cons_zero]
        try simp only [List.setIfInBounds_toArray]
        try simp only [List.set_cons_succ]
        try simp only [List.set_cons_zero]
        refine wpAnyH_take (i := 6) (v := ?vt7) rfl (by kernel_rfl) (by kernel_rfl) (by kernel_rfl) (fun _ _ _ h => h) (Or.inl ⟨by rfl, ?yt7⟩) hHeld ?rt7
        case yt7 => ((intro W hSw; obtain ⟨hS0, hS1, hS2, hS3, hS4, hS5, hS6, hS7, hS8, hS9, hS10, hS11⟩ := hSw; go_simp) <;> with_reducible rfl)
        try simp only [Act.put]
        try simp only [List.getElem_toArray]
        try simp only [List.getElem_cons_succ]
        try simp only [List.getElem_cons_zero]
        try simp only [List.setIfInBounds_toArray]
        try simp only [List.set_cons_succ]
        try simp only [List.set_cons_zero]
        refine wpAnyH_ready (rs := [7]) (by kernel_rfl) (by simp) ?_
        refine AllReadyH.cons rfl (fun K hK => ?_) AllReadyH.nil
        go_simp
        refine (pass_any (fun b => ρ' b = 4) (q.1 + 1) q.1 q.2 x mk ex ty ti so pr pa n (.slice acv cl.length ccv) cl en py ring _ HWd.out HId.out HCd.out hn HWO.out.1 HWO.out.2.1 HWO.out.2.2.1 HWO.out.2.2.2 hring HWd.out.lt).mono ?_
        rintro e w1 ⟨rfl, v1, hW1, hU1⟩
        have HW1 : Hid (WnAt (fun b => ρ' b = 4) w1 (q.1 + 1) q.1 v1 (passW x ⟨mk, ex, ty, n, ti, so, pr, pa, cl, en, py⟩ (.slice acv cl.length ccv) ring)) := hW1
        have HU1 : Hid (SdUp wr.drew w1 q.1 q.2 v1) := hU1
        have hS1 : PsS mb w.heap.size ring mk ex ty n ti so pr pa (.slice acv cl.length ccv) en py w1 := PsS.chg hHeld hU1.chg (fun e => (HU.out _ e).2 hmr) (fun e => (HU.out _ e).1 hbr)
        have HI1 : Hid (IsC (fun b => ρ' b = 4) w1 (.slice acv cl.length ccv) cl) := HId.out.chg hU1.chg (fun b hb e => by
          rcases e with e | e
          · exact HWd.out.n1 (e ▸ hb)
          · exact HWd.out.n2 b e hb)
        clear hW1 hU1
        generalize hnm : numOf x n = nm at *
        have Hnm : Hid (numOf x n = nm) := hnm
        clear hnm
        go_simp
        refine hK.out _ _ hS1 (fun hHeld => ?_)
        clear hK K
        try simp only [Act.put]
        try simp only [List.getElem_toArray]
        try simp only [List.getElem_cons_succ]
        try simp only [List.getElem_cons_zero]
        try simp only [List.setIfInBounds_toArray]
        try simp only [List.set_cons_succ]
        try simp only [List.set_cons_zero]
        refine wpAnyH_ready (rs := [8]) (by kernel_rfl) (by simp) ?_
        refine AllReadyH.cons rfl (fun K hK => ?_) AllReadyH.nil
        go_simp
        refine (writePacket_any mk ex x.pl.ty nm ti x.src pr pa (.slice acv cl.length ccv) cl en py _ _ (Nat.le_refl _) HI1.out.isInts (by omega) (by omega) (by omega)).mono ?_
        rintro e w2 ⟨rfl, hb2⟩
        have Hb2 : Hid (Below w1.heap.size w1 w2) := hb2
        have hS2 : PsS mb w.heap.size ring mk ex ty n ti so pr pa (.slice acv cl.length ccv) en py w2 := PsS.below hS1 hb2
        clear hb2
        obtain ⟨t, ht⟩ : ∃ t, (tellR mk ex x.pl.ty (nm : Int) ti x.src pr pa cl en py).1 = t := ⟨_, rfl⟩
        have Ht : Hid (textOf x ⟨mk, ex, ty, n, ti, so, pr, pa, cl, en, py⟩ = t) := by show _ = _; rw [← ht, ← Hnm.out]; rfl
        rw [ht]
        clear ht
        generalize (tellR mk ex x.pl.ty (nm : Int) ti x.src pr pa cl en py).2 = e2 at *
        go_simp
        refine hK.out _ _ hS2 (fun hHeld => ?_)
        clear hK K
        try simp only [Act.put]
        try simp only [List.getElem_toArray]
        try simp only [List.getElem_cons_succ]
        try simp only [List.getElem_cons_zero]
        try simp only [List.setIfInBounds_toArray]
        try simp only [List.set_cons_succ]
        try simp only [List.set_cons_zero]
        refine wpAnyH_take (i := 9) (v := ?vt8) rfl (by kernel_rfl) (by kernel_rfl) (by kernel_rfl) (fun _ _ _ h => h) (Or.inl ⟨by rfl, ?yt8⟩) hHeld ?rt8
        case yt8 => ((intro W hSw; obtain ⟨hS0, hS1, hS2, hS3, hS4, hS5, hS6, hS7, hS8, hS9, hS10, hS11⟩ := hSw; go_simp) <;> with_reducible rfl)
        try simp only [Act.put]
        try simp only [List.getElem_toArray]
        try simp only [List.getElem_cons_succ]
        try simp only [List.getElem_cons_zero]
        try simp only [List.setIfInBounds_toArray]
        try simp only [List.set_cons_succ]
        try simp only [List.set_cons_zero]
        refine wpAnyH_take (i := 10) (v := ?vt9) rfl (by kernel_rfl) (by kernel_rfl) (by kernel_rfl) (fun _ _ _ h => h) (Or.inl ⟨by rfl, ?yt9⟩) hHeld ?rt9
        case yt9 => ((intro W hSw; obtain ⟨hS0, hS1, hS2, hS3, hS4, hS5, hS6, hS7, hS8, hS9, hS10, hS11⟩ := hSw; go_simp) <;> with_reducible rfl)
        try simp only [Act.put]
        try simp only [List.getElem_toArray]
        try simp only [List.getElem_cons_succ]
        try simp only [List.getElem_cons_zero]
        try simp only [List.setIfInBounds_toArray]
        try simp only [List.set_cons_succ]
        try simp only [List.set_cons_zero]
        refine wpAnyH_take (i := 11) (v := ?vt10) rfl (by kernel_rfl) (by kernel_rfl) (by kernel_rfl) (fun _ _ _ h => h) (Or.inl ⟨by rfl, ?yt10⟩) hHeld ?rt10
        case yt10 => ((intro W hSw; obtain ⟨hS0, hS1, hS2, hS3, hS4, hS5, hS6, hS7, hS8, hS9, hS10, hS11⟩ := hSw; go_simp) <;> with_reducible rfl)
        try simp only [Act.put]
        try simp only [List.getElem_toArray]
        try simp only [List.getElem_cons_succ]
        try simp only [List.getElem_cons_zero]
        try simp only [List.setIfInBounds_toArray]
        try simp only [List.set_cons_succ]
        try simp only [List.set_cons_zero]
        refine wpAnyH_ready (rs := [12]) (by kernel_rfl) (by simp) ?_
        refine AllReadyH.cons rfl (fun K hK => ?_) AllReadyH.nil
        go_simp
        refine hK.out _ _ hHeld (fun hHeld => ?_)
        clear hK K
        try simp only [Act.put]
        try simp only [List.getElem_toArray]
        try simp only [List.getElem_cons_succ]
        try simp only [List.getElem_cons_zero]
        try simp only [List.setIfInBounds_toArray]
        try simp only [List.set_cons_succ]
        try simp only [List.set_cons_zero]
        refine wpAnyH_ready (rs := [13]) (by kernel_rfl) (by simp) ?_
        refine AllReadyH.cons rfl (fun K hK => ?_) AllReadyH.nil
        go_simp
        refine hK.out _ _ hHeld (fun hHeld => ?_)
        clear hK K
        try simp only [Act.put]
        try simp only [List.getElem_toArray]
        try simp only [List.getElem_cons_succ]
        try simp only [List.getElem_cons_zero]
        try simp only [List.setIfInBounds_toArray]
        try simp only [List.set_cons_succ]
        try simp only [List.set_cons_zero]
        refine wpAnyH_done (by kernel_rfl) ?_ _
        refine NoPanic.normal ?_
        clear hHeld hS1 hS2 HS
        have Hrow : Hid (w2.ownsRow (w.heap.size + 1) 9 1 (.slice ov tl oc) tl ((textsTo M ⟨mk, ex, ty, n, ti, so, pr, pa, cl, en, py⟩ k).map Value.string)) := by
          have h1 := rowA_chg (Chg.ofBelow (T := fun _ => False) Hbd.out) HR.out.row (fun _ _ e => e)
          rw [Hkl.out] at h1
          refine rowA_chg (Chg.ofBelow (T := fun _ => False) Hb2.out) (rowA_chg HU1.out.chg h1 (fun b hb e => (HU.out b e).1 (HR.out.r0 b hb))) (fun _ _ e => e)
        have hsz : w.heap.size + 1 ≤ w2.heap.size := Nat.le_trans HR.out.bx.lt (Nat.le_trans Hbd.out.size (Nat.le_trans HU1.out.chg.size Hb2.out.size))
        go_wp2_with (at_builtin; (
          refine wpList_append_at rfl (.tmp 35) (.tmp 37) 22 rfl (w.heap.size + 1) 9 i0 _ 1 16 Try.underlying22 Hi.out rfl (by decide) _ tl _ rfl (Hrow.out.alloc _) _ 1 1 [.string t] rfl rfl (cells_new _ [.string t] _) ?_ (by unfold maxLen; omega) (by omega) (by simp; omega) ?_
          · intro u hu; simp at hu; subst hu; rfl
          intro v' w3 hown' hgrow hob
          refine stop_here ?_))
        obtain ⟨a3, c3, rfl⟩ := rowA_shape hown'
        have HR3 : Hid (∃ ρ3 WB3, PassRel w ρ mb M sv (.slice (some ⟨g, 0, none⟩) WB.length cap) SB ⟨mk, ex, ty, n, ti, so, pr, pa, cl, en, py⟩ (.slice acv cl.length ccv) ring (k + 1) (.slice a3 (tl + 1) c3) w3 ρ3 WB3) := by
          refine HR.out.step Hs.out He.out Hp.out Hbd.out HW1.out HU1.out Hb2.out hgrow ?_ hob
          rw [Ht.out, Hkl.out]
          exact hown'
        clear hown' hgrow hob
        refine hid_in ?_
        go_wp2
        go_roundw
        case rel =>
          obtain ⟨ρ3, WB3, hh⟩ := HR3.out
          exact ⟨k + 1, ρ3, WB3, by omega, by go_num, hh⟩
        case measure => simp [intOf]; omega
      · rw [decide_eq_false he]
        have HR' : Hid (PassRel w ρ mb M sv (.slice (some ⟨g, 0, none⟩) WB.length cap) SB ⟨mk, ex, ty, n, ti, so, pr, pa, cl, en, py⟩ (.slice acv cl.length ccv) ring (k + 1) (.slice ov tl oc) wr ρ' WB') := HR.out.skip Hs.out he
        clear he hc4
        go_wp2
        go_roundw
        case rel => exact ⟨k + 1, ρ', WB', by omega, by go_num, HR'.out⟩
        case measure => simp [intOf]; omega
    · have hlt' : ¬ (k : Int) < WB.length := by omega
      obtain rfl : k = M.wns.length := by have := Hwl.out; omega
      go_wp2
      go_ret
      exact ⟨ρ', WB', _, rfl, HR.out⟩

end Go.Proofs.Ytdjhhnolcafkiaa

/- What is read is told again as it was; what is told is read again as it was. -/
namespace Go.Proofs.Ytdjhhnolcafkiaa
namespace Pk

theorem twelve (l : List UInt8) (h : 12 ≤ l.length) : ∃ a0 a1 a2 a3 a4 a5 a6 a7 a8 a9 a10 a11 r, l = a0 :: a1 :: a2 :: a3 :: a4 :: a5 :: a6 :: a7 :: a8 :: a9 :: a10 :: a11 :: r := by
  match l, h with
  | a0 :: a1 :: a2 :: a3 :: a4 :: a5 :: a6 :: a7 :: a8 :: a9 :: a10 :: a11 :: r, _ => exact ⟨a0, a1, a2, a3, a4, a5, a6, a7, a8, a9, a10, a11, r, rfl⟩

theorem head_told (s : ByteArray) (h : 12 ≤ s.size) (hm : (B0 s).toNat / 64 = 2) :
    s.data.toList.take 12 = headB ((B0 s).toNat % 16) (decide (128 ≤ (B1 s).toNat)) (decide ((B0 s).toNat / 32 % 2 = 1)) (decide ((B0 s).toNat / 16 % 2 = 1)) ((B1 s).toNat % 128) (num ((s.data.toList.drop 2).take 2)) (num ((s.data.toList.drop 4).take 4)) (num ((s.data.toList.drop 8).take 4)) := by
  have hb0 := (B0 s).toNat_lt
  have hb1 := (B1 s).toNat_lt
  have e0 : hdB ((B0 s).toNat % 16) (decide ((B0 s).toNat / 32 % 2 = 1)) (decide ((B0 s).toNat / 16 % 2 = 1)) = B0 s := by
    apply UInt8.toNat_inj.1
    rw [hdB_toNat _ _ _ (by omega)]
    by_cases h1 : (B0 s).toNat / 32 % 2 = 1 <;> by_cases h2 : (B0 s).toNat / 16 % 2 = 1 <;> simp [h1, h2] <;> omega
  have e1 : tyB ((B1 s).toNat % 128) (decide (128 ≤ (B1 s).toNat)) = B1 s := by
    apply UInt8.toNat_inj.1
    rw [tyB_toNat _ _ (by omega)]
    by_cases h1 : 128 ≤ (B1 s).toNat <;> simp [h1] <;> omega
  unfold headB
  rw [e0, e1]
  unfold B0 B1
  obtain ⟨a0, a1, a2, a3, a4, a5, a6, a7, a8, a9, a10, a11, r, hl⟩ := twelve s.data.toList (by rw [← Lib.size_eq]; exact h)
  rw [hl, told_num 2 _ rfl, told_num 4 _ rfl, told_num 4 _ rfl]
  rfl

theorem con_told (s : ByteArray) (h0 : at0 s ≤ s.size) :
    (s.data.toList.drop 12).take (at0 s - 12) = conB (words (s.extract 12 (at0 s)).data.toList) ∧ (words (s.extract 12 (at0 s)).data.toList).length = (B0 s).toNat % 16 ∧ allIn (words (s.extract 12 (at0 s)).data.toList) 4294967295 = true := by
  have hl : (s.extract 12 (at0 s)).data.toList.length = 4 * ((B0 s).toNat % 16) := by
    rw [← Lib.size_eq, ByteArray.size_extract]
    unfold at0 at *
    omega
  refine ⟨?_, words_length _ _ hl, words_in _ _ hl⟩
  rw [conB_words _ _ hl, Lib.extract_data]

theorem told_of_read (s : ByteArray) (x : PP) (h : readP s = some x) :
    tellOk x.ex x.ty x.nu x.ti x.so x.pr x.pa x.cl x.en = true ∧ s.data.toList = tellB x.mrk x.ex x.ty x.nu x.ti x.so x.pr x.pa x.cl x.en x.py ∧ s.size ≤ 1500 := by
  cases hb : bad1 s with
  | true => rw [readP_bad s hb] at h; cases h
  | false =>
    have hb' := of_decide_eq_false hb
    by_cases hat : s.size < at0 s
    · rw [readP_at s hb hat] at h; cases h
    · rw [readP_of s hb (by omega)] at h
      cases hx : extPart s with
      | none => rw [hx] at h; cases h
      | some q =>
        obtain ⟨pr, en, a1⟩ := q
        obtain ⟨t1, t2, t3, t4⟩ := ext_told s pr a1 en (by omega) hx
        rw [hx, Option.bind_some] at h
        cases hp : padPart s a1 with
        | none => rw [hp] at h; cases h
        | some q =>
          obtain ⟨pa, fin⟩ := q
          obtain ⟨u1, u2, u3, u4, u5⟩ := pad_told s a1 pa fin t4 (by omega) hp
          rw [hp, Option.map_some, Option.some.injEq] at h
          subst h
          obtain ⟨c1, c2, c3⟩ := con_told s (by omega)
          have hd := head_told s (by omega) (by omega)
          have n2 := num_lt ((s.data.toList.drop 2).take 2)
          have n4 := num_lt ((s.data.toList.drop 4).take 4)
          have n8 := num_lt ((s.data.toList.drop 8).take 4)
          have l2 : ((s.data.toList.drop 2).take 2).length = 2 := by rw [List.length_take, List.length_drop, ← Lib.size_eq]; omega
          have l4 : ((s.data.toList.drop 4).take 4).length = 4 := by rw [List.length_take, List.length_drop, ← Lib.size_eq]; omega
          have l8 : ((s.data.toList.drop 8).take 4).length = 4 := by rw [List.length_take, List.length_drop, ← Lib.size_eq]; omega
          rw [l2] at n2; rw [l4] at n4; rw [l8] at n8
          refine ⟨?_, ?_, by omega⟩
          · simp only [mkP, tellOk, headOk, Bool.and_eq_true]
            exact ⟨⟨⟨⟨⟨⟨⟨decide_eq_true (by omega), decide_eq_true (by omega)⟩, decide_eq_true (by omega)⟩, decide_eq_true (by omega)⟩, decide_eq_true (by rw [c2]; omega)⟩, c3⟩, t1⟩, decide_eq_true (by omega)⟩
          · have e : decide ((0 : Int) < (mkP s (pr, en, a1) (pa, fin)).pa) = decide ((B0 s).toNat / 32 % 2 = 1) := by
              rw [← u5]
              simp [mkP]
            unfold tellB
            rw [e]
            simp only [mkP, Int.toNat_natCast, c2]
            rw [← hd, ← c1, ← t2, ← u1, Lib.extract_data]
            have q1 := cutAt s.data.toList a1 fin u2
            have q2 := cutAt s.data.toList (at0 s) a1 t3
            have q3 := cutAt s.data.toList 12 (at0 s) (by unfold at0; omega)
            rw [List.append_assoc, List.append_assoc, List.append_assoc, ← q1, ← q2, ← q3, List.take_append_drop]

theorem ba_ext {a b : ByteArray} (h : a.data.toList = b.data.toList) : a = b := ByteArray.ext (Array.ext' h)

theorem tellB_length (mk ex : Bool) (ty nu ti so pr pa : Int) (cl : List Int) (en py : ByteArray) (hp : 0 ≤ pa) :
    ((tellB mk ex ty nu ti so pr pa cl en py).length : Int) = plen ex cl en py pa := by
  unfold tellB plen
  rw [List.length_append, List.length_append, List.length_append, List.length_append, headB_length, conB_length, extB_length, padB_length, ← Lib.size_eq, ← Lib.size_eq]
  cases ex <;> simp <;> omega

theorem read_of_told (mk ex : Bool) (ty nu ti so pr pa : Int) (cl : List Int) (en py : ByteArray) (hok : tellOk ex ty nu ti so pr pa cl en = true) (hlen : plen ex cl en py pa ≤ 1500) :
    readP ⟨(tellB mk ex ty nu ti so pr pa cl en py).toArray⟩ = some { mrk := mk, ex := ex, ty := ty, nu := nu, ti := ti, so := so, pr := pr, pa := pa, cl := cl, en := en, py := py } := by
  simp only [tellOk, Bool.and_eq_true, decide_eq_true_eq] at hok
  obtain ⟨⟨hh, hx⟩, hp0, hp1⟩ := hok
  obtain ⟨hty, hnu, hti, hso, hcl, hci⟩ := headOk_of hh
  have hL := tellB_length mk ex ty nu ti so pr pa cl en py hp0
  have hpr : 0 ≤ pr ∧ pr ≤ 65535 := by
    cases ex
    · rw [extOk_no, Bool.and_eq_true, decide_eq_true_eq] at hx; omega
    · rw [extOk_yes, Bool.and_eq_true, decide_eq_true_eq] at hx; exact hx.1
  obtain ⟨ty, rfl⟩ := Int.eq_ofNat_of_zero_le hty.1
  obtain ⟨nu, rfl⟩ := Int.eq_ofNat_of_zero_le hnu.1
  obtain ⟨ti, rfl⟩ := Int.eq_ofNat_of_zero_le hti.1
  obtain ⟨so, rfl⟩ := Int.eq_ofNat_of_zero_le hso.1
  obtain ⟨pr, rfl⟩ := Int.eq_ofNat_of_zero_le hpr.1
  obtain ⟨pa, rfl⟩ := Int.eq_ofNat_of_zero_le hp0
  have hlist : tellB mk ex ty nu ti so pr pa cl en py = headB cl.length mk (decide (0 < pa)) ex ty nu ti so ++ (conB cl ++ (extB ex pr en.data.toList ++ (py.data.toList ++ padB pa))) := by
    have e : decide ((0 : Int) < (pa : Int)) = decide (0 < pa) := by simp
    unfold tellB
    rw [e]
    simp only [Int.toNat_natCast, List.append_assoc]
  obtain ⟨s, hs⟩ : ∃ s : ByteArray, s = ⟨(tellB mk ex ty nu ti so pr pa cl en py).toArray⟩ := ⟨_, rfl⟩
  have hd : s.data.toList = headB cl.length mk (decide (0 < pa)) ex ty nu ti so ++ (conB cl ++ (extB ex pr en.data.toList ++ (py.data.toList ++ padB pa))) := by rw [hs, ← hlist]
  have hsz : (s.size : Int) = plen ex cl en py pa := by rw [← hL, hs, Lib.size_eq]
  rw [← hs]
  clear hs hlist hL
  have h12 : 12 + 4 * cl.length ≤ s.size := by
    have : 12 + 4 * (cl.length : Int) ≤ plen ex cl en py pa := by unfold plen; split <;> omega
    omega
  have b0 : B0 s = hdB cl.length (decide (0 < pa)) ex := by unfold B0; rw [hd]; rfl
  have b1 : B1 s = tyB ty mk := by unfold B1; rw [hd]; rfl
  have b0n := hdB_toNat cl.length (decide (0 < pa)) ex hcl
  have b1n := tyB_toNat ty mk (by omega)
  have hb0 : (B0 s).toNat / 64 = 2 ∧ (B0 s).toNat % 16 = cl.length ∧ ((B0 s).toNat / 16 % 2 = 1 ↔ ex = true) ∧ ((B0 s).toNat / 32 % 2 = 1 ↔ 0 < pa) := by
    rw [b0, b0n]
    by_cases h1 : 0 < pa <;> cases ex <;> simp [h1] <;> omega
  have hb1 : (B1 s).toNat % 128 = ty ∧ (128 ≤ (B1 s).toNat ↔ mk = true) := by
    rw [b1, b1n]
    cases mk <;> simp <;> omega
  have hat : at0 s = 12 + 4 * cl.length := by unfold at0; rw [hb0.2.1]
  have hbad : bad1 s = false := by unfold bad1; exact decide_eq_false (by omega)
  have n2 : num ((s.data.toList.drop 2).take 2) = nu := by
    have e : (s.data.toList.drop 2).take 2 = told nu 2 := by rw [hd]; rfl
    rw [e, num_told 2 nu (by omega)]
  have n4 : num ((s.data.toList.drop 4).take 4) = ti := by
    have e : (s.data.toList.drop 4).take 4 = told ti 4 := by rw [hd]; rfl
    rw [e, num_told 4 ti (by omega)]
  have n8 : num ((s.data.toList.drop 8).take 4) = so := by
    have e : (s.data.toList.drop 8).take 4 = told so 4 := by rw [hd]; rfl
    rw [e, num_told 4 so (by omega)]
  have hc : words (s.extract 12 (at0 s)).data.toList = cl := by
    rw [Lib.extract_data, hd, mid _ _ _ 12 (at0 s - 12) (headB_length ..).symm (by rw [conB_length, hat]; omega), words_conB cl hci]
  have hxl : (s.size : Int) = 12 + 4 * cl.length + (extB ex pr en.data.toList).length + py.size + pa := by
    rw [hsz, extB_length, ← Lib.size_eq]
    unfold plen
    cases ex <;> simp <;> omega
  have hext : extPart s = some (pr, en, at0 s + (extB ex pr en.data.toList).length) := by
    unfold extPart
    cases ex
    · rw [if_neg (by rw [hb0.2.2.1]; simp)]
      rw [extOk_no, Bool.and_eq_true, decide_eq_true_eq, decide_eq_true_eq] at hx
      have h1 : pr = 0 := by omega
      have h2 : en = ⟨#[]⟩ := ba_ext (by rw [List.eq_nil_of_length_eq_zero (l := en.data.toList) (by rw [← Lib.size_eq]; exact hx.2)])
      subst h1 h2
      rfl
    · rw [extOk_yes, Bool.and_eq_true, decide_eq_true_eq, decide_eq_true_eq] at hx
      have hxb : extB true pr en.data.toList = told pr 2 ++ (told (en.size / 4) 2 ++ en.data.toList) := by
        unfold extB
        rw [if_pos rfl, List.append_assoc, ← Lib.size_eq]
      have hxn : (extB true pr en.data.toList).length = 4 + en.size := by rw [extB_length, if_pos rfl, ← Lib.size_eq]
      rw [hxn] at hxl ⊢
      have d0 : s.data.toList = (headB cl.length mk (decide (0 < pa)) true ty nu ti so ++ conB cl) ++ (told pr 2 ++ ((told (en.size / 4) 2 ++ en.data.toList) ++ (py.data.toList ++ padB pa))) := by
        rw [hd, hxb]; simp only [List.append_assoc]
      have d1 : s.data.toList = (headB cl.length mk (decide (0 < pa)) true ty nu ti so ++ conB cl ++ told pr 2) ++ (told (en.size / 4) 2 ++ (en.data.toList ++ (py.data.toList ++ padB pa))) := by
        rw [hd, hxb]; simp only [List.append_assoc]
      have d2 : s.data.toList = (headB cl.length mk (decide (0 < pa)) true ty nu ti so ++ conB cl ++ told pr 2 ++ told (en.size / 4) 2) ++ (en.data.toList ++ (py.data.toList ++ padB pa)) := by
        rw [hd, hxb]; simp only [List.append_assoc]
      have x1 : num (s.extract (at0 s) (at0 s + 2)).data.toList = pr := by
        rw [Lib.extract_data, d0, mid _ _ _ (at0 s) _ (by rw [List.length_append, headB_length, conB_length, hat]) (by rw [told_length]; omega), num_told 2 pr (by omega)]
      have x2 : extLen s = en.size := by
        unfold extLen
        rw [Lib.extract_data, d1, mid _ _ _ (at0 s + 2) _ (by rw [List.length_append, List.length_append, headB_length, conB_length, told_length, hat]) (by rw [told_length]; omega), num_told 2 (en.size / 4) (by omega)]
        omega
      have x3 : s.extract (at0 s + 4) (at0 s + 4 + en.size) = en := by
        apply ba_ext
        rw [Lib.extract_data, d2, mid _ _ _ (at0 s + 4) _ (by rw [List.length_append, List.length_append, List.length_append, headB_length, conB_length, told_length, told_length, hat]) (by rw [← Lib.size_eq]; omega)]
      rw [if_pos (hb0.2.2.1.2 rfl), if_neg (by omega), x1, x2, x3, if_neg (by omega), Nat.add_assoc]
  have dY : s.data.toList = (headB cl.length mk (decide (0 < pa)) ex ty nu ti so ++ conB cl ++ extB ex pr en.data.toList) ++ (py.data.toList ++ padB pa) := by
    rw [hd]; simp only [List.append_assoc]
  have hP2 : (headB cl.length mk (decide (0 < pa)) ex ty nu ti so ++ conB cl ++ extB ex pr en.data.toList).length = at0 s + (extB ex pr en.data.toList).length := by
    rw [List.length_append, List.length_append, headB_length, conB_length, hat]
  have hpad : padPart s (at0 s + (extB ex pr en.data.toList).length) = some (pa, s.size - pa) := by
    unfold padPart
    by_cases h0 : 0 < pa
    · have hD : padB pa = List.replicate (pa - 1) 0 ++ [UInt8.ofNat pa] := by unfold padB; rw [if_neg (by omega)]
      have dL : s.data.toList = (headB cl.length mk (decide (0 < pa)) ex ty nu ti so ++ conB cl ++ extB ex pr en.data.toList ++ py.data.toList ++ List.replicate (pa - 1) 0) ++ [UInt8.ofNat pa] := by
        rw [dY, hD]; simp only [List.append_assoc]
      have hPl : (headB cl.length mk (decide (0 < pa)) ex ty nu ti so ++ conB cl ++ extB ex pr en.data.toList ++ py.data.toList ++ List.replicate (pa - 1) 0).length = s.size - 1 := by
        rw [List.length_append, List.length_append, hP2, List.length_replicate, ← Lib.size_eq, hat]; omega
      have hBl : Bl s = UInt8.ofNat pa := by
        unfold Bl
        rw [dL, List.getD_eq_getElem?_getD, List.getElem?_append_right (by rw [hPl]; exact Nat.le_refl _), hPl]
        simp
      have hBn : (Bl s).toNat = pa := by
        rw [hBl, UInt8.toNat_ofNat']; exact Nat.mod_eq_of_lt (by omega)
      have dZ : s.data.toList = (headB cl.length mk (decide (0 < pa)) ex ty nu ti so ++ conB cl ++ extB ex pr en.data.toList ++ py.data.toList) ++ (List.replicate (pa - 1) 0 ++ [UInt8.ofNat pa]) := by
        rw [dY, hD]; simp only [List.append_assoc]
      have hN : noughts (s.extract (s.size - pa) (s.size - 1)).data.toList = true := by
        rw [Lib.extract_data, dZ, mid _ _ _ (s.size - pa) _ (by rw [List.length_append, hP2, ← Lib.size_eq, hat]; omega) (by rw [List.length_replicate]; omega)]
        exact noughts_rep _
      rw [if_pos (hb0.2.2.2.2 h0), hBn, if_neg (by rw [hat]; omega), if_pos hN]
    · have h1 : pa = 0 := by omega
      subst h1
      rw [if_neg (by rw [hb0.2.2.2]; exact h0), Nat.sub_zero]
  have hpy : s.extract (at0 s + (extB ex pr en.data.toList).length) (s.size - pa) = py := by
    apply ba_ext
    rw [Lib.extract_data, dY, mid _ _ _ _ _ hP2.symm (by rw [← Lib.size_eq, hat]; omega)]
  rw [readP_of s hbad (by omega), hext, Option.bind_some, hpad, Option.map_some]
  unfold mkP
  rw [n2, n4, n8, hc, hpy, hb1.1]
  have m1 : decide (128 ≤ (B1 s).toNat) = mk := by rw [Bool.eq_iff_iff, decide_eq_true_eq]; exact hb1.2
  have m2 : decide ((B0 s).toNat / 16 % 2 = 1) = ex := by rw [Bool.eq_iff_iff, decide_eq_true_eq]; exact hb0.2.2.1
  rw [m1, m2]

end Pk
end Go.Proofs.Ytdjhhnolcafkiaa

/- What Packet does: plain facts. -/
namespace Go.Proofs.Ytdjhhnolcafkiaa
open Go.RowKit
namespace Pk

theorem read_facts (s : ByteArray) (x : PP) (h : readP s = some x) : (0 ≤ x.nu ∧ x.nu ≤ 65535) ∧ x.cl.length ≤ 15 ∧ x.en.size ≤ 1500 ∧ x.py.size ≤ 1500 := by
  obtain ⟨h1, -, h3⟩ := told_of_read s x h
  have h4 : headOk x.ty x.nu x.ti x.so x.cl = true := by
    simp only [tellOk, Bool.and_eq_true] at h1
    exact h1.1.1
  obtain ⟨-, h5, -, -, h6, -⟩ := headOk_of h4
  refine ⟨h5, h6, ?_⟩
  have ex : ∀ a b, (s.extract a b).size ≤ 1500 := fun a b => by rw [ByteArray.size_extract]; omega
  cases hb : bad1 s with
  | true => rw [readP_bad s hb] at h; cases h
  | false =>
    by_cases hat : s.size < at0 s
    · rw [readP_at s hb hat] at h; cases h
    · rw [readP_of s hb (by omega)] at h
      cases hx : extPart s with
      | none => rw [hx] at h; cases h
      | some q =>
        obtain ⟨pr, en, a1⟩ := q
        have hen : en.size ≤ 1500 := by
          unfold extPart at hx
          split at hx
          · split at hx
            · cases hx
            · split at hx
              · cases hx
              · simp only [Option.some.injEq, Prod.mk.injEq] at hx
                rw [← hx.2.1]
                exact ex _ _
          · simp only [Option.some.injEq, Prod.mk.injEq] at hx
            rw [← hx.2.1]
            exact Nat.zero_le _
        rw [hx, Option.bind_some] at h
        cases hp : padPart s a1 with
        | none => rw [hp] at h; cases h
        | some q =>
          rw [hp, Option.map_some, Option.some.injEq] at h
          subst h
          exact ⟨hen, ex _ _⟩

/-- a mender's blocks turn, and its roles -/
def Mv (w : World) (ρ : Nat → Nat) (W : World) (ρ' : Nat → Nat) : Prop := (∀ b, b < w.heap.size → ρ b = 0 → ρ' b = 0) ∧ Chg (fun b => ρ b ≠ 0) w W
theorem Mv.trans {w W V : World} {ρ ρ' ρ2 : Nat → Nat} (h : Mv w ρ W ρ') (k : Mv W ρ' V ρ2) : Mv w ρ V ρ2 :=
  ⟨fun b hb e => k.1 b (Nat.lt_of_lt_of_le hb h.2.size) (h.1 b hb e), h.2.trans k.2 (fun b hb e e0 => e (h.1 b hb e0))⟩
theorem Mv.below {w W : World} {ρ : Nat → Nat} (h : Below w.heap.size w W) : Mv w ρ W ρ := ⟨fun _ _ e => e, Chg.ofBelow h⟩
theorem Mv.refl (w : World) (ρ : Nat → Nat) : Mv w ρ w ρ := Mv.below (Below.refl _ _)

section
variable {W : World} {ρ : Nat → Nat} {mb : Nat} {M : Md} {sv wv : Value} {SB WB : List (Nat × Value)}
/-- one cell of the mender's own is stored -/
theorem MdAt.put {M' : Md} (h : MdAt W ρ mb M sv wv SB WB) (i : Nat) (y : Value) (hi : i < 21) (he : mdV M' sv wv = (mdV M sv wv).set i y) (e1 : M'.sds = M.sds) (e2 : M'.wns = M.wns) : MdAt (W.setCell ⟨mb, i, none⟩ y) ρ mb M' sv wv SB WB ∧ Mv W ρ (W.setCell ⟨mb, i, none⟩ y) ρ := by
  have hc : Chg (fun b => b = mb) W (W.setCell ⟨mb, i, none⟩ y) := (Chg.refl (fun b => b = mb) _).setCell ⟨mb, i, none⟩ (.inl rfl) _
  refine ⟨h.own hc (mdV_set i y h.k (fun _ => rfl) hi he) (fun o => by rw [World.frozen?_setCell]; exact h.fz o) e1 e2 rfl rfl, fun _ _ e => e, hc.mono (fun b _ e => by rw [e, h.rm]; decide)⟩

/-- a new list of numbers becomes a list of contributors -/
theorem MdAt.give {B : Nat} {v : Value} {l : List Int} (h : MdAt W ρ mb M sv wv SB WB) (ho : OwnInts W B v l) (hB : ∀ b, B ≤ b → ρ b = 0) :
    ∃ ρ', MdAt W ρ' mb M sv wv SB WB ∧ IsC (fun b => ρ' b = 4) W v l ∧ (∀ b, b < B → ρ' b = ρ b) ∧ (∀ b, ρ' b = 0 ∨ ρ' b = ρ b ∨ v.ownBlock = some b) := by
  have hl := ho.lt
  refine ⟨fun b => if v.ownBlock = some b then 4 else ρ b, h.roles ?_ ?_, ?_, ?_, ?_⟩
  · intro b _ h0
    rw [if_neg (fun e => h0 (hB b (hl b e).1))]
  · intro b hb
    rw [if_neg (fun e => by have := (hl b e).2; omega)]
    exact h.hi b hb
  · obtain ⟨ao, cap, rfl, hj⟩ := ho.isInts
    refine ⟨ao, cap, rfl, fun j hjl => ?_⟩
    obtain ⟨g, hg⟩ := rowA_some ho (by omega)
    obtain ⟨b, off, e, hb, hc⟩ := hj j hjl
    refine ⟨b, off, e, ?_, hc⟩
    rw [hg] at e
    simp only [Option.some.injEq, Addr.mk.injEq] at e
    show (if (Value.slice ao l.length cap).ownBlock = some b then 4 else ρ b) = 4
    rw [if_pos (by rw [hg, ← e.1]; rfl)]
  · intro b hb
    show (if v.ownBlock = some b then 4 else ρ b) = ρ b
    rw [if_neg (fun e => by have := (hl b e).1; omega)]
  · intro b
    show (if v.ownBlock = some b then 4 else ρ b) = 0 ∨ (if v.ownBlock = some b then 4 else ρ b) = ρ b ∨ _
    by_cases e : v.ownBlock = some b
    · exact .inr (.inr e)
    · rw [if_neg e]; exact .inr (.inl rfl)
end

/-- a turn that answers texts -/
def MovedT (w w' : World) (ρ : Nat → Nat) (mb : Nat) (M' : Md) (tv : Value) (L : List ByteArray) : Prop :=
  ∃ ρ' sv' wv' SB' WB', MdAt w' ρ' mb M' sv' wv' SB' WB' ∧ Mv w ρ w' ρ' ∧ w'.ownsRow w.heap.size 9 1 tv L.length (L.map Value.string) ∧ ∀ b, tv.ownBlock = some b → ρ' b = 0
theorem MovedT.none {w w' : World} {ρ ρ' : Nat → Nat} {mb : Nat} {M' : Md} {sv' wv' : Value} {SB' WB' : List (Nat × Value)} (h : MdAt w' ρ' mb M' sv' wv' SB' WB') (k : Mv w ρ w' ρ') : MovedT w w' ρ mb M' (.slice .none 0 0) [] :=
  ⟨ρ', sv', wv', SB', WB', h, k, World.ownsRow_nil _ _ _ _, fun b hb => by cases hb⟩

def tookM (M : Md) (i : Nat) (sd : Sd) (n : Nat) : Md := { M with sds := M.sds.set i (takeF sd n M.s.now M.c.window.toNat).1, s := { M.s with givenUp := M.s.givenUp + (takeF sd n M.s.now M.c.window.toNat).2.2 } }
def packetM (M : Md) (t : ByteArray) (cv : Value) : Md × List ByteArray × Int :=
  match readP t with
  | none => ({ M with s := { M.s with wrong := M.s.wrong + 1 } }, [], 1)
  | some p =>
    match sndPos M p.so with
    | none => ({ M with s := { M.s with unknown := M.s.unknown + 1 } }, [], 4)
    | some i =>
      match M.sds[i]? with
      | none => (M, [], 0)
      | some sd =>
        if (takeF sd p.nu.toNat M.s.now M.c.window.toNat).2.1 = 1 then ({ tookM M i sd p.nu.toNat with s := { (tookM M i sd p.nu.toNat).s with late := (tookM M i sd p.nu.toNat).s.late + 1 } }, [], 0)
        else if (takeF sd p.nu.toNat M.s.now M.c.window.toNat).2.1 = 2 then ({ tookM M i sd p.nu.toNat with s := { (tookM M i sd p.nu.toNat).s with doubled := (tookM M i sd p.nu.toNat).s.doubled + 1 } }, [], 0)
        else (passTo { tookM M i sd p.nu.toNat with s := { (tookM M i sd p.nu.toNat).s with passed := (tookM M i sd p.nu.toNat).s.passed + 1 } } p cv M.c.ring.toNat M.wns.length, textsTo M p M.wns.length, 0)

/-- what keeps all numbers within their kinds -/
structure MOk (M : Md) : Prop where
  cfg : cfgOk M.c = true
  now : 0 ≤ M.s.now ∧ M.s.now ≤ 1000000000000000
  tok : 0 ≤ M.s.tokens ∧ M.s.tokens ≤ 1000000
  cnt : ∀ c ∈ [M.s.passed, M.s.late, M.s.doubled, M.s.wrong, M.s.unknown, M.s.again, M.s.refused, M.s.asked, M.s.givenUp], 0 ≤ c ∧ c ≤ 1000000000000000
  w8 : M.wns.length ≤ 8
  snd : ∀ s ∈ M.sds, In16G s.gaps ∧ s.newest < 65536 ∧ s.gaps.length ≤ 90000
  wnt : ∀ x ∈ M.wns, WOk x
end Pk
end Go.Proofs.Ytdjhhnolcafkiaa

/- Packet. -/
namespace Go.Proofs.Ytdjhhnolcafkiaa
open Go.RowKit
namespace Pk
def TkS (mb B : Nat) (n now window : Int) (W : World) : Prop := W.cell? ⟨B, 2, none⟩ = some (.int .i64 n) ∧ W.cell? ⟨mb, 7, none⟩ = some (.int .i64 now) ∧ W.cell? ⟨mb, 1, none⟩ = some (.int .i64 window)
theorem ret_pair {tv tv' : Value} {x y : Int} (h : tv = tv') (k : x = y) : Ending.returned (.tuple #[tv, .int .i64 x]) = .returned (.tuple #[tv', .int .i64 y]) := by rw [h, k]
theorem MOk.cnt1 {M : Md} (h : MOk M) {c : Int} (hc : c ∈ [M.s.passed, M.s.late, M.s.doubled, M.s.wrong, M.s.unknown, M.s.again, M.s.refused, M.s.asked, M.s.givenUp]) : IntKind.i64.wrap (c + 1) = c + 1 := i64_id _ (by have := h.cnt c hc; omega) (by have := h.cnt c hc; omega)
theorem addsF_len (now : Int) : ∀ (c n : Nat) (l : List Gp), (addsF now c n l).length ≤ l.length + c
  | 0, _, l => Nat.le_refl _
  | c + 1, n, l => by
    have h := addsF_len now c ((n + 1) % 65536) (rmF Gp.n n l ++ [⟨n, now, 0⟩])
    have h2 := rmF_length Gp.n n l
    rw [addsF]
    rw [List.length_append, List.length_singleton] at h
    omega
theorem takeF_gu (s : Sd) (n : Nat) (now : Int) (window : Nat) (hl : s.gaps.length ≤ 90000) (hw : window ≤ 1000) : (takeF s n now window).2.2 ≤ 100000 := by
  unfold takeF
  split
  · exact Nat.zero_le _
  · split
    · show guN _ _ _ ≤ _
      refine Nat.le_trans (guN_le _ _ _) ?_
      unfold gapsOn
      split
      · have := addsF_len now (stepsTo n s.newest - 1) ((s.newest + 1) % 65536) s.gaps
        omega
      · omega
    · exact Nat.zero_le _
theorem row_mono {W : World} {b b' e k n : Nat} {v : Value} {xs : List Value} (h : W.ownsRow b e k v n xs) (hb : b' ≤ b) : W.ownsRow b' e k v n xs := by
  obtain ⟨h1, h2 | ⟨g, cap, cur, rfl, hg, r⟩⟩ := h
  · exact ⟨h1, .inl h2⟩
  · exact ⟨h1, .inr ⟨g, cap, cur, rfl, Nat.le_trans hb hg, r⟩⟩
/-- a sender turned: lists of contributors stay -/
theorem IsC.snd {W W' : World} {ρ : Nat → Nat} {mb : Nat} {M : Md} {sv wv : Value} {SB WB : List (Nat × Value)} {i : Nat} {q : Nat × Value} {sd : Sd} {v' cv : Value} {cl : List Int} (h : MdAt W ρ mb M sv wv SB WB) (h1 : SB[i]? = some q) (h2 : M.sds[i]? = some sd) (hi : IsC (fun b => ρ b = 4) W cv cl) (hU : SdUp W W' q.1 q.2 v') :
    IsC (fun b => (if v'.ownBlock = some b then 11 + 2 * i else ρ b) = 4) W' cv cl := by
  obtain ⟨_, hr1, hr2⟩ := h.sa i q sd h1 h2
  have cU : ∀ b, (b = q.1 ∨ q.2.ownBlock = some b) → ρ b ≠ 4 := fun b hb => by
    rcases hb with e | e
    · rw [e, hr1]; omega
    · rw [hr2 b e]; omega
  refine (hi.chg hU.chg (fun b hb e => cU b e hb)).mono (fun b _ e => ?_)
  rw [if_neg (fun e' => ?_)]
  · exact e
  · rcases hU.own b e' with e2 | e2
    · exact cU b (.inr e2) e
    · have := h.hi b e2
      omega
theorem TkS.chg {T : Nat → Prop} {W W' : World} {mb B : Nat} {n now window : Int} (h : TkS mb B n now window W) (hc : Chg T W W') (h1 : ¬ T mb) (h2 : ¬ T B) : TkS mb B n now window W' := ⟨hc.cell h.1 h2, hc.cell h.2.1 h1, hc.cell h.2.2 h1⟩
end Pk
open Pk

set_option maxRecDepth 20000 in
set_option maxHeartbeats 1000000 in
theorem packet_any (ρ : Nat → Nat) (mb : Nat) (M : Md) (sv wv : Value) (SB WB : List (Nat × Value)) (t : ByteArray) (w : World) (h : MdAt w ρ mb M sv wv SB WB) (ok : MOk M) (ht : t.size ≤ maxLen) :
    Calls Try.prog 27 #[.pointer (some ⟨mb, 0, none⟩), .string t] w fun e w' => ∃ cv tv, e = .returned (.tuple #[tv, .int .i64 (packetM M t cv).2.2]) ∧ MovedT w w' ρ mb (packetM M t cv).1 tv (packetM M t cv).2.1 := by
  have H : Hid (MdAt w ρ mb M sv wv SB WB) := h
  have Hok : Hid (MOk M) := ok
  have hlt := h.lt
  clear h ok
  cases hR : readP t with
  | none =>
    have HP : Hid (packetM M t (.slice none 0 0) = ({ M with s := { M.s with wrong := M.s.wrong + 1 } }, [], 1)) := by show _ = _; unfold packetM; rw [hR]
    go_enter Try.func27, Try.ntmps27
    go_wp2_with fail
    refine (orNone_any mb _).mono ?_
    rintro e w1 ⟨rfl, hw1⟩
    rw [hw1]
    clear hw1
    go_wp2_with fail
    refine (readPacket_any t _ ht).mono ?_
    rintro e w1 ⟨hb1, hr⟩
    rw [hR] at hr
    have he : e = .returned wrongV := hr
    unfold wrongV at he
    subst he
    clear hr hR
    have H1 : Hid (MdAt w1 ρ mb M sv wv SB WB) := H.out.below hb1
    have Hb1 : Hid (Below w.heap.size w w1) := hb1
    have y12 : w1.cell? ⟨mb, 12, none⟩ = some (.int .i64 M.s.wrong) := H1.out.k 12 _ rfl
    have yf : ∀ o, w1.frozen? ⟨mb, o, none⟩ = false := H1.out.fz
    have hs1 := H1.out.lt
    have hne : mb ≠ w1.heap.size := by omega
    have hw := Hok.out.cnt1 (c := M.s.wrong) (by simp)
    clear hb1
    go_wp2
    go_ret2
    refine ⟨.slice none 0 0, .slice none 0 0, ?_, ?_⟩
    · rw [HP.out]; rfl
    · rw [HP.out]
      have hm := H1.out.put (M' := { M with s := { M.s with wrong := M.s.wrong + 1 } }) 12 (.int .i64 (M.s.wrong + 1)) (by omega) rfl rfl rfl
      exact MovedT.none (hm.1.below ((Below.refl _ _).alloc (Nat.le_refl _) _)) ((Mv.below Hb1.out).trans (hm.2.trans (Mv.below ((Below.refl _ _).alloc (Nat.le_refl _) _))))
  | some p =>
    obtain ⟨hnu, hcl, hen, hpy⟩ := read_facts t p hR
    obtain ⟨mk, ex, ty, nu, ti, so, pr, pa, cl, en, py⟩ := p
    simp only at hnu hcl hen hpy
    obtain ⟨n, rfl⟩ := Int.eq_ofNat_of_zero_le hnu.1
    have hn16 : n < 65536 := by omega
    go_enter Try.func27, Try.ntmps27
    go_wp2_with fail
    refine (orNone_any mb _).mono ?_
    rintro e w1 ⟨rfl, hw1⟩
    rw [hw1]
    clear hw1
    go_wp2_with fail
    refine (readPacket_any t _ ht).mono ?_
    rintro e w1 ⟨hb1, hr⟩
    rw [hR] at hr
    obtain ⟨cv, he, hown⟩ : ∃ v, e = .returned (okV ⟨mk, ex, ty, (n : Nat), ti, so, pr, pa, cl, en, py⟩ v) ∧ OwnInts w1 w.heap.size v cl := hr
    obtain ⟨acv, ccv, rfl⟩ := hown.shape
    unfold okV at he
    subst he
    have HR : Hid (readP t = some ⟨mk, ex, ty, (n : Nat), ti, so, pr, pa, cl, en, py⟩) := hR
    clear hR hnu
    obtain ⟨ρ1, hM1, hic, hrB, hrC⟩ := (H.out.below hb1).give hown (fun b hb => H.out.hi b hb)
    have HV1 : Hid (Mv w ρ w1 ρ1) := ⟨fun b hb e => (hrB b hb).trans e, Chg.ofBelow hb1⟩
    have hs1 : mb < w1.heap.size := hM1.lt
    have hne : mb ≠ w1.heap.size := by omega
    have HM2 : Hid (MdAt (w1.alloc (.cells #[.bool mk, .int .i64 ty, .int .i64 (n : Nat), .int .i64 ti, .int .i64 so, .slice acv cl.length ccv, .bool ex, .int .i64 pr, .string en, .string py, .int .i64 pa] 33)) ρ1 mb M sv wv SB WB) := hM1.below ((Below.refl _ _).alloc (Nat.le_refl _) _)
    have HI2 : Hid (IsC (fun b => ρ1 b = 4) (w1.alloc (.cells #[.bool mk, .int .i64 ty, .int .i64 (n : Nat), .int .i64 ti, .int .i64 so, .slice acv cl.length ccv, .bool ex, .int .i64 pr, .string en, .string py, .int .i64 pa] 33)) (.slice acv cl.length ccv) cl) := hic.chg (T := fun _ => False) (Chg.ofBelow ((Below.refl _ _).alloc (Nat.le_refl _) _)) (fun _ _ e => e)
    have HV2 : Hid (Mv w ρ (w1.alloc (.cells #[.bool mk, .int .i64 ty, .int .i64 (n : Nat), .int .i64 ti, .int .i64 so, .slice acv cl.length ccv, .bool ex, .int .i64 pr, .string en, .string py, .int .i64 pa] 33)) ρ1) := HV1.out.trans (Mv.below ((Below.refl _ _).alloc (Nat.le_refl _) _))
    have HB2 : Hid (PbAt w1.heap.size ⟨mk, ex, ty, (n : Nat), ti, so, pr, pa, cl, en, py⟩ (.slice acv cl.length ccv) (w1.alloc (.cells #[.bool mk, .int .i64 ty, .int .i64 (n : Nat), .int .i64 ti, .int .i64 so, .slice acv cl.length ccv, .bool ex, .int .i64 pr, .string en, .string py, .int .i64 pa] 33))) := ⟨cell_new _ _ _ 0, cell_new _ _ _ 1, cell_new _ _ _ 2, cell_new _ _ _ 3, cell_new _ _ _ 4, cell_new _ _ _ 5, cell_new _ _ _ 6, cell_new _ _ _ 7, cell_new _ _ _ 8, cell_new _ _ _ 9, cell_new _ _ _ 10⟩
    have hrb : ρ1 w1.heap.size = 0 := hM1.hi _ (Nat.le_refl _)
    have hws : w.heap.size ≤ w1.heap.size := hb1.size
    clear hM1 hic hrB hrC HV1 hown hb1
    go_wp2_with fail
    generalize w1.alloc (.cells #[.bool mk, .int .i64 ty, .int .i64 (n : Nat), .int .i64 ti, .int .i64 so, .slice acv cl.length ccv, .bool ex, .int .i64 pr, .string en, .string py, .int .i64 pa] 33) = W at *
    generalize w1.heap.size = B at *
    refine (sender_any ρ1 mb M sv wv SB WB so _ HM2.out).mono ?_
    rintro e w2 ⟨hw2, ⟨hno, rfl⟩ | ⟨i, q, sd, hi, h1, h2, h3, rfl⟩⟩
    · rw [hw2]
      clear hw2
      have HP : Hid (packetM M t (.slice none 0 0) = ({ M with s := { M.s with unknown := M.s.unknown + 1 } }, [], 4)) := by show _ = _; unfold packetM; rw [HR.out]; simp only; rw [hno]
      clear hno
      have y13 : W.cell? ⟨mb, 13, none⟩ = some (.int .i64 M.s.unknown) := HM2.out.k 13 _ rfl
      have yf : ∀ o, W.frozen? ⟨mb, o, none⟩ = false := HM2.out.fz
      have hw := Hok.out.cnt1 (c := M.s.unknown) (by simp)
      go_wp2
      go_ret2
      refine ⟨.slice none 0 0, .slice none 0 0, ?_, ?_⟩
      · rw [HP.out]; rfl
      · rw [HP.out]
        have hm := HM2.out.put (M' := { M with s := { M.s with unknown := M.s.unknown + 1 } }) 13 (.int .i64 (M.s.unknown + 1)) (by omega) rfl rfl rfl
        exact MovedT.none hm.1 (HV2.out.trans hm.2)
    · rw [hw2]
      clear hw2
      obtain ⟨hSd, hr1, hr2⟩ := HM2.out.sa i q sd h1 h2
      obtain ⟨ok16, oknew, oklen⟩ := Hok.out.snd sd (List.mem_of_getElem? h2)
      have hcfg := of_decide_eq_true Hok.out.cfg
      obtain ⟨wi, hwi⟩ := Int.eq_ofNat_of_zero_le (show 0 ≤ M.c.window by omega)
      obtain ⟨ri, hri⟩ := Int.eq_ofNat_of_zero_le (show 0 ≤ M.c.ring by omega)
      have hwi2 : wi ≤ 1000 := by omega
      have hri2 : ri ≤ 1000 := by omega
      have Hwi : Hid (M.c.window = wi) := hwi
      have Hri : Hid (M.c.ring = ri) := hri
      have HP0 : Hid (∀ cv, packetM M t cv = if (takeF sd n M.s.now wi).2.1 = 1 then ({ tookM M i sd n with s := { (tookM M i sd n).s with late := (tookM M i sd n).s.late + 1 } }, [], 0) else if (takeF sd n M.s.now wi).2.1 = 2 then ({ tookM M i sd n with s := { (tookM M i sd n).s with doubled := (tookM M i sd n).s.doubled + 1 } }, [], 0) else (passTo { tookM M i sd n with s := { (tookM M i sd n).s with passed := (tookM M i sd n).s.passed + 1 } } ⟨mk, ex, ty, (n : Nat), ti, so, pr, pa, cl, en, py⟩ cv ri M.wns.length, textsTo M ⟨mk, ex, ty, (n : Nat), ti, so, pr, pa, cl, en, py⟩ M.wns.length, 0)) := by
        intro cv
        unfold packetM
        rw [HR.out]
        simp only
        rw [hi]
        simp only
        rw [h2]
        simp only
        rw [hwi, hri]
        rfl
      have Htook : Hid (tookM M i sd n = { M with sds := M.sds.set i (takeF sd n M.s.now wi).1, s := { M.s with givenUp := M.s.givenUp + (takeF sd n M.s.now wi).2.2 } }) := by
        show _ = _
        unfold tookM
        rw [hwi]
        rfl
      have hgu := takeF_gu sd n M.s.now wi oklen hwi2
      have e1 := u16_id n hn16
      have HS : Hid (TkS mb B n M.s.now wi W) := ⟨HB2.out.q2, HM2.out.k 7 _ rfl, by have := HM2.out.k 1 _ rfl; rw [this]; exact congrArg (fun z => some (Value.int .i64 z)) hwi⟩
      have cU : ∀ b, (b = q.1 ∨ q.2.ownBlock = some b) → ρ1 b ≠ 0 ∧ ρ1 b ≠ 1 := fun b hb => by
        rcases hb with e | e
        · rw [e, hr1]; omega
        · rw [hr2 b e]; omega
      have HU : Hid (∀ b, (b = q.1 ∨ q.2.ownBlock = some b) → ρ1 b ≠ 0 ∧ ρ1 b ≠ 1) := cU
      have HSd : Hid (SdAt W.drew (q.1 + 1) q.1 q.2 sd) := hSd.below (Below.refl _ _).drew
      have H1 : Hid (SB[i]? = some q) := h1
      have H2 : Hid (M.sds[i]? = some sd) := h2
      have hmr : ρ1 mb = 1 := HM2.out.rm
      clear cU hr1 hr2 hSd h1 h2 h3 hi hcfg hwi hri
      unfold ptr
      go_wp2
      refine wp_region_noPanic ?_
      refine wp_region_held_drew (S := TkS mb B n M.s.now wi) (by kernel_rfl) HS.out (fun hHeld => ?_)
      refine wpAnyH_take (i := 0) (v := ?vt1) rfl (by kernel_rfl) (by kernel_rfl) (by kernel_rfl) (fun _ _ _ h => h) (Or.inl ⟨by rfl, ?yt1⟩) hHeld ?rt1
      case yt1 => ((intro W hSw; obtain ⟨hS0, hS1, hS2⟩ := hSw; go_simp) <;> with_reducible rfl)
      try simp only [Act.put]
      try simp only [List.getElem_toArray]
      try simp only [List.getElem_cons_succ]
      try simp only [List.getElem_cons_zero]
      try simp only [List.setIfInBounds_toArray]
      try simp only [List.set_cons_succ]
      try simp only [List.set_cons_zero]
      refine wpAnyH_take (i := 1) (v := ?vt2) rfl (by kernel_rfl) (by kernel_rfl) (by kernel_rfl) (fun _ _ _ h => h) (Or.inl ⟨by rfl, ?yt2⟩) hHeld ?rt2
      case yt2 => ((intro W hSw; obtain ⟨hS0, hS1, hS2⟩ := hSw; go_simp) <;> with_reducible rfl)
      try simp only [Act.put]
      try simp only [List.getElem_toArray]
      try simp only [List.getElem_cons_succ]
      try simp only [List.getElem_cons_zero]
      try simp only [List.setIfInBounds_toArray]
      try simp only [List.set_cons_succ]
      try simp only [List.set_cons_zero]
      refine wpAnyH_take (i := 2) (v := ?vt3) rfl (by kernel_rfl) (by kernel_rfl) (by kernel_rfl) (fun _ _ _ h => h) (Or.inl ⟨by rfl, ?yt3⟩) hHeld ?rt3
      case yt3 => ((intro W hSw; obtain ⟨hS0, hS1, hS2⟩ := hSw; go_simp) <;> with_reducible rfl)
      try simp only [Act.put]
      try simp only [List.getElem_toArray]
      try simp only [List.getElem_cons_succ]
      try simp only [List.getElem_cons_zero]
      try simp only [List.setIfInBounds_toArray]
      try simp only [List.set_cons_succ]
      try simp only [List.set_cons_zero]
      refine wpAnyH_take (i := 3) (v := ?vt4) rfl (by kernel_rfl) (by kernel_rfl) (by kernel_rfl) (fun _ _ _ h => h) (Or.inl ⟨by rfl, ?yt4⟩) hHeld ?rt4
      case yt4 => ((intro W hSw; obtain ⟨hS0, hS1, hS2⟩ := hSw; go_simp) <;> with_reducible rfl)
      try simp only [Act.put]
      try simp only [List.getElem_toArray]
      try simp only [List.getElem_cons_succ]
      try simp only [List.getElem_cons_zero]
      try simp only [List.setIfInBounds_toArray]
      try simp only [List.set_cons_succ]
      try simp only [List.set_cons_zero]
      refine wpAnyH_take (i := 4) (v := ?vt5) rfl (by kernel_rfl) (by kernel_rfl) (by kernel_rfl) (fun _ _ _ h => h) (Or.inl ⟨by rfl, ?yt5⟩) hHeld ?rt5
      case yt5 => ((intro W hSw; obtain ⟨hS0, hS1, hS2⟩ := hSw; go_simp) <;> with_reducible rfl)
      try simp only [Act.put]
      try simp only [List.getElem_toArray]
      try simp only [List.getElem_cons_succ]
      try simp only [List.getElem_cons_zero]
      try simp only [List.setIfInBounds_toArray]
      try simp only [List.set_cons_succ]
      try simp only [List.set_cons_zero]
      refine wpAnyH_take (i := 5) (v := ?vt6) rfl (by kernel_rfl) (by kernel_rfl) (by kernel_rfl) (fun _ _ _ h => h) (Or.inl ⟨by rfl, ?yt6⟩) hHeld ?rt6
      case yt6 => ((intro W hSw; obtain ⟨hS0, hS1, hS2⟩ := hSw; go_simp) <;> with_reducible rfl)
      try simp only [Act.put]
      try simp only [List.getElem_toArray]
      try simp only [List.getElem_cons_succ]
      try simp only [List.getElem_cons_zero]
      try simp only [List.setIfInBounds_toArray]
      try simp only [List.set_cons_succ]
      try simp only [List.set_cons_zero]
      refine wpAnyH_take (i := 6) (v := ?vt7) rfl (by kernel_rfl) (by kernel_rfl) (by kernel_rfl) (fun _ _ _ h => h) (Or.inl ⟨by rfl, ?yt7⟩) hHeld ?rt7
      case yt7 => ((intro W hSw; obtain ⟨hS0, hS1, hS2⟩ := hSw; go_simp) <;> with_reducible rfl)
      try simp only [Act.put]
      try simp only [List.getElem_toArray]
      try simp only [List.getElem_cons_succ]
      try simp only [List.getElem_cons_zero]
      try simp only [List.setIfInBounds_toArray]
      try simp only [List.set_cons_succ]
      try simp only [List.set_cons_zero]
      refine wpAnyH_take (i := 7) (v := ?vt8) rfl (by kernel_rfl) (by kernel_rfl) (by kernel_rfl) (fun _ _ _ h => h) (Or.inl ⟨by rfl, ?yt8⟩) hHeld ?rt8
      case yt8 => ((intro W hSw; obtain ⟨hS0, hS1, hS2⟩ := hSw; go_simp) <;> with_reducible rfl)
      try simp only [Act.put]
      try simp only [List.getElem_toArray]
      try simp only [List.getElem_cons_succ]
      try simp only [List.getElem_cons_zero]
      try simp only [List.setIfInBounds_toArray]
      try simp only [List.set_cons_succ]
      try simp only [List.set_cons_zero]
      refine wpAnyH_take (i := 8) (v := ?vt9) rfl (by kernel_rfl) (by kernel_rfl) (by kernel_rfl) (fun _ _ _ h => h) (Or.inl ⟨by rfl, ?yt9⟩) hHeld ?rt9
      case yt9 => ((intro W hSw; obtain ⟨hS0, hS1, hS2⟩ := hSw; go_simp) <;> with_reducible rfl)
      try simp only [Act.put]
      try simp only [List.getElem_toArray]
      try simp only [List.getElem_cons_succ]
      try simp only [List.getElem_cons_zero]
      try simp only [List.setIfInBounds_toArray]
      try simp only [List.set_cons_succ]
      try simp only [List.set_cons_zero]
      refine wpAnyH_take (i := 9) (v := ?vt10) rfl (by kernel_rfl) (by kernel_rfl) (by kernel_rfl) (fun _ _ _ h => h) (Or.inl ⟨by rfl, ?yt10⟩) hHeld ?rt10
      case yt10 => ((intro W hSw; obtain ⟨hS0, hS1, hS2⟩ := hSw; go_simp) <;> with_reducible rfl)
      try simp only [Act.put]
      try simp only [List.getElem_toArray]
      try simp only [List.getElem_cons_succ]
      try simp only [List.getElem_cons_zero]
      try simp only [List.setIfInBounds_toArray]
      try simp only [List.set_cons_succ]
      try simp only [List.set_cons_zero]
      refine wpAnyH_take (i := 10) (v := ?vt11) rfl (by kernel_rfl) (by kernel_rfl) (by kernel_rfl) (fun _ _ _ h => h) (Or.inl ⟨by rfl, ?yt11⟩) hHeld ?rt11
      case yt11 => ((intro W hSw; obtain ⟨hS0, hS1, hS2⟩ := hSw; go_simp) <;> with_reducible rfl)
      try simp only [Act.put]
      try simp only [List.getElem_toArray]
      try simp only [List.getElem_cons_succ]
      try simp only [List.getElem_cons_zero]
      try simp only [List.setIfInBounds_toArray]
      try simp only [List.set_cons_succ]
      try simp only [List.set_cons_zero]
      refine wpAnyH_take (i := 11) (v := ?vt12) rfl (by kernel_rfl) (by kernel_rfl) (by kernel_rfl) (fun _ _ _ h => h) (Or.inl ⟨by rfl, ?yt12⟩) hHeld ?rt12
      case yt12 => ((intro W hSw; obtain ⟨hS0, hS1, hS2⟩ := hSw; go_simp) <;> with_reducible rfl)
      try simp only [Act.put]
      try simp only [List.getElem_toArray]
      try simp only [List.getElem_cons_succ]
      try simp only [List.getElem_cons_zero]
      try simp only [List.setIfInBounds_toArray]
      try simp only [List.set_cons_succ]
      try simp only [List.set_cons_zero]
      refine wpAnyH_take (i := 12) (v := ?vt13) rfl (by kernel_rfl) (by kernel_rfl) (by kernel_rfl) (fun _ _ _ h => h) (Or.inl ⟨by rfl, ?yt13⟩) hHeld ?rt13
      case yt13 => ((intro W hSw; obtain ⟨hS0, hS1, hS2⟩ := hSw; go_simp) <;> with_reducible rfl)
      try simp only [Act.put]
      try simp only [List.getElem_toArray]
      try simp only [List.getElem_cons_succ]
      try simp only [List.getElem_cons_zero]
      try simp only [List.setIfInBounds_toArray]
      try simp only [List.set_cons_succ]
      try simp only [List.set_cons_zero]
      refine wpAnyH_take (i := 13) (v := ?vt14) rfl (by kernel_rfl) (by kernel_rfl) (by kernel_rfl) (fun _ _ _ h => h) (Or.inl ⟨by rfl, ?yt14⟩) hHeld ?rt14
      case yt14 => ((intro W hSw; obtain ⟨hS0, hS1, hS2⟩ := hSw; go_simp) <;> with_reducible rfl)
      try simp only [Act.put]
      try simp only [List.getElem_toArray]
      try simp only [List.getElem_cons_succ]
      try simp only [List.getElem_cons_zero]
      try simp only [List.setIfInBounds_toArray]
      try simp only [List.set_cons_succ]
      try simp only [List.set_cons_zero]
      refine wpAnyH_ready (rs := [14]) (by kernel_rfl) (by simp) ?_
      refine AllReadyH.cons rfl (fun K hK => ?_) AllReadyH.nil
      go_simp
      refine (take_any (q.1 + 1) q.1 q.2 sd n wi M.s.now _ HSd.out ok16 oknew hn16 oklen hwi2 HSd.out.lt).mono ?_
      rintro e w3 ⟨rfl, v3, hS3, hU3⟩
      have hSS : TkS mb B n M.s.now wi w3 := TkS.chg hHeld hU3.chg (fun e => (HU.out _ e).2 hmr) (fun e => (HU.out _ e).1 hrb)
      have HUd : Hid (SdUp W w3 q.1 q.2 v3) := SdUp.before (Below.refl _ _).drew hU3
      have HS3 : Hid (SdAt w3 (q.1 + 1) q.1 v3 (takeF sd n M.s.now wi).1) := hS3
      clear hS3 hU3
      generalize (takeF sd n M.s.now wi).2.1 = f at *
      generalize (takeF sd n M.s.now wi).2.2 = gu at *
      generalize (takeF sd n M.s.now wi).1 = sd' at *
      obtain ⟨ρ3, hM3, hV3, hI3⟩ : ∃ ρ3 : Nat → Nat, MdAt w3 ρ3 mb { M with sds := M.sds.set i sd' } sv wv (SB.set i (q.1, v3)) WB ∧ Mv w ρ w3 ρ3 ∧ IsC (fun b => ρ3 b = 4) w3 (.slice acv cl.length ccv) cl := by
        have hsnd := HM2.out.snd H1.out H2.out HS3.out HUd.out
        exact ⟨_, hsnd.1, HV2.out.trans ⟨hsnd.2.1, hsnd.2.2⟩, IsC.snd HM2.out H1.out H2.out HI2.out HUd.out⟩
      have HM3 : Hid (MdAt w3 ρ3 mb { M with sds := M.sds.set i sd' } sv wv (SB.set i (q.1, v3)) WB) := hM3
      have HV3 : Hid (Mv w ρ w3 ρ3) := hV3
      have HI3 : Hid (IsC (fun b => ρ3 b = 4) w3 (.slice acv cl.length ccv) cl) := hI3
      have HB3 : Hid (PbAt B ⟨mk, ex, ty, (n : Nat), ti, so, pr, pa, cl, en, py⟩ (.slice acv cl.length ccv) w3) := HB2.out.chg HUd.out.chg (fun e => (HU.out _ e).1 hrb)
      clear hM3 hV3 hI3
      go_simp
      refine hK.out _ _ hSS (fun hHeld => ?_)
      clear hK K
      try simp only [Act.put]
      try simp only [List.getElem_toArray]
      try simp only [List.getElem_cons_succ]
      try simp only [List.getElem_cons_zero]
      try simp only [List.setIfInBounds_toArray]
      try simp only [List.set_cons_succ]
      try simp only [List.set_cons_zero]
      refine wpAnyH_take (i := 15) (v := ?vt15) rfl (by kernel_rfl) (by kernel_rfl) (by kernel_rfl) (fun _ _ _ h => h) (Or.inl ⟨by rfl, ?yt15⟩) hHeld ?rt15
      case yt15 => ((intro W hSw; obtain ⟨hS0, hS1, hS2⟩ := hSw; go_simp) <;> with_reducible rfl)
      try simp only [Act.put]
      try simp only [List.getElem_toArray]
      try simp only [List.getElem_cons_succ]
      try simp only [List.getElem_cons_zero]
      try simp only [List.setIfInBounds_toArray]
      try simp only [List.set_cons_succ]
      try simp only [List.set_cons_zero]
      refine wpAnyH_take (i := 16) (v := ?vt16) rfl (by kernel_rfl) (by kernel_rfl) (by kernel_rfl) (fun _ _ _ h => h) (Or.inl ⟨by rfl, ?yt16⟩) hHeld ?rt16
      case yt16 => ((intro W hSw; obtain ⟨hS0, hS1, hS2⟩ := hSw; go_simp) <;> with_reducible rfl)
      try simp only [Act.put]
      try simp only [List.getElem_toArray]
      try simp only [List.getElem_cons_succ]
      try simp only [List.getElem_cons_zero]
      try simp only [List.setIfInBounds_toArray]
      try simp only [List.set_cons_succ]
      try simp only [List.set_cons_zero]
      refine wpAnyH_take (i := 17) (v := ?vt17) rfl (by kernel_rfl) (by kernel_rfl) (by kernel_rfl) (fun _ _ _ h => h) (Or.inl ⟨by rfl, ?yt17⟩) hHeld ?rt17
      case yt17 => ((intro W hSw; obtain ⟨hS0, hS1, hS2⟩ := hSw; go_simp) <;> with_reducible rfl)
      try simp only [Act.put]
      try simp only [List.getElem_toArray]
      try simp only [List.getElem_cons_succ]
      try simp only [List.getElem_cons_zero]
      try simp only [List.setIfInBounds_toArray]
      try simp only [List.set_cons_succ]
      try simp only [List.set_cons_zero]
      refine wpAnyH_ready (rs := [18]) (by kernel_rfl) (by simp) ?_
      refine AllReadyH.cons rfl (fun K hK => ?_) AllReadyH.nil
      go_simp
      refine hK.out _ _ hHeld (fun hHeld => ?_)
      clear hK K
      try simp only [Act.put]
      try simp only [List.getElem_toArray]
      try simp only [List.getElem_cons_succ]
      try simp only [List.getElem_cons_zero]
      try simp only [List.setIfInBounds_toArray]
      try simp only [List.set_cons_succ]
      try simp only [List.set_cons_zero]
      refine wpAnyH_ready (rs := [19]) (by kernel_rfl) (by simp) ?_
      refine AllReadyH.cons rfl (fun K hK => ?_) AllReadyH.nil
      go_simp
      refine hK.out _ _ hHeld (fun hHeld => ?_)
      clear hK K
      try simp only [Act.put]
      try simp only [List.getElem_toArray]
      try simp only [List.getElem_cons_succ]
      try simp only [List.getElem_cons_zero]
      try simp only [List.setIfInBounds_toArray]
      try simp only [List.set_cons_succ]
      try simp only [List.set_cons_zero]
      refine wpAnyH_done (by kernel_rfl) ?_ _
      refine NoPanic.normal ?_
      clear hHeld hSS HS e1
      have y17 : w3.cell? ⟨mb, 17, none⟩ = some (.int .i64 M.s.givenUp) := HM3.out.k 17 _ rfl
      have yf : ∀ o, w3.frozen? ⟨mb, o, none⟩ = false := HM3.out.fz
      have hwg : IntKind.i64.wrap (M.s.givenUp + (gu : Int)) = M.s.givenUp + gu := i64_id _ (by have := Hok.out.cnt M.s.givenUp (by simp); omega) (by have := Hok.out.cnt M.s.givenUp (by simp); omega)
      by_cases hf1 : f = 1
      · subst hf1
        have HP : Hid (packetM M t (.slice none 0 0) = ({ M with sds := M.sds.set i sd', s := { M.s with givenUp := M.s.givenUp + gu, late := M.s.late + 1 } }, [], 0)) := by
          show _ = _
          rw [HP0.out, if_pos rfl, Htook.out]
        have y : w3.cell? ⟨mb, 10, none⟩ = some (.int .i64 M.s.late) := HM3.out.k 10 _ rfl
        have hw := Hok.out.cnt1 (c := M.s.late) (by simp)
        go_wp2
        go_ret2
        refine ⟨.slice none 0 0, .slice none 0 0, ?_, ?_⟩
        · rw [HP.out]; rfl
        · rw [HP.out]
          have hm := HM3.out.put (M' := { M with sds := M.sds.set i sd', s := { M.s with givenUp := M.s.givenUp + gu } }) 17 (.int .i64 (M.s.givenUp + gu)) (by omega) rfl rfl rfl
          have hm2 := hm.1.put (M' := { M with sds := M.sds.set i sd', s := { M.s with givenUp := M.s.givenUp + gu, late := M.s.late + 1 } }) 10 (.int .i64 (M.s.late + 1)) (by omega) rfl rfl rfl
          exact MovedT.none hm2.1 (HV3.out.trans (hm.2.trans hm2.2))
      by_cases hf2 : f = 2
      · subst hf2
        have HP : Hid (packetM M t (.slice none 0 0) = ({ M with sds := M.sds.set i sd', s := { M.s with givenUp := M.s.givenUp + gu, doubled := M.s.doubled + 1 } }, [], 0)) := by
          show _ = _
          rw [HP0.out, if_neg (by decide), if_pos rfl, Htook.out]
        have y : w3.cell? ⟨mb, 11, none⟩ = some (.int .i64 M.s.doubled) := HM3.out.k 11 _ rfl
        have hw := Hok.out.cnt1 (c := M.s.doubled) (by simp)
        go_wp2
        go_ret2
        refine ⟨.slice none 0 0, .slice none 0 0, ?_, ?_⟩
        · rw [HP.out]; rfl
        · rw [HP.out]
          have hm := HM3.out.put (M' := { M with sds := M.sds.set i sd', s := { M.s with givenUp := M.s.givenUp + gu } }) 17 (.int .i64 (M.s.givenUp + gu)) (by omega) rfl rfl rfl
          have hm2 := hm.1.put (M' := { M with sds := M.sds.set i sd', s := { M.s with givenUp := M.s.givenUp + gu, doubled := M.s.doubled + 1 } }) 11 (.int .i64 (M.s.doubled + 1)) (by omega) rfl rfl rfl
          exact MovedT.none hm2.1 (HV3.out.trans (hm.2.trans hm2.2))
      have g1 : ((f : Int) == 1) = false := by rw [beq_eq_false_iff_ne]; omega
      have g2 : ((f : Int) == 2) = false := by rw [beq_eq_false_iff_ne]; omega
      have HP : Hid (∀ cv, packetM M t cv = (passTo { M with sds := M.sds.set i sd', s := { M.s with givenUp := M.s.givenUp + gu, passed := M.s.passed + 1 } } ⟨mk, ex, ty, (n : Nat), ti, so, pr, pa, cl, en, py⟩ cv ri M.wns.length, textsTo M ⟨mk, ex, ty, (n : Nat), ti, so, pr, pa, cl, en, py⟩ M.wns.length, 0)) := by
        intro cv
        rw [HP0.out, if_neg hf1, if_neg hf2, Htook.out]
      have y9 : w3.cell? ⟨mb, 9, none⟩ = some (.int .i64 M.s.passed) := HM3.out.k 9 _ rfl
      have hw := Hok.out.cnt1 (c := M.s.passed) (by simp)
      have b0 := HB3.out.q0
      have b1 := HB3.out.q1
      have b2 := HB3.out.q2
      have b3 := HB3.out.q3
      have b4 := HB3.out.q4
      have b5 := HB3.out.q5
      have b6 := HB3.out.q6
      have b7 := HB3.out.q7
      have b8 := HB3.out.q8
      have b9 := HB3.out.q9
      have b10 := HB3.out.q10
      have hm := HM3.out.put (M' := { M with sds := M.sds.set i sd', s := { M.s with givenUp := M.s.givenUp + gu } }) 17 (.int .i64 (M.s.givenUp + gu)) (by omega) rfl rfl rfl
      have hm2 := hm.1.put (M' := { M with sds := M.sds.set i sd', s := { M.s with givenUp := M.s.givenUp + gu, passed := M.s.passed + 1 } }) 9 (.int .i64 (M.s.passed + 1)) (by omega) rfl rfl rfl
      have HM5 : Hid (MdAt ((w3.setCell ⟨mb, 17, none⟩ (.int .i64 (M.s.givenUp + gu))).setCell ⟨mb, 9, none⟩ (.int .i64 (M.s.passed + 1))) ρ3 mb { M with sds := M.sds.set i sd', s := { M.s with givenUp := M.s.givenUp + gu, passed := M.s.passed + 1 } } sv wv (SB.set i (q.1, v3)) WB) := hm2.1
      have HV5 : Hid (Mv w ρ ((w3.setCell ⟨mb, 17, none⟩ (.int .i64 (M.s.givenUp + gu))).setCell ⟨mb, 9, none⟩ (.int .i64 (M.s.passed + 1))) ρ3) := HV3.out.trans (hm.2.trans hm2.2)
      have hcc : Chg (fun b => b = mb) w3 ((w3.setCell ⟨mb, 17, none⟩ (.int .i64 (M.s.givenUp + gu))).setCell ⟨mb, 9, none⟩ (.int .i64 (M.s.passed + 1))) := ((Chg.refl (fun b => b = mb) _).setCell ⟨mb, 17, none⟩ (.inl rfl) _).setCell ⟨mb, 9, none⟩ (.inl rfl) _
      have HI5 : Hid (IsC (fun b => ρ3 b = 4) ((w3.setCell ⟨mb, 17, none⟩ (.int .i64 (M.s.givenUp + gu))).setCell ⟨mb, 9, none⟩ (.int .i64 (M.s.passed + 1))) (.slice acv cl.length ccv) cl) := HI3.out.chg hcc (fun b hb e => by rw [e, HM3.out.rm] at hb; cases hb)
      have hw8 := Hok.out.w8
      have Hwnt : Hid (∀ x ∈ M.wns, WOk x) := Hok.out.wnt
      clear hm hm2 hcc
      go_wp2_with fail
      refine (passOn_any ρ3 mb { M with sds := M.sds.set i sd', s := { M.s with givenUp := M.s.givenUp + gu, passed := M.s.passed + 1 } } sv wv (SB.set i (q.1, v3)) WB mk ex ty ti so pr pa n cl en py (.slice acv cl.length ccv) ri _ HM5.out HI5.out Hri.out hri2 hn16 hw8 Hwnt.out (by omega) (by omega) (by omega)).mono ?_
      rintro e w6 ⟨ρ6, WB6, ov, rfl, hrel⟩
      obtain ⟨ao6, co6, rfl⟩ := rowA_shape hrel.row
      have HT : Hid (MovedT w w6 ρ mb (packetM M t (.slice acv cl.length ccv)).1 (.slice ao6 (textsTo M ⟨mk, ex, ty, (n : Nat), ti, so, pr, pa, cl, en, py⟩ M.wns.length).length co6) (packetM M t (.slice acv cl.length ccv)).2.1) := by
        show MovedT _ _ _ _ _ _ _
        rw [HP.out]
        refine ⟨ρ6, sv, wv, _, WB6, hrel.md, HV5.out.trans ⟨hrel.z, hrel.chg⟩, row_mono hrel.row ?_, hrel.r0⟩
        have := HV5.out.2.size
        omega
      have Hp2 : Hid ((packetM M t (.slice acv cl.length ccv)).2.2 = 0) := by show _ = _; rw [HP.out]
      clear hrel
      have htl : textsTo { M with sds := M.sds.set i sd', s := { M.s with givenUp := M.s.givenUp + gu, passed := M.s.passed + 1 } } ⟨mk, ex, ty, (n : Nat), ti, so, pr, pa, cl, en, py⟩ ({ M with sds := M.sds.set i sd', s := { M.s with givenUp := M.s.givenUp + gu, passed := M.s.passed + 1 } } : Md).wns.length = textsTo M ⟨mk, ex, ty, (n : Nat), ti, so, pr, pa, cl, en, py⟩ M.wns.length := rfl
      rw [htl]
      clear htl
      generalize (textsTo M ⟨mk, ex, ty, (n : Nat), ti, so, pr, pa, cl, en, py⟩ M.wns.length).length = tl at *
      go_wp2
      go_ret2
      refine ⟨.slice acv cl.length ccv, .slice ao6 tl co6, ?_, HT.out⟩
      rw [Hp2.out]
      rfl

end Go.Proofs.Ytdjhhnolcafkiaa
