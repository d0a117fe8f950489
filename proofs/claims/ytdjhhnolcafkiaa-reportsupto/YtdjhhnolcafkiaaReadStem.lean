/- A packet is read: the stem. -/
import Derived.Test.YtdjhhnolcafkiaaReadSt
import Derived.Test.YtdjhhnolcafkiaaOwnI
namespace Go.Proofs.Ytdjhhnolcafkiaa
open Go.RowKit Pk
namespace Pk
theorem below_fin {w W : World} {c0 c1 c2 c3 c4 c5 c6 c7 c8 c9 c10 : Value} (hb : Below w.heap.size w W) : Below w.heap.size w (((((((((((W.setCell ⟨w.heap.size, 0, none⟩ c0).setCell ⟨w.heap.size, 1, none⟩ c1).setCell ⟨w.heap.size, 2, none⟩ c2).setCell ⟨w.heap.size, 3, none⟩ c3).setCell ⟨w.heap.size, 4, none⟩ c4).setCell ⟨w.heap.size, 5, none⟩ c5).setCell ⟨w.heap.size, 6, none⟩ c6).setCell ⟨w.heap.size, 7, none⟩ c7).setCell ⟨w.heap.size, 8, none⟩ c8).setCell ⟨w.heap.size, 9, none⟩ c9).setCell ⟨w.heap.size, 10, none⟩ c10) := (((((((((((hb.setCell (p := ⟨w.heap.size, 0, none⟩) (Nat.le_refl _) _).setCell (p := ⟨w.heap.size, 1, none⟩) (Nat.le_refl _) _).setCell (p := ⟨w.heap.size, 2, none⟩) (Nat.le_refl _) _).setCell (p := ⟨w.heap.size, 3, none⟩) (Nat.le_refl _) _).setCell (p := ⟨w.heap.size, 4, none⟩) (Nat.le_refl _) _).setCell (p := ⟨w.heap.size, 5, none⟩) (Nat.le_refl _) _).setCell (p := ⟨w.heap.size, 6, none⟩) (Nat.le_refl _) _).setCell (p := ⟨w.heap.size, 7, none⟩) (Nat.le_refl _) _).setCell (p := ⟨w.heap.size, 8, none⟩) (Nat.le_refl _) _).setCell (p := ⟨w.heap.size, 9, none⟩) (Nat.le_refl _) _).setCell (p := ⟨w.heap.size, 10, none⟩) (Nat.le_refl _) _)
theorem told_fin {w W : World} {v : Value} {l : List Int} {c0 c1 c2 c3 c4 c5 c6 c7 c8 c9 c10 : Value} (hb : Below w.heap.size w W) (ho : OwnInts W (w.heap.size + 2) v l) :
    Below w.heap.size w (((((((((((W.setCell ⟨w.heap.size, 0, none⟩ c0).setCell ⟨w.heap.size, 1, none⟩ c1).setCell ⟨w.heap.size, 2, none⟩ c2).setCell ⟨w.heap.size, 3, none⟩ c3).setCell ⟨w.heap.size, 4, none⟩ c4).setCell ⟨w.heap.size, 5, none⟩ c5).setCell ⟨w.heap.size, 6, none⟩ c6).setCell ⟨w.heap.size, 7, none⟩ c7).setCell ⟨w.heap.size, 8, none⟩ c8).setCell ⟨w.heap.size, 9, none⟩ c9).setCell ⟨w.heap.size, 10, none⟩ c10) ∧ OwnInts (((((((((((W.setCell ⟨w.heap.size, 0, none⟩ c0).setCell ⟨w.heap.size, 1, none⟩ c1).setCell ⟨w.heap.size, 2, none⟩ c2).setCell ⟨w.heap.size, 3, none⟩ c3).setCell ⟨w.heap.size, 4, none⟩ c4).setCell ⟨w.heap.size, 5, none⟩ c5).setCell ⟨w.heap.size, 6, none⟩ c6).setCell ⟨w.heap.size, 7, none⟩ c7).setCell ⟨w.heap.size, 8, none⟩ c8).setCell ⟨w.heap.size, 9, none⟩ c9).setCell ⟨w.heap.size, 10, none⟩ c10) (w.heap.size + 2) v l :=
  ⟨(((((((((((hb.setCell (p := ⟨w.heap.size, 0, none⟩) (Nat.le_refl _) _).setCell (p := ⟨w.heap.size, 1, none⟩) (Nat.le_refl _) _).setCell (p := ⟨w.heap.size, 2, none⟩) (Nat.le_refl _) _).setCell (p := ⟨w.heap.size, 3, none⟩) (Nat.le_refl _) _).setCell (p := ⟨w.heap.size, 4, none⟩) (Nat.le_refl _) _).setCell (p := ⟨w.heap.size, 5, none⟩) (Nat.le_refl _) _).setCell (p := ⟨w.heap.size, 6, none⟩) (Nat.le_refl _) _).setCell (p := ⟨w.heap.size, 7, none⟩) (Nat.le_refl _) _).setCell (p := ⟨w.heap.size, 8, none⟩) (Nat.le_refl _) _).setCell (p := ⟨w.heap.size, 9, none⟩) (Nat.le_refl _) _).setCell (p := ⟨w.heap.size, 10, none⟩) (Nat.le_refl _) _), (((((((((((ho.setCell (a := ⟨w.heap.size, 0, none⟩) (by simp) _).setCell (a := ⟨w.heap.size, 1, none⟩) (by simp) _).setCell (a := ⟨w.heap.size, 2, none⟩) (by simp) _).setCell (a := ⟨w.heap.size, 3, none⟩) (by simp) _).setCell (a := ⟨w.heap.size, 4, none⟩) (by simp) _).setCell (a := ⟨w.heap.size, 5, none⟩) (by simp) _).setCell (a := ⟨w.heap.size, 6, none⟩) (by simp) _).setCell (a := ⟨w.heap.size, 7, none⟩) (by simp) _).setCell (a := ⟨w.heap.size, 8, none⟩) (by simp) _).setCell (a := ⟨w.heap.size, 9, none⟩) (by simp) _).setCell (a := ⟨w.heap.size, 10, none⟩) (by simp) _)⟩
end Pk

theorem num_two (s : ByteArray) (a : Nat) : num (s.extract a (a + 2)).data.toList < 65536 := by
  have h1 := num_lt (s.extract a (a + 2)).data.toList
  have h2 : (s.extract a (a + 2)).data.toList.length ≤ 2 := by rw [← Lib.size_eq, ByteArray.size_extract]; omega
  have h3 : 256 ^ (s.extract a (a + 2)).data.toList.length ≤ 256 ^ 2 := Nat.pow_le_pow_right (by omega) h2
  omega
theorem run_last (W : World) (s : ByteArray) (h : 0 < s.size) : (Instr.index 9 (.string s) (.int .i64 ((s.size : Int) - 1))).run Try.prog W = .ok (.int .u8 ((Bl s).toNat : Int)) W := by
  rw [run_index_string W 9 s .i64 _ Try.underlying9, dif_pos ⟨by omega, by omega⟩, ← getl s (by omega)]
  have e : ((s.size : Int) - 1).toNat = s.size - 1 := by omega
  simp only [e]

set_option maxHeartbeats 8000000 in
theorem read_plain (s : ByteArray) (w : World) (hs : 12 ≤ s.size) (hs2 : s.size ≤ 1500) (hm : (B0 s).toNat / 64 = 2) (hat : at0 s ≤ s.size) (hx : ¬ (B0 s).toNat / 16 % 2 = 1) :
    Calls Try.prog 47 #[.string s] w fun e w' => Below w.heap.size w w' ∧ ReadAs (readP s) w.heap.size e w' := by
  have hi : (12 : Int) ≤ s.size := by omega
  have hi2 : (s.size : Int) ≤ 1500 := by omega
  have i0 : (0 : Int) < s.size := by omega
  have hbad : bad1 s = false := by unfold bad1; exact decide_eq_false (by omega)
  have HP : Hid (readP s = (extPart s).bind fun x => (padPart s x.2.2).map fun y => mkP s x y) := readP_of s hbad hat
  clear hbad
  have j0 : ∀ W : World, (Instr.index 9 (.string s) (.int .i64 0)).run Try.prog W = .ok (.int .u8 ((B0 s).toNat : Int)) W := fun W => by
    rw [run_index_string W 9 s .i64 0 Try.underlying9, dif_pos ⟨by omega, i0⟩, ← get0 s (by omega)]; rfl
  have hb := (B0 s).toNat_lt
  have hne : (((B0 s).toNat : Int) / 64 != 2) = false := by rw [bne_eq_false_iff_eq]; omega
  have e15 : IntKind.i64.wrap (bits .and .u8 ((B0 s).toNat : Int) 15) = ((B0 s).toNat : Int) % 16 := by rw [low4]; exact (wrapI64 _ (by omega) (by omega)).trans (by omega)
  obtain ⟨A, hA⟩ : ∃ A, A = at0 s := ⟨_, rfl⟩
  have HA : Hid (A = at0 s) := hA
  have hA1 : (12 + 4 * (((B0 s).toNat : Int) % 16)) = (A : Int) := by rw [hA]; unfold at0; omega
  have hA2 : A ≤ s.size := by rw [hA]; exact hat
  have hA3 : 12 ≤ A := by rw [hA]; unfold at0; omega
  clear hm hat hA
  go_enter Try.func47, Try.ntmps47
  go_wp2
  refine wp_scope_fwd 0 rfl ?_
  go_wp2_with fail
  refine (readHead_any s _ hs hs2).mono ?_
  rintro e w1 ⟨rfl, hb1⟩
  rw [get0 s (by omega), get1 s (by omega)]
  have hSt0 := St.init w 33
  have hSt1 := hSt0.below hb1
  have hSt := hSt1
  obtain ⟨bel, siz, r0, r1, r2, r3, r4, r5, r6, r7, r8, r9, r10, y0, y1, y2, y3, y4, y5, y6, y7, y8, y9, y10, fr, fy⟩ := hSt1
  clear hb1 hSt0
  go_wp2_with fail
  clear bel siz r0 r1 r2 r3 r4 r5 r6 r7 r8 r9 r10 y0 y1 y2 y3 y4 y5 y6 y7 y8 y9 y10 fr fy
  refine (readWords_any _ _ (by simp only [ByteArray.size_extract]; omega)).mono ?_
  rintro e w2 ⟨v, rfl, hown, hb2⟩
  have hSt2 := (((((((((((hSt.set0 _).set1 _).set2 _).set3 _).set4 _).set5 _).set6 _).set7 _).set8 _).set9 _).set10 _).below hb2
  have hown2 := hown.mono (base' := w.heap.size + 2) (by have := hSt.siz; simp; omega)
  clear hown hb2 hSt
  obtain ⟨ao, cap, rfl⟩ := hown2.shape
  have Hown : Hid (OwnInts w2 (w.heap.size + 2) _ _) := hown2
  clear hown2
  generalize hcl : words (s.extract 12 A).data.toList = cl at *
  have Hcl : Hid (words (s.extract 12 A).data.toList = cl) := hcl
  clear hcl
  have hSt := hSt2
  obtain ⟨bel, siz, r0, r1, r2, r3, r4, r5, r6, r7, r8, r9, r10, y0, y1, y2, y3, y4, y5, y6, y7, y8, y9, y10, fr, fy⟩ := hSt2
  clear w1
  have hxd : decide ((B0 s).toNat / 16 % 2 = 1) = false := decide_eq_false hx
  have HX : Hid (extPart s = some (0, ⟨#[]⟩, A)) := by show _ = _; unfold extPart; rw [if_neg hx, HA.out]
  clear hx
  by_cases hp : (B0 s).toNat / 32 % 2 = 1
  · have hpd : (bits .and .u8 ((B0 s).toNat : Int) 32 != 0) = true := by rw [pad_bit]; exact decide_eq_true hp
    have hq := (Bl s).toNat_lt
    have jl : ∀ W : World, (Instr.index 9 (.string s) (.int .i64 ((s.size : Int) - 1))).run Try.prog W = .ok (.int .u8 ((Bl s).toNat : Int)) W := fun W => run_last W s (by omega)
    have HPd : Hid (padPart s A = if (Bl s).toNat = 0 ∨ s.size - A < (Bl s).toNat then none else if noughts (s.extract (s.size - (Bl s).toNat) (s.size - 1)).data.toList = true then some ((Bl s).toNat, s.size - (Bl s).toNat) else none) := by show _ = _; unfold padPart; rw [if_pos hp]
    clear hp
    generalize hqq : (Bl s).toNat = q at *
    have Hqq : Hid ((Bl s).toNat = q) := hqq
    clear hqq
    by_cases hq0 : q = 0
    · subst hq0
      have HR : Hid (readP s = none) := by
        show _ = _
        rw [HP.out, HX.out]
        simp only [Option.bind_some]
        rw [HPd.out, if_pos (.inl rfl)]
        rfl
      go_wp2
      go_step3
      refine jump_here 0 ?_
      go_wp2
      rw [Exit.noGoto_ret]
      refine bodyPost_ret (v := wrongV) (by simp [results, Try.results47, wrongV, go_sem, r0, r1, r2, r3, r4, r5, r6, r7, r8, r9, r10]) rfl ⟨?_, ?_⟩
      · exact below_fin (((bel.setCell (p := ⟨w.heap.size + 1, 5, none⟩) (by simp) _).setCell (p := ⟨w.heap.size + 1, 10, none⟩) (by simp) _))
      · rw [HR.out]
        rfl
    · have hq0' : ((q : Int) == 0) = false := by simpa using hq0
      by_cases hq1 : s.size - A < q
      · have hq1' : (s.size : Int) - (A : Nat) < q := by omega
        have HR : Hid (readP s = none) := by
          show _ = _
          rw [HP.out, HX.out]
          simp only [Option.bind_some]
          rw [HPd.out, if_pos (.inr hq1)]
          rfl
        clear hq0
        go_wp2
        go_step3
        refine jump_here 0 ?_
        go_wp2
        rw [Exit.noGoto_ret]
        refine bodyPost_ret (v := wrongV) (by simp [results, Try.results47, wrongV, go_sem, r0, r1, r2, r3, r4, r5, r6, r7, r8, r9, r10]) rfl ⟨?_, ?_⟩
        · exact below_fin (((bel.setCell (p := ⟨w.heap.size + 1, 5, none⟩) (by simp) _).setCell (p := ⟨w.heap.size + 1, 10, none⟩) (by simp) _))
        · rw [HR.out]
          rfl
      · have hq1' : ¬ ((s.size : Int) - (A : Nat) < q) := by omega
        have hq2 : (1 : Int) ≤ q := by omega
        have hq3 : (q : Int) ≤ s.size := by omega
        have HPd2 : Hid (padPart s A = if noughts (s.extract (s.size - q) (s.size - 1)).data.toList = true then some (q, s.size - q) else none) := by show _ = _; rw [HPd.out, if_neg (by omega)]
        clear hq0 HPd
        have hz1 : s.size - q ≤ s.size - 1 := by omega
        have hz2 : A ≤ s.size - q := by omega
        have hz3 : s.size - q ≤ s.size := by omega
        go_wp2_with fail
        refine (allNoughts_any _ _ (by simp only [ByteArray.size_extract]; unfold maxLen; omega)).mono ?_
        rintro e w4 ⟨rfl, rfl⟩
        cases hN : noughts (s.extract (s.size - q) (s.size - 1)).data.toList with
        | false =>
          have HR : Hid (readP s = none) := by
            show _ = _
            rw [HP.out, HX.out]
            simp only [Option.bind_some]
            rw [HPd2.out, hN]
            rfl
          clear hN
          go_wp2
          go_step3
          refine jump_here 0 ?_
          go_wp2
          rw [Exit.noGoto_ret]
          refine bodyPost_ret (v := wrongV) (by simp [results, Try.results47, wrongV, go_sem, r0, r1, r2, r3, r4, r5, r6, r7, r8, r9, r10]) rfl ⟨?_, ?_⟩
          · exact below_fin (((bel.setCell (p := ⟨w.heap.size + 1, 5, none⟩) (by simp) _).setCell (p := ⟨w.heap.size + 1, 10, none⟩) (by simp) _))
          · rw [HR.out]
            rfl
        | true =>
          have HR : Hid (readP s = some (mkP s (0, ⟨#[]⟩, A) (q, s.size - q))) := by
            show _ = _
            rw [HP.out, HX.out]
            simp only [Option.bind_some]
            rw [HPd2.out, hN]
            rfl
          clear hN
          go_wp2_with fail
          clear bel siz r0 r1 r2 r3 r4 r5 r6 r7 r8 r9 r10 y0 y1 y2 y3 y4 y5 y6 y7 y8 y9 y10 fr fy
          refine (clone_any _ _ (by simp only [ByteArray.size_extract]; omega)).mono ?_
          rintro e w9 ⟨rfl, hb9⟩
          have hStn := ((hSt.set5 _).set10 _).below hb9
          have hownn := ((Hown.out.setCell (a := ⟨w.heap.size + 1, 5, none⟩) (by simp) _).setCell (a := ⟨w.heap.size + 1, 10, none⟩) (by simp) _).below hb9
          clear hb9 hSt Hown
          have Hown : Hid (OwnInts w9 (w.heap.size + 2) _ _) := hownn
          clear hownn
          have hSt := hStn
          obtain ⟨bel, siz, r0, r1, r2, r3, r4, r5, r6, r7, r8, r9, r10, y0, y1, y2, y3, y4, y5, y6, y7, y8, y9, y10, fr, fy⟩ := hStn
          go_wp2
          simp only [Exit.jump]
          obtain ⟨q1, q2⟩ := told_fin (bel.setCell (p := ⟨w.heap.size + 1, 9, none⟩) (by simp) _) (Hown.out.setCell (a := ⟨w.heap.size + 1, 9, none⟩) (by simp) _)
          refine bodyPost_ret (v := .tuple #[.agg #[.bool (decide (128 ≤ (B1 s).toNat)), .int .i64 ((B1 s).toNat % 128), .int .i64 (num ((s.data.toList.drop 2).take 2)), .int .i64 (num ((s.data.toList.drop 4).take 4)), .int .i64 (num ((s.data.toList.drop 8).take 4)), .slice ao cl.length cap, .bool false, .int .i64 0, .string ⟨#[]⟩, .string (s.extract A (s.size - q)), .int .i64 q], .int .i64 0]) (by simp [results, Try.results47, go_sem, r0, r1, r2, r3, r4, r5, r6, r7, r8, r9, r10]) rfl ⟨?_, ?_⟩
          · exact q1
          · rw [HR.out]
            refine ⟨.slice ao cl.length cap, ?_, ?_⟩
            · simp [okV, mkP, hxd]
            · have e : (mkP s (0, ⟨#[]⟩, A) (q, s.size - q)).cl = cl := by rw [← Hcl.out, HA.out]; rfl
              rw [e]
              exact q2.mono (by omega)
  · have hpd : (bits .and .u8 ((B0 s).toNat : Int) 32 != 0) = false := by rw [pad_bit]; exact decide_eq_false hp
    have HR : Hid (readP s = some (mkP s (0, ⟨#[]⟩, A) (0, s.size))) := by
      show _ = _
      rw [HP.out, HX.out]
      simp [padPart, hp]
    clear hp
    go_wp2_with fail
    clear bel siz r0 r1 r2 r3 r4 r5 r6 r7 r8 r9 r10 y0 y1 y2 y3 y4 y5 y6 y7 y8 y9 y10 fr fy
    refine (clone_any _ _ (by simp only [ByteArray.size_extract]; omega)).mono ?_
    rintro e w9 ⟨rfl, hb9⟩
    have hStn := (hSt.set5 _).below hb9
    have hownn := (Hown.out.setCell (a := ⟨w.heap.size + 1, 5, none⟩) (by simp) _).below hb9
    clear hb9 hSt Hown
    have Hown : Hid (OwnInts w9 (w.heap.size + 2) _ _) := hownn
    clear hownn
    have hSt := hStn
    obtain ⟨bel, siz, r0, r1, r2, r3, r4, r5, r6, r7, r8, r9, r10, y0, y1, y2, y3, y4, y5, y6, y7, y8, y9, y10, fr, fy⟩ := hStn
    go_wp2
    simp only [Exit.jump]
    obtain ⟨q1, q2⟩ := told_fin (bel.setCell (p := ⟨w.heap.size + 1, 9, none⟩) (by simp) _) (Hown.out.setCell (a := ⟨w.heap.size + 1, 9, none⟩) (by simp) _)
    refine bodyPost_ret (v := .tuple #[.agg #[.bool (decide (128 ≤ (B1 s).toNat)), .int .i64 ((B1 s).toNat % 128), .int .i64 (num ((s.data.toList.drop 2).take 2)), .int .i64 (num ((s.data.toList.drop 4).take 4)), .int .i64 (num ((s.data.toList.drop 8).take 4)), .slice ao cl.length cap, .bool false, .int .i64 0, .string ⟨#[]⟩, .string (s.extract A s.size), .int .i64 0], .int .i64 0]) (by simp [results, Try.results47, go_sem, r0, r1, r2, r3, r4, r5, r6, r7, r8, r9, r10]) rfl ⟨?_, ?_⟩
    · exact q1
    · rw [HR.out]
      refine ⟨.slice ao cl.length cap, ?_, ?_⟩
      · simp [okV, mkP, hxd]
      · have e : (mkP s (0, ⟨#[]⟩, A) (0, s.size)).cl = cl := by rw [← Hcl.out, HA.out]; rfl
        rw [e]
        exact q2.mono (by omega)

end Go.Proofs.Ytdjhhnolcafkiaa
