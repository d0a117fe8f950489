/- A packet is read: all ways. -/
import Derived.Test.YtdjhhnolcafkiaaReadExt
namespace Go.Proofs.Ytdjhhnolcafkiaa
open Go.RowKit Pk

set_option maxHeartbeats 8000000 in
theorem read_at (s : ByteArray) (w : World) (hs : 12 ≤ s.size) (hs2 : s.size ≤ 1500) (hm : (B0 s).toNat / 64 = 2) (hat : s.size < at0 s) :
    Calls Try.prog 47 #[.string s] w fun e w' => Below w.heap.size w w' ∧ ReadAs (readP s) w.heap.size e w' := by
  have hi : (12 : Int) ≤ s.size := by omega
  have hi2 : (s.size : Int) ≤ 1500 := by omega
  have i0 : (0 : Int) < s.size := by omega
  have hbad : bad1 s = false := by unfold bad1; exact decide_eq_false (by omega)
  have HR : Hid (readP s = none) := readP_at s hbad hat
  clear hbad
  have j0 : ∀ W : World, (Instr.index 9 (.string s) (.int .i64 0)).run Try.prog W = .ok (.int .u8 ((B0 s).toNat : Int)) W := fun W => by
    rw [run_index_string W 9 s .i64 0 Try.underlying9, dif_pos ⟨by omega, i0⟩, ← get0 s (by omega)]; rfl
  have hb := (B0 s).toNat_lt
  have hne : (((B0 s).toNat : Int) / 64 != 2) = false := by rw [bne_eq_false_iff_eq]; omega
  have e15 : IntKind.i64.wrap (bits .and .u8 ((B0 s).toNat : Int) 15) = ((B0 s).toNat : Int) % 16 := by rw [low4]; exact (wrapI64 _ (by omega) (by omega)).trans (by omega)
  obtain ⟨A, hA⟩ : ∃ A, A = at0 s := ⟨_, rfl⟩
  have HA : Hid (A = at0 s) := hA
  have hA1 : (12 + 4 * (((B0 s).toNat : Int) % 16)) = (A : Int) := by rw [hA]; unfold at0; omega
  have hA2 : (s.size : Int) < A := by rw [hA]; omega
  have hA3 : 12 ≤ A := by rw [hA]; unfold at0; omega
  clear hm hat hA
  go_enter Try.func47, Try.ntmps47
  go_wp2
  refine wp_scope_fwd 0 rfl ?_
  go_wp2_with fail
  refine (readHead_any s _ hs hs2).mono ?_
  rintro e w1 ⟨rfl, hb1⟩
  rw [get0 s (by omega), get1 s (by omega)]
  have hSt0 := St.init w 33
  have hSt1 := hSt0.below hb1
  have hSt := hSt1
  obtain ⟨bel, siz, r0, r1, r2, r3, r4, r5, r6, r7, r8, r9, r10, y0, y1, y2, y3, y4, y5, y6, y7, y8, y9, y10, fr, fy⟩ := hSt1
  clear hb1 hSt0
  go_wp2
  go_step3
  refine jump_here 0 ?_
  go_wp2
  rw [Exit.noGoto_ret]
  refine bodyPost_ret (v := wrongV) (by simp [results, Try.results47, wrongV, go_sem, r0, r1, r2, r3, r4, r5, r6, r7, r8, r9, r10]) rfl ⟨?_, ?_⟩
  · exact below_fin (((((((((((bel.setCell (p := ⟨w.heap.size + 1, 0, none⟩) (by simp) _).setCell (p := ⟨w.heap.size + 1, 1, none⟩) (by simp) _).setCell (p := ⟨w.heap.size + 1, 2, none⟩) (by simp) _).setCell (p := ⟨w.heap.size + 1, 3, none⟩) (by simp) _).setCell (p := ⟨w.heap.size + 1, 4, none⟩) (by simp) _).setCell (p := ⟨w.heap.size + 1, 5, none⟩) (by simp) _).setCell (p := ⟨w.heap.size + 1, 6, none⟩) (by simp) _).setCell (p := ⟨w.heap.size + 1, 7, none⟩) (by simp) _).setCell (p := ⟨w.heap.size + 1, 8, none⟩) (by simp) _).setCell (p := ⟨w.heap.size + 1, 9, none⟩) (by simp) _).setCell (p := ⟨w.heap.size + 1, 10, none⟩) (by simp) _)
  · rw [HR.out]
    rfl

theorem readPacket_any (s : ByteArray) (w : World) (hs : s.size ≤ maxLen) :
    Calls Try.prog 47 #[.string s] w fun e w' => Below w.heap.size w w' ∧ ReadAs (readP s) w.heap.size e w' := by
  by_cases h1 : s.size < 12
  · exact read_short s w h1
  · by_cases h2 : 1500 < s.size
    · exact read_long s w h2 hs
    · by_cases h3 : (B0 s).toNat / 64 = 2
      · by_cases h4 : s.size < at0 s
        · exact read_at s w (by omega) (by omega) h3 h4
        · by_cases h5 : (B0 s).toNat / 16 % 2 = 1
          · exact read_ext s w (by omega) (by omega) h3 (by omega) h5
          · exact read_plain s w (by omega) (by omega) h3 (by omega) h5
      · exact read_mark s w (by omega) (by omega) h3

theorem own_fin {w W : World} {b : Nat} {v : Value} {l : List Int} {c0 c1 c2 c3 c4 c5 c6 c7 c8 c9 c10 : Value} (hb : w.heap.size < b) (ho : OwnInts W b v l) :
    OwnInts (((((((((((W.setCell ⟨w.heap.size, 0, none⟩ c0).setCell ⟨w.heap.size, 1, none⟩ c1).setCell ⟨w.heap.size, 2, none⟩ c2).setCell ⟨w.heap.size, 3, none⟩ c3).setCell ⟨w.heap.size, 4, none⟩ c4).setCell ⟨w.heap.size, 5, none⟩ c5).setCell ⟨w.heap.size, 6, none⟩ c6).setCell ⟨w.heap.size, 7, none⟩ c7).setCell ⟨w.heap.size, 8, none⟩ c8).setCell ⟨w.heap.size, 9, none⟩ c9).setCell ⟨w.heap.size, 10, none⟩ c10) b v l := (((((((((((ho.setCell (a := ⟨w.heap.size, 0, none⟩) (by simpa using hb) _).setCell (a := ⟨w.heap.size, 1, none⟩) (by simpa using hb) _).setCell (a := ⟨w.heap.size, 2, none⟩) (by simpa using hb) _).setCell (a := ⟨w.heap.size, 3, none⟩) (by simpa using hb) _).setCell (a := ⟨w.heap.size, 4, none⟩) (by simpa using hb) _).setCell (a := ⟨w.heap.size, 5, none⟩) (by simpa using hb) _).setCell (a := ⟨w.heap.size, 6, none⟩) (by simpa using hb) _).setCell (a := ⟨w.heap.size, 7, none⟩) (by simpa using hb) _).setCell (a := ⟨w.heap.size, 8, none⟩) (by simpa using hb) _).setCell (a := ⟨w.heap.size, 9, none⟩) (by simpa using hb) _).setCell (a := ⟨w.heap.size, 10, none⟩) (by simpa using hb) _)

set_option maxHeartbeats 2000000 in
theorem parsePacket_any (s : ByteArray) (w : World) (hs : s.size ≤ maxLen) :
    Calls Try.prog 18 #[.string s] w fun e w' => Below w.heap.size w w' ∧ ReadAs (readP s) w.heap.size e w' := by
  have HR : ∀ r, Hid (readP s = r) → readP s = r := fun _ h => h
  cases hR : readP s with
  | none =>
    go_enter Try.func18, Try.ntmps18
    go_wp2_with fail
    refine (readPacket_any s _ hs).mono ?_
    rintro e w1 ⟨hb1, hr⟩
    rw [hR] at hr
    obtain ⟨hc, hf⟩ := kept_below hb1 w.heap.size (by simp)
    have hb : Below w.heap.size w w1 := ((Below.refl _ _).alloc (Nat.le_refl _) _).trans (hb1.mono (by simp))
    have he : e = .returned wrongV := hr
    unfold wrongV at he
    subst he
    clear hr hR hb1 HR
    go_wp2
    refine bodyPost_ret (v := wrongV) (by simp [results, Try.results18, wrongV, go_sem, hc]) rfl ⟨below_fin hb, rfl⟩
  | some x =>
    go_enter Try.func18, Try.ntmps18
    go_wp2_with fail
    refine (readPacket_any s _ hs).mono ?_
    rintro e w1 ⟨hb1, hr⟩
    rw [hR] at hr
    obtain ⟨hc, hf⟩ := kept_below hb1 w.heap.size (by simp)
    have hb : Below w.heap.size w w1 := ((Below.refl _ _).alloc (Nat.le_refl _) _).trans (hb1.mono (by simp))
    obtain ⟨v, he, hown0⟩ := hr
    have hown := hown0.mono (base' := w.heap.size + 1) (by simp)
    obtain ⟨ao, cap, hv⟩ := hown.shape
    subst hv
    unfold okV at he
    subst he
    clear hR hb1 HR hown0
    have Hown : Hid (OwnInts w1 (w.heap.size + 1) _ _) := hown
    clear hown
    obtain ⟨mrk, ex, ty, nu, ti, so, pr, pa, cl, en, py⟩ := x
    go_wp2
    refine bodyPost_ret (v := okV ⟨mrk, ex, ty, nu, ti, so, pr, pa, cl, en, py⟩ (.slice ao cl.length cap)) (by simp [results, Try.results18, okV, go_sem, hc]) rfl ⟨below_fin hb, ⟨_, rfl, ?_⟩⟩
    exact (own_fin (by omega) Hown.out).mono (by omega)

end Go.Proofs.Ytdjhhnolcafkiaa
