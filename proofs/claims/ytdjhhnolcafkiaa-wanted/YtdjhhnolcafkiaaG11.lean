/- askForMissing. -/
import Derived.Test.YtdjhhnolcafkiaaG10
import Derived.Test.YtdjhhnolcafkiaaG09
import Derived.Test.YtdjhhnolcafkiaaG03
namespace Go.Proofs.Ytdjhhnolcafkiaa
open Go.RowKit
namespace Pk
/-- one sender is asked -/
def askStep (a : Md × List ByteArray) (i : Nat) : Md × List ByteArray :=
  match a.1.sds[i]? with
  | none => a
  | some s => ({ a.1 with sds := a.1.sds.set i (askS s a.1.s.now a.1.c.retry a.1.c.tries), s := { a.1.s with asked := a.1.s.asked + (askedS s a.1.s.now a.1.c.retry a.1.c.tries).length, givenUp := a.1.s.givenUp + ((s.gaps.length : Int) - (keptG a.1.s.now a.1.c.retry a.1.c.tries s.gaps).length) } }, a.2 ++ if (askedS s a.1.s.now a.1.c.retry a.1.c.tries).length = 0 then [] else [(askR 0 s.src (askedS s a.1.s.now a.1.c.retry a.1.c.tries)).1])
def askAll (M : Md) (k : Nat) : Md × List ByteArray := (List.range k).foldl askStep (M, [])
theorem askAll_succ (M : Md) (k : Nat) : askAll M (k + 1) = askStep (askAll M k) k := by
  unfold askAll
  rw [List.range_succ, List.foldl_append]
  rfl
theorem kept_le (now retry tries : Int) (l : List Gp) : (keptG now retry tries l).length ≤ l.length := List.length_filter_le _ _
theorem asked_le (s : Sd) (now retry tries : Int) : (askedS s now retry tries).length ≤ s.gaps.length := by
  unfold askedS names
  rw [List.length_map]
  exact Nat.le_trans (List.length_filter_le _ _) (kept_le now retry tries s.gaps)
structure AOk (M : Md) (k : Nat) (a : Md × List ByteArray) : Prop where
  c : a.1.c = M.c
  now : a.1.s.now = M.s.now
  sl : a.1.sds.length = M.sds.length
  rest : ∀ j, k ≤ j → a.1.sds[j]? = M.sds[j]?
  ask : M.s.asked ≤ a.1.s.asked ∧ a.1.s.asked ≤ M.s.asked + 100000 * (k : Int)
  gu : M.s.givenUp ≤ a.1.s.givenUp ∧ a.1.s.givenUp ≤ M.s.givenUp + 100000 * (k : Int)
  len : a.2.length ≤ k
theorem AOk.zero (M : Md) : AOk M 0 (M, []) := ⟨rfl, rfl, rfl, fun _ _ => rfl, by simp, by simp, by simp⟩
theorem AOk.step {M : Md} {k : Nat} {a : Md × List ByteArray} (h : AOk M k a) (hl : ∀ s ∈ M.sds, s.gaps.length ≤ 99000) : AOk M (k + 1) (askStep a k) := by
  obtain ⟨A, L⟩ := a
  obtain ⟨h1, h2, h3, h4, h5, h6, h7⟩ := h
  simp only at h1 h2 h3 h4 h5 h6 h7
  unfold askStep
  simp only
  cases hs : A.sds[k]? with
  | none => exact ⟨h1, h2, h3, fun j hj => h4 j (by omega), by simp only; omega, by simp only; omega, by simp only; omega⟩
  | some s =>
    have hm : s ∈ M.sds := List.mem_of_getElem? ((h4 k (Nat.le_refl _)).symm.trans hs)
    have hg := hl s hm
    have a1 := asked_le s A.s.now A.c.retry A.c.tries
    have a2 := kept_le A.s.now A.c.retry A.c.tries s.gaps
    refine ⟨h1, h2, by simp [h3], fun j hj => ?_, by simp only; omega, by simp only; omega, ?_⟩
    · simp only
      rw [List.getElem?_set_ne (by omega)]
      exact h4 j (by omega)
    · simp only [List.length_append]
      split
      · simp; omega
      · simp; omega
theorem AOk.all {M : Md} (hl : ∀ s ∈ M.sds, s.gaps.length ≤ 99000) : ∀ k, AOk M k (askAll M k)
  | 0 => AOk.zero M
  | k + 1 => by rw [askAll_succ]; exact (AOk.all hl k).step hl
/-- how things stand while senders are asked -/
structure TickRel (w : World) (ρ : Nat → Nat) (mb : Nat) (sv wv : Value) (WB : List (Nat × Value)) (a : Md × List ByteArray) (ov : Value) (W : World) (ρ' : Nat → Nat) (SB : List (Nat × Value)) : Prop where
  md : MdAt W ρ' mb a.1 sv wv SB WB
  row : W.ownsRow w.heap.size 9 1 ov a.2.length (a.2.map Value.string)
  r0 : ∀ b, ov.ownBlock = some b → ρ' b = 0
  mv : Mv w ρ W ρ'
section
variable {w : World} {ρ : Nat → Nat} {mb : Nat} {sv wv : Value} {WB SB : List (Nat × Value)} {a : Md × List ByteArray} {ov : Value} {W : World} {ρ' : Nat → Nat}
theorem TickRel.chgd {W' : World} {M' : Md} (h : TickRel w ρ mb sv wv WB a ov W ρ' SB) (hm : MdAt W' ρ' mb M' sv wv SB WB) (hc : Chg (fun b => ρ' b ≠ 0) W W') : TickRel w ρ mb sv wv WB (M', a.2) ov W' ρ' SB :=
  ⟨hm, rowA_chg hc h.row (fun b hb e => e (h.r0 b hb)), h.r0, h.mv.trans ⟨fun _ _ e => e, hc⟩⟩
theorem TickRel.below {W' : World} (h : TickRel w ρ mb sv wv WB a ov W ρ' SB) (hb : Below W.heap.size W W') : TickRel w ρ mb sv wv WB a ov W' ρ' SB := h.chgd (h.md.below hb) (Chg.ofBelow hb)
theorem TickRel.snd {W' : World} {i : Nat} {p : Nat × Value} {v' : Value} {s s' : Sd} (h : TickRel w ρ mb sv wv WB a ov W ρ' SB) (h1 : SB[i]? = some p) (h2 : a.1.sds[i]? = some s) (hS : SdAt W' (p.1 + 1) p.1 v' s') (hU : SdUp W W' p.1 p.2 v') :
    TickRel w ρ mb sv wv WB ({ a.1 with sds := a.1.sds.set i s' }, a.2) ov W' (fun b => if v'.ownBlock = some b then 11 + 2 * i else ρ' b) (SB.set i (p.1, v')) := by
  obtain ⟨m, z, c⟩ := h.md.snd h1 h2 hS hU
  refine ⟨m, rowA_chg c h.row (fun b hb e => e (h.r0 b hb)), fun b hb => z b (h.row.lt b hb).2 (h.r0 b hb), h.mv.trans ⟨z, c⟩⟩
theorem TickRel.app {W3 : World} {ob : Obj} {ov' : Value} {t : ByteArray} (h : TickRel w ρ mb sv wv WB a ov W ρ' SB) (hg : (W.alloc ob).grownBy W3 ov.ownBlock) (hrow : W3.ownsRow w.heap.size 9 1 ov' (a.2.length + 1) (a.2.map Value.string ++ [.string t])) (hob : ov'.ownBlock = ov.ownBlock ∨ ov'.ownBlock = some (W.alloc ob).heap.size) : TickRel w ρ mb sv wv WB (a.1, a.2 ++ [t]) ov' W3 ρ' SB := by
  have h1 := h.below ((Below.refl _ _).alloc (Nat.le_refl _) ob)
  refine ⟨h1.md.chg (Chg.ofGrown hg) h.r0, ?_, fun b hb => ?_, ⟨h1.mv.1, h1.mv.2.trans (Chg.ofGrown hg) (fun b hb e => by have := (h.row.lt b e).1; omega)⟩⟩
  · simp only [List.length_append, List.length_singleton, List.map_append, List.map_cons, List.map_nil]
    exact hrow
  · rcases hob with e | e
    · exact h.r0 b (by rw [← e]; exact hb)
    · rw [e] at hb
      injection hb with hb
      refine h.md.hi b ?_
      rw [← hb, World.size_alloc]
      omega
end
def AfS (mb : Nat) (now retry tries : Int) (W : World) : Prop := W.cell? ⟨mb, 7, none⟩ = some (.int .i64 now) ∧ W.cell? ⟨mb, 5, none⟩ = some (.int .i64 retry) ∧ W.cell? ⟨mb, 6, none⟩ = some (.int .i64 tries)
theorem AfS.chg {T : Nat → Prop} {W W' : World} {mb : Nat} {now retry tries : Int} (h : AfS mb now retry tries W) (hc : Chg T W W') (hn : ¬ T mb) : AfS mb now retry tries W' := ⟨hc.cell h.1 hn, hc.cell h.2.1 hn, hc.cell h.2.2 hn⟩
def SndOk (s : Sd) : Prop := In16G s.gaps ∧ (∀ g ∈ s.gaps, GOk1 g) ∧ s.gaps.length ≤ 99000
end Pk
open Pk

set_option maxHeartbeats 400000 in
theorem sourceG_any (sb : Nat) (src : Int) (w : World) (h : w.cell? ⟨sb, 0, none⟩ = some (.int .i64 src)) :
    Calls Try.prog 116 #[.pointer (some ⟨sb, 0, none⟩)] w fun e w' => e = .returned (.int .i64 src) ∧ w' = w := by
  go_enter Try.func116, Try.ntmps116
  go_wp2
  go_ret
  exact ⟨rfl, rfl⟩

set_option maxRecDepth 20000 in
set_option maxHeartbeats 8000000 in
theorem askForMissing_any (ρ : Nat → Nat) (mb : Nat) (M : Md) (sv wv : Value) (SB WB : List (Nat × Value)) (w : World) (h : MdAt w ρ mb M sv wv SB WB) (hsn : ∀ s ∈ M.sds, SndOk s) (hnow : 0 ≤ M.s.now ∧ M.s.now ≤ 1000000000000000) (hcn : (0 ≤ M.s.asked ∧ M.s.asked ≤ 1000000000000000) ∧ 0 ≤ M.s.givenUp ∧ M.s.givenUp ≤ 1000000000000000) :
    Calls Try.prog 97 #[.pointer (some ⟨mb, 0, none⟩)] w fun e w' => ∃ ov ρ' SB', e = .returned ov ∧ TickRel w ρ mb sv wv WB (askAll M M.sds.length) ov w' ρ' SB' := by
  obtain ⟨ao, cap, rfl⟩ := rowA_shape h.sr
  have HR0 : Hid (TickRel w ρ mb (.slice ao SB.length cap) wv WB (askAll M 0) (.slice none 0 0) w ρ SB) := ⟨h, World.ownsRow_nil _ _ _ _, (fun b hb => by cases hb), Mv.refl _ _⟩
  have Hsn : Hid (∀ s ∈ M.sds, SndOk s) := hsn
  have Hl : Hid (∀ s ∈ M.sds, s.gaps.length ≤ 99000) := fun s hs => (hsn s hs).2.2
  have hs4 := h.s4
  have Hsl : Hid (SB.length = M.sds.length) := h.sl
  have hSB4 : SB.length ≤ 4 := by have := h.sl; omega
  have y18 : w.cell? ⟨mb, 18, none⟩ = some (.slice ao SB.length cap) := h.k 18 _ rfl
  obtain ⟨i0, hi0, hz0, hz1, hz2⟩ := info_parts infoT
  have Hi : Hid (Try.prog.info? 9 = some i0 ∧ i0.zero = some (.string ⟨#[]⟩) ∧ i0.size = 1 ∧ i0.bytes = 16) := ⟨hi0, hz0, hz1, hz2⟩
  clear h hsn hi0 hz0 hz1 hz2
  go_enter Try.func97, Try.ntmps97
  go_wp2
  clear y18
  go_loopw [3, 15] (fun s3 s15 wr => ∃ (k : Nat) (ρ' : Nat → Nat) (SB' : List (Nat × Value)), k ≤ SB.length ∧ s15 = .int .i64 k ∧ TickRel w ρ mb (.slice ao SB.length cap) wv WB (askAll M k) s3 wr ρ' SB') (fun _ s15 _ => SB.length - (intOf s15).toNat)
  case atStart => exact ⟨0, ρ, SB, Nat.zero_le _, rfl, HR0.out⟩
  case round =>
    obtain ⟨k, ρ', SB', hk, rfl, hR⟩ := hrel
    obtain ⟨ov, oc, rfl⟩ := rowA_shape hR.row
    have hA := AOk.all Hl.out k
    have HSu : Hid (askAll M (k + 1) = askStep (askAll M k) k) := askAll_succ M k
    by_cases hlt : k < SB.length
    · have hlt' : (k : Int) < SB.length := by omega
      have hks : k < M.sds.length := by have := Hsl.out; omega
      have hsk : (askAll M k).1.sds[k]? = some M.sds[k] := (hA.rest k (Nat.le_refl _)).trans (List.getElem?_eq_getElem hks)
      obtain ⟨s, hs⟩ : ∃ s, M.sds[k] = s := ⟨_, rfl⟩
      have HOs : Hid (SndOk s) := hs ▸ Hsn.out _ (List.getElem_mem hks)
      rw [hs] at hsk
      have hn1 : (askAll M k).1.s.now = M.s.now := hA.now
      have hca : 0 ≤ (askAll M k).1.s.asked ∧ (askAll M k).1.s.asked ≤ 1000000000400000 := by have := hA.ask; omega
      have hcg : 0 ≤ (askAll M k).1.s.givenUp ∧ (askAll M k).1.s.givenUp ≤ 1000000000400000 := by have := hA.gu; omega
      have hlen : (askAll M k).2.length ≤ k := hA.len
      generalize askAll M k = A at *
      obtain ⟨M2, L2⟩ := A
      simp only at hsk hn1 hca hcg hlen
      have hnw : 0 ≤ M2.s.now ∧ M2.s.now ≤ 1000000000000000 := by omega
      have hsl' : SB'.length = SB.length := by rw [hR.md.sl, hA.sl, Hsl.out]
      have hsr := hR.md.sr
      rw [hsl'] at hsr
      obtain ⟨g, rfl⟩ := rowA_some hsr (by omega)
      have hp : SB'[k]? = some (SB'[k]'(by omega)) := List.getElem?_eq_getElem (by omega)
      obtain ⟨p, hpe⟩ : ∃ p, SB'[k]'(by omega) = p := ⟨_, rfl⟩
      rw [hpe] at hp
      have d0 : wr.cell? ⟨g, k, none⟩ = some (ptr p.1) := by
        have h := hsr.cellAt k (by omega)
        rw [h, List.getElem?_map, hp]
        rfl
      obtain ⟨hSd, hr1, hr2⟩ := hR.md.sa k p s hp hsk
      have HR : Hid (TickRel w ρ mb (.slice (some ⟨g, 0, none⟩) SB.length cap) wv WB (M2, L2) (.slice ov L2.length oc) wr ρ' SB') := hR
      have HRd : Hid (TickRel w ρ mb (.slice (some ⟨g, 0, none⟩) SB.length cap) wv WB (M2, L2) (.slice ov L2.length oc) wr.drew ρ' SB') := hR.below (Below.refl _ _).drew
      have HSd : Hid (SdAt wr.drew (p.1 + 1) p.1 p.2 s) := hSd.below (Below.refl _ _).drew
      have HS : Hid (AfS mb M2.s.now M2.c.retry M2.c.tries wr) := ⟨hR.md.k 7 _ rfl, hR.md.k 5 _ rfl, hR.md.k 6 _ rfl⟩
      have HUm : Hid (∀ b, (b = p.1 ∨ p.2.ownBlock = some b) → b ≠ mb) := fun b hb e => by
        have := hR.md.rm
        rcases hb with e' | e'
        · rw [← e', e] at hr1; omega
        · have := hr2 b e'; rw [e] at this; omega
      have Hp : Hid (SB'[k]? = some p) := hp
      have Hsk : Hid (M2.sds[k]? = some s) := hsk
      have HAs : Hid (askStep (M2, L2) k = ({ M2 with sds := M2.sds.set k (askS s M2.s.now M2.c.retry M2.c.tries), s := { M2.s with asked := M2.s.asked + (askedS s M2.s.now M2.c.retry M2.c.tries).length, givenUp := M2.s.givenUp + ((s.gaps.length : Int) - (keptG M2.s.now M2.c.retry M2.c.tries s.gaps).length) } }, L2 ++ if (askedS s M2.s.now M2.c.retry M2.c.tries).length = 0 then [] else [(askR 0 s.src (askedS s M2.s.now M2.c.retry M2.c.tries)).1])) := by
        show _ = _
        unfold askStep
        simp only [hsk]
      have hask := asked_le s M2.s.now M2.c.retry M2.c.tries
      have hkep := kept_le M2.s.now M2.c.retry M2.c.tries s.gaps
      have hgl : s.gaps.length ≤ 99000 := HOs.out.2.2
      unfold ptr at d0
      clear hA hs hsk hsr hpe hp hR hSd hr1 hr2 hn1 hsl' hks
      go_wp2
      refine wp_region_noPanic ?_
      refine wp_region_held_drew (S := AfS mb M2.s.now M2.c.retry M2.c.tries) (by kernel_rfl) HS.out (fun hHeld => ?_)
      refine wpAnyH_take (i := 0) (v := ?vt1) rfl (by kernel_rfl) (by kernel_rfl) (by kernel_rfl) (fun _ _ _ h => h) (Or.inl ⟨by rfl, ?yt1⟩) hHeld ?rt1
      case yt1 => ((intro W hSw; obtain ⟨hS0, hS1, hS2⟩ := hSw; go_simp) <;> with_reducible rfl)
      try simp only [Act.put]
      try simp only [List.getElem_toArray]
      try simp only [List.getElem_cons_succ]
      try simp only [List.getElem_cons_zero]
      try simp only [List.setIfInBounds_toArray]
      try simp only [List.set_cons_succ]
      try simp only [List.set_cons_zero]
      refine wpAnyH_take (i := 1) (v := ?vt2) rfl (by kernel_rfl) (by kernel_rfl) (by kernel_rfl) (fun _ _ _ h => h) (Or.inl ⟨by rfl, ?yt2⟩) hHeld ?rt2
      case yt2 => ((intro W hSw; obtain ⟨hS0, hS1, hS2⟩ := hSw; go_simp) <;> with_reducible rfl)
      try simp only [Act.put]
      try simp only [List.getElem_toArray]
      try simp only [List.getElem_cons_succ]
      try simp only [List.getElem_cons_zero]
      try simp only [List.setIfInBounds_toArray]
      try simp only [List.set_cons_succ]
      try simp only [List.set_cons_zero]
      refine wpAnyH_take (i := 2) (v := ?vt3) rfl (by kernel_rfl) (by kernel_rfl) (by kernel_rfl) (fun _ _ _ h => h) (Or.inl ⟨by rfl, ?yt3⟩) hHeld ?rt3
      case yt3 => ((intro W hSw; obtain ⟨hS0, hS1, hS2⟩ := hSw; go_simp) <;> with_reducible rfl)
      try simp only [Act.put]
      try simp only [List.getElem_toArray]
      try simp only [List.getElem_cons_succ]
      try simp only [List.getElem_cons_zero]
      try simp only [List.setIfInBounds_toArray]
      try simp only [List.set_cons_succ]
      try simp only [List.set_cons_zero]
      refine wpAnyH_take (i := 3) (v := ?vt4) rfl (by kernel_rfl) (by kernel_rfl) (by kernel_rfl) (fun _ _ _ h => h) (Or.inl ⟨by rfl, ?yt4⟩) hHeld ?rt4
      case yt4 => ((intro W hSw; obtain ⟨hS0, hS1, hS2⟩ := hSw; go_simp) <;> with_reducible rfl)
      try simp only [Act.put]
      try simp only [List.getElem_toArray]
      try simp only [List.getElem_cons_succ]
      try simp only [List.getElem_cons_zero]
      try simp only [List.setIfInBounds_toArray]
      try simp only [List.set_cons_succ]
      try simp only [List.set_cons_zero]
      refine wpAnyH_take (i := 4) (v := ?vt5) rfl (by kernel_rfl) (by kernel_rfl) (by kernel_rfl) (fun _ _ _ h => h) (Or.inl ⟨by rfl, ?yt5⟩) hHeld ?rt5
      case yt5 => ((intro W hSw; obtain ⟨hS0, hS1, hS2⟩ := hSw; go_simp) <;> with_reducible rfl)
      try simp only [Act.put]
      try simp only [List.getElem_toArray]
      try simp only [List.getElem_cons_succ]
      try simp only [List.getElem_cons_zero]
      try simp only [List.setIfInBounds_toArray]
      try simp only [List.set_cons_succ]
      try simp only [List.set_cons_zero]
      refine wpAnyH_take (i := 5) (v := ?vt6) rfl (by kernel_rfl) (by kernel_rfl) (by kernel_rfl) (fun _ _ _ h => h) (Or.inl ⟨by rfl, ?yt6⟩) hHeld ?rt6
      case yt6 => ((intro W hSw; obtain ⟨hS0, hS1, hS2⟩ := hSw; go_simp) <;> with_reducible rfl)
      try simp only [Act.put]
      try simp only [List.getElem_toArray]
      try simp only [List.getElem_cons_succ]
      try simp only [List.getElem_cons_zero]
      try simp only [List.setIfInBounds_toArray]
      try simp only [List.set_cons_succ]
      try simp only [List.set_cons_zero]
      refine wpAnyH_take (i := 6) (v := ?vt7) rfl (by kernel_rfl) (by kernel_rfl) (by kernel_rfl) (fun _ _ _ h => h) (Or.inl ⟨by rfl, ?yt7⟩) hHeld ?rt7
      case yt7 => ((intro W hSw; obtain ⟨hS0, hS1, hS2⟩ := hSw; go_simp) <;> with_reducible rfl)
      try simp only [Act.put]
      try simp only [List.getElem_toArray]
      try simp only [List.getElem_cons_succ]
      try simp only [List.getElem_cons_zero]
      try simp only [List.setIfInBounds_toArray]
      try simp only [List.set_cons_succ]
      try simp only [List.set_cons_zero]
      refine wpAnyH_take (i := 7) (v := ?vt8) rfl (by kernel_rfl) (by kernel_rfl) (by kernel_rfl) (fun _ _ _ h => h) (Or.inl ⟨by rfl, ?yt8⟩) hHeld ?rt8
      case yt8 => ((intro W hSw; obtain ⟨hS0, hS1, hS2⟩ := hSw; go_simp) <;> with_reducible rfl)
      try simp only [Act.put]
      try simp only [List.getElem_toArray]
      try simp only [List.getElem_cons_succ]
      try simp only [List.getElem_cons_zero]
      try simp only [List.setIfInBounds_toArray]
      try simp only [List.set_cons_succ]
      try simp only [List.set_cons_zero]
      refine wpAnyH_take (i := 8) (v := ?vt9) rfl (by kernel_rfl) (by kernel_rfl) (by kernel_rfl) (fun _ _ _ h => h) (Or.inl ⟨by rfl, ?yt9⟩) hHeld ?rt9
      case yt9 => ((intro W hSw; obtain ⟨hS0, hS1, hS2⟩ := hSw; go_simp) <;> with_reducible rfl)
      try simp only [Act.put]
      try simp only [List.getElem_toArray]
      try simp only [List.getElem_cons_succ]
      try simp only [List.getElem_cons_zero]
      try simp only [List.setIfInBounds_toArray]
      try simp only [List.set_cons_succ]
      try simp only [List.set_cons_zero]
      refine wpAnyH_take (i := 9) (v := ?vt10) rfl (by kernel_rfl) (by kernel_rfl) (by kernel_rfl) (fun _ _ _ h => h) (Or.inl ⟨by rfl, ?yt10⟩) hHeld ?rt10
      case yt10 => ((intro W hSw; obtain ⟨hS0, hS1, hS2⟩ := hSw; go_simp) <;> with_reducible rfl)
      try simp only [Act.put]
      try simp only [List.getElem_toArray]
      try simp only [List.getElem_cons_succ]
      try simp only [List.getElem_cons_zero]
      try simp only [List.setIfInBounds_toArray]
      try simp only [List.set_cons_succ]
      try simp only [List.set_cons_zero]
      refine wpAnyH_take (i := 10) (v := ?vt11) rfl (by kernel_rfl) (by kernel_rfl) (by kernel_rfl) (fun _ _ _ h => h) (Or.inl ⟨by rfl, ?yt11⟩) hHeld ?rt11
      case yt11 => ((intro W hSw; obtain ⟨hS0, hS1, hS2⟩ := hSw; go_simp) <;> with_reducible rfl)
      try simp only [Act.put]
      try simp only [List.getElem_toArray]
      try simp only [List.getElem_cons_succ]
      try simp only [List.getElem_cons_zero]
      try simp only [List.setIfInBounds_toArray]
      try simp only [List.set_cons_succ]
      try simp only [List.set_cons_zero]
      refine wpAnyH_take (i := 11) (v := ?vt12) rfl (by kernel_rfl) (by kernel_rfl) (by kernel_rfl) (fun _ _ _ h => h) (Or.inl ⟨by rfl, ?yt12⟩) hHeld ?rt12
      case yt12 => ((intro W hSw; obtain ⟨hS0, hS1, hS2⟩ := hSw; go_simp) <;> with_reducible rfl)
      try simp only [Act.put]
      try simp only [List.getElem_toArray]
      try simp only [List.getElem_cons_succ]
      try simp only [List.getElem_cons_zero]
      try simp only [List.setIfInBounds_toArray]
      try simp only [List.set_cons_succ]
      try simp only [List.set_cons_zero]
      refine wpAnyH_take (i := 12) (v := ?vt13) rfl (by kernel_rfl) (by kernel_rfl) (by kernel_rfl) (fun _ _ _ h => h) (Or.inl ⟨by rfl, ?yt13⟩) hHeld ?rt13
      case yt13 => ((intro W hSw; obtain ⟨hS0, hS1, hS2⟩ := hSw; go_simp) <;> with_reducible rfl)
      try simp only [Act.put]
      try simp only [List.getElem_toArray]
      try simp only [List.getElem_cons_succ]
      try simp only [List.getElem_cons_zero]
      try simp only [List.setIfInBounds_toArray]
      try simp only [List.set_cons_succ]
      try simp only [List.set_cons_zero]
      refine wpAnyH_take (i := 13) (v := ?vt14) rfl (by kernel_rfl) (by kernel_rfl) (by kernel_rfl) (fun _ _ _ h => h) (Or.inl ⟨by rfl, ?yt14⟩) hHeld ?rt14
      case yt14 => ((intro W hSw; obtain ⟨hS0, hS1, hS2⟩ := hSw; go_simp) <;> with_reducible rfl)
      try simp only [Act.put]
      try simp only [List.getElem_toArray]
      try simp only [List.getElem_cons_succ]
      try simp only [List.getElem_cons_zero]
      try simp only [List.setIfInBounds_toArray]
      try simp only [List.set_cons_succ]
      try simp only [List.set_cons_zero]
      refine wpAnyH_take (i := 14) (v := ?vt15) rfl (by kernel_rfl) (by kernel_rfl) (by kernel_rfl) (fun _ _ _ h => h) (Or.inl ⟨by rfl, ?yt15⟩) hHeld ?rt15
      case yt15 => ((intro W hSw; obtain ⟨hS0, hS1, hS2⟩ := hSw; go_simp) <;> with_reducible rfl)
      try simp only [Act.put]
      try simp only [List.getElem_toArray]
      try simp only [List.getElem_cons_succ]
      try simp only [List.getElem_cons_zero]
      try simp only [List.setIfInBounds_toArray]
      try simp only [List.set_cons_succ]
      try simp only [List.set_cons_zero]
      refine wpAnyH_take (i := 15) (v := ?vt16) rfl (by kernel_rfl) (by kernel_rfl) (by kernel_rfl) (fun _ _ _ h => h) (Or.inl ⟨by rfl, ?yt16⟩) hHeld ?rt16
      case yt16 => ((intro W hSw; obtain ⟨hS0, hS1, hS2⟩ := hSw; go_simp) <;> with_reducible rfl)
      try simp only [Act.put]
      try simp only [List.getElem_toArray]
      try simp only [List.getElem_cons_succ]
      try simp only [List.getElem_cons_zero]
      try simp only [List.setIfInBounds_toArray]
      try simp only [List.set_cons_succ]
      try simp only [List.set_cons_zero]
      refine wpAnyH_ready (rs := [16]) (by kernel_rfl) (by simp) ?_
      refine AllReadyH.cons rfl (fun K hK => ?_) AllReadyH.nil
      go_simp
      refine (ask_any (p.1 + 1) p.1 p.2 s M2.s.now M2.c.retry M2.c.tries _ HSd.out HOs.out.1 HOs.out.2.1 hnw hgl).mono ?_
      rintro e w2 ⟨v2, av, rfl, hS2, hU2, hO2⟩
      have hSS : AfS mb M2.s.now M2.c.retry M2.c.tries w2 := AfS.chg hHeld hU2.chg (fun e => HUm.out mb e rfl)
      obtain ⟨aa, ac, rfl⟩ := hO2.shape
      have HT2 : Hid (TickRel w ρ mb (.slice (some ⟨g, 0, none⟩) SB.length cap) wv WB ({ M2 with sds := M2.sds.set k (askS s M2.s.now M2.c.retry M2.c.tries) }, L2) (.slice ov L2.length oc) w2 (fun b => if v2.ownBlock = some b then 11 + 2 * k else ρ' b) (SB'.set k (p.1, v2))) := HRd.out.snd Hp.out Hsk.out hS2 hU2
      have HSp : Hid (w2.cell? ⟨p.1, 0, none⟩ = some (.int .i64 s.src)) := hS2.c0
      have HO2 : Hid (OwnInts w2 (wr.heap.size + 4) (.slice aa (askedS s M2.s.now M2.c.retry M2.c.tries).length ac) (askedS s M2.s.now M2.c.retry M2.c.tries)) := hO2
      have hmw : mb < wr.heap.size := HR.out.md.lt
      have hpw : p.1 < w2.heap.size := lt_of_cell HSp.out
      generalize hρ2 : (fun b => if v2.ownBlock = some b then 11 + 2 * k else ρ' b) = ρ2 at *
      generalize hAK : askedS s M2.s.now M2.c.retry M2.c.tries = AK at *
      generalize hKG : (keptG M2.s.now M2.c.retry M2.c.tries s.gaps).length = kg at *
      generalize hsa : askS s M2.s.now M2.c.retry M2.c.tries = sa at *
      obtain ⟨al, hal⟩ : ∃ al, AK.length = al := ⟨_, rfl⟩
      clear hS2 hU2 hO2 hρ2 hAK hKG hsa
      rw [hal] at HAs HO2 hask ⊢
      obtain ⟨m3, c3⟩ := HT2.out.md.put (M' := { M2 with sds := M2.sds.set k sa, s := { M2.s with asked := M2.s.asked + al } }) 16 (.int .i64 (M2.s.asked + al)) (by omega) rfl rfl rfl
      have R3 := HT2.out.chgd m3 c3.2
      obtain ⟨m4, c4⟩ := m3.put (M' := { M2 with sds := M2.sds.set k sa, s := { M2.s with asked := M2.s.asked + al, givenUp := M2.s.givenUp + ((s.gaps.length : Int) - kg) } }) 17 (.int .i64 (M2.s.givenUp + ((s.gaps.length : Int) - kg))) (by omega) rfl rfl rfl
      have HT4 : Hid (TickRel w ρ mb (.slice (some ⟨g, 0, none⟩) SB.length cap) wv WB ({ M2 with sds := M2.sds.set k sa, s := { M2.s with asked := M2.s.asked + al, givenUp := M2.s.givenUp + ((s.gaps.length : Int) - kg) } }, L2) (.slice ov L2.length oc) ((w2.setCell ⟨mb, 16, none⟩ (.int .i64 (M2.s.asked + al))).setCell ⟨mb, 17, none⟩ (.int .i64 (M2.s.givenUp + ((s.gaps.length : Int) - kg)))) ρ2 (SB'.set k (p.1, v2))) := R3.chgd m4 c4.2
      have hcm : Chg (fun b => b = mb) w2 ((w2.setCell ⟨mb, 16, none⟩ (.int .i64 (M2.s.asked + al))).setCell ⟨mb, 17, none⟩ (.int .i64 (M2.s.givenUp + ((s.gaps.length : Int) - kg)))) := ((Chg.refl (fun b => b = mb) _).setCell ⟨mb, 16, none⟩ (.inl rfl) _).setCell ⟨mb, 17, none⟩ (.inl rfl) _
      have e0 : ((w2.setCell ⟨mb, 16, none⟩ (.int .i64 (M2.s.asked + al))).setCell ⟨mb, 17, none⟩ (.int .i64 (M2.s.givenUp + ((s.gaps.length : Int) - kg)))).cell? ⟨p.1, 0, none⟩ = some (.int .i64 s.src) := hcm.cell HSp.out (HUm.out p.1 (.inl rfl))
      have HI4 : Hid (IsInts ((w2.setCell ⟨mb, 16, none⟩ (.int .i64 (M2.s.asked + al))).setCell ⟨mb, 17, none⟩ (.int .i64 (M2.s.givenUp + ((s.gaps.length : Int) - kg)))).heap.size ((w2.setCell ⟨mb, 16, none⟩ (.int .i64 (M2.s.asked + al))).setCell ⟨mb, 17, none⟩ (.int .i64 (M2.s.givenUp + ((s.gaps.length : Int) - kg)))) (.slice aa al ac) AK) := by
        have h1 : OwnInts ((w2.setCell ⟨mb, 16, none⟩ (.int .i64 (M2.s.asked + al))).setCell ⟨mb, 17, none⟩ (.int .i64 (M2.s.givenUp + ((s.gaps.length : Int) - kg)))) (wr.heap.size + 4) (.slice aa al ac) AK := by
          have h2 : w2.ownsRow _ _ _ _ _ _ := HO2.out
          exact rowA_chg hcm h2 (fun b hb e => by have := (h2.lt b hb).1; omega)
        exact h1.isInts
      have y16 : w2.cell? ⟨mb, 16, none⟩ = some (.int .i64 M2.s.asked) := HT2.out.md.k 16 _ rfl
      have y17 : w2.cell? ⟨mb, 17, none⟩ = some (.int .i64 M2.s.givenUp) := HT2.out.md.k 17 _ rfl
      have yf : ∀ o, w2.frozen? ⟨mb, o, none⟩ = false := HT2.out.md.fz
      have hw1 : IntKind.i64.wrap (M2.s.asked + (al : Int)) = M2.s.asked + al := wrapI64 _ (by omega) (by omega)
      have hw2 : IntKind.i64.wrap (M2.s.givenUp + ((s.gaps.length : Int) - (kg : Int))) = M2.s.givenUp + ((s.gaps.length : Int) - kg) := wrapI64 _ (by omega) (by omega)
      clear m3 c3 R3 m4 c4 hcm HT2 HO2 HSp
      go_simp
      refine hK.out _ _ hSS (fun hHeld => ?_)
      clear hK K
      try simp only [Act.put]
      try simp only [List.getElem_toArray]
      try simp only [List.getElem_cons_succ]
      try simp only [List.getElem_cons_zero]
      try simp only [List.setIfInBounds_toArray]
      try simp only [List.set_cons_succ]
      try simp only [List.set_cons_zero]
      refine wpAnyH_take (i := 17) (v := ?vt17) rfl (by kernel_rfl) (by kernel_rfl) (by kernel_rfl) (fun _ _ _ h => h) (Or.inl ⟨by rfl, ?yt17⟩) hHeld ?rt17
      case yt17 => ((intro W hSw; obtain ⟨hS0, hS1, hS2⟩ := hSw; go_simp) <;> with_reducible rfl)
      try simp only [Act.put]
      try simp only [List.getElem_toArray]
      try simp only [List.getElem_cons_succ]
      try simp only [List.getElem_cons_zero]
      try simp only [List.setIfInBounds_toArray]
      try simp only [List.set_cons_succ]
      try simp only [List.set_cons_zero]
      refine wpAnyH_take (i := 18) (v := ?vt18) rfl (by kernel_rfl) (by kernel_rfl) (by kernel_rfl) (fun _ _ _ h => h) (Or.inl ⟨by rfl, ?yt18⟩) hHeld ?rt18
      case yt18 => ((intro W hSw; obtain ⟨hS0, hS1, hS2⟩ := hSw; go_simp) <;> with_reducible rfl)
      try simp only [Act.put]
      try simp only [List.getElem_toArray]
      try simp only [List.getElem_cons_succ]
      try simp only [List.getElem_cons_zero]
      try simp only [List.setIfInBounds_toArray]
      try simp only [List.set_cons_succ]
      try simp only [List.set_cons_zero]
      refine wpAnyH_take (i := 19) (v := ?vt19) rfl (by kernel_rfl) (by kernel_rfl) (by kernel_rfl) (fun _ _ _ h => h) (Or.inl ⟨by rfl, ?yt19⟩) hHeld ?rt19
      case yt19 => ((intro W hSw; obtain ⟨hS0, hS1, hS2⟩ := hSw; go_simp) <;> with_reducible rfl)
      try simp only [Act.put]
      try simp only [List.getElem_toArray]
      try simp only [List.getElem_cons_succ]
      try simp only [List.getElem_cons_zero]
      try simp only [List.setIfInBounds_toArray]
      try simp only [List.set_cons_succ]
      try simp only [List.set_cons_zero]
      refine wpAnyH_take (i := 20) (v := ?vt20) rfl (by kernel_rfl) (by kernel_rfl) (by kernel_rfl) (fun _ _ _ h => h) (Or.inl ⟨by rfl, ?yt20⟩) hHeld ?rt20
      case yt20 => ((intro W hSw; obtain ⟨hS0, hS1, hS2⟩ := hSw; go_simp) <;> with_reducible rfl)
      try simp only [Act.put]
      try simp only [List.getElem_toArray]
      try simp only [List.getElem_cons_succ]
      try simp only [List.getElem_cons_zero]
      try simp only [List.setIfInBounds_toArray]
      try simp only [List.set_cons_succ]
      try simp only [List.set_cons_zero]
      refine wpAnyH_take (i := 21) (v := ?vt21) rfl (by kernel_rfl) (by kernel_rfl) (by kernel_rfl) (fun _ _ _ h => h) (Or.inl ⟨by rfl, ?yt21⟩) hHeld ?rt21
      case yt21 => ((intro W hSw; obtain ⟨hS0, hS1, hS2⟩ := hSw; go_simp) <;> with_reducible rfl)
      try simp only [Act.put]
      try simp only [List.getElem_toArray]
      try simp only [List.getElem_cons_succ]
      try simp only [List.getElem_cons_zero]
      try simp only [List.setIfInBounds_toArray]
      try simp only [List.set_cons_succ]
      try simp only [List.set_cons_zero]
      refine wpAnyH_done (by kernel_rfl) ?_ _
      refine NoPanic.normal ?_
      clear hHeld hSS HS
      by_cases hz : al = 0
      · have HT5 : Hid (TickRel w ρ mb (.slice (some ⟨g, 0, none⟩) SB.length cap) wv WB (askAll M (k + 1)) (.slice ov L2.length oc) ((w2.setCell ⟨mb, 16, none⟩ (.int .i64 (M2.s.asked + al))).setCell ⟨mb, 17, none⟩ (.int .i64 (M2.s.givenUp + ((s.gaps.length : Int) - kg)))) ρ2 (SB'.set k (p.1, v2))) := by
          show TickRel _ _ _ _ _ _ _ _ _ _ _
          rw [HSu.out, HAs.out, if_pos hz, List.append_nil]
          exact HT4.out
        subst hz
        rw [show M2.s.asked + ((0 : Nat) : Int) = M2.s.asked from Int.add_zero _] at HT5
        go_wp2
        go_roundw
        case rel => exact ⟨k + 1, ρ2, _, by omega, by go_num, HT5.out⟩
        case measure => simp [intOf]; omega
      · have hz' : (0 : Int) < al := by omega
        have HAs2 : Hid (askAll M (k + 1) = ({ M2 with sds := M2.sds.set k sa, s := { M2.s with asked := M2.s.asked + al, givenUp := M2.s.givenUp + ((s.gaps.length : Int) - kg) } }, L2 ++ [(askR 0 s.src AK).1])) := by
          show _ = _
          rw [HSu.out, HAs.out, if_neg hz]
        go_wp2_with fail
        refine (sourceG_any p.1 s.src _ e0).mono ?_
        rintro e w4 ⟨rfl, hw4⟩
        rw [hw4]
        clear hw4 w4
        go_wp2_with fail
        refine (writeAsking_any 0 s.src (.slice aa al ac) AK _ HI4.out (by omega)).mono ?_
        rintro e w5 ⟨rfl, hb5⟩
        have HT5 : Hid (TickRel w ρ mb (.slice (some ⟨g, 0, none⟩) SB.length cap) wv WB ({ M2 with sds := M2.sds.set k sa, s := { M2.s with asked := M2.s.asked + al, givenUp := M2.s.givenUp + ((s.gaps.length : Int) - kg) } }, L2) (.slice ov L2.length oc) w5 ρ2 (SB'.set k (p.1, v2))) := HT4.out.below hb5
        generalize (askR 0 s.src AK).1 = tx at *
        generalize (askR 0 s.src AK).2 = er at *
        have hsz : w.heap.size ≤ w5.heap.size := HT5.out.mv.2.size
        clear hb5 e0 HI4 HT4 y16 y17 yf
        go_wp2_with (at_builtin; (
          refine wpList_append_at rfl (.tmp 73) (.tmp 75) 22 rfl w.heap.size 9 i0 _ 1 16 Try.underlying22 Hi.out rfl (by decide) _ L2.length _ rfl (HT5.out.row.alloc _) _ 1 1 [.string tx] rfl rfl (cells_new _ [.string tx] _) ?_ (by unfold maxLen; omega) (by omega) (by simp; omega) ?_
          · intro u hu; simp at hu; subst hu; rfl
          intro v' w6 hown' hgrow hob
          refine stop_here ?_))
        refine hid_in ?_
        obtain ⟨a6, c6, rfl⟩ := rowA_shape hown'
        have HT6 : Hid (TickRel w ρ mb (.slice (some ⟨g, 0, none⟩) SB.length cap) wv WB (askAll M (k + 1)) (.slice a6 (L2.length + 1) c6) w6 ρ2 (SB'.set k (p.1, v2))) := by
          show TickRel _ _ _ _ _ _ _ _ _ _ _
          rw [HAs2.out]
          exact HT5.out.app hgrow hown' hob
        clear hown' hgrow hob HT5
        go_wp2
        go_roundw
        case rel => exact ⟨k + 1, ρ2, _, by omega, by go_num, HT6.out⟩
        case measure => simp [intOf]; omega
    · have hlt' : ¬ (k : Int) < SB.length := by omega
      have hke : k = M.sds.length := by have := Hsl.out; omega
      have HF : Hid (TickRel w ρ mb (.slice ao SB.length cap) wv WB (askAll M M.sds.length) (.slice ov (askAll M k).2.length oc) wr ρ' SB') := by
        show TickRel _ _ _ _ _ _ _ _ _ _ _
        rw [← hke]
        exact hR
      clear hR hA hke
      go_wp2
      go_ret
      first
        | exact ⟨_, ρ', SB', rfl, HF.out⟩
        | exact ⟨_, rfl, ρ', SB', HF.out⟩

end Go.Proofs.Ytdjhhnolcafkiaa

/- One sender whose numbers are within fifty of one another: what becomes of it, by distances alone. -/
namespace Go.Proofs.Ytdjhhnolcafkiaa
open Go.RowKit
namespace Pk
/-- what is missing, by its distance from the base -/
structure Og where
  k : Nat
  last : Int
  tries : Int
def og (base : Nat) (g : Og) : Gp := ⟨(base + g.k) % 65536, g.last, g.tries⟩
theorem rmF_cons {α : Type} (nf : α → Nat) (num : Nat) (a : α) (l : List α) : rmF nf num (a :: l) = if nf a = num then l else a :: rmF nf num l := by
  by_cases e : nf a = num
  · have hp : posF num ((a :: l).map nf) = 0 := by simp [posF, e]
    unfold rmF
    rw [hp, if_pos e]
    simp
  · rw [if_neg e]
    unfold rmF
    rw [List.map_cons, posF, if_neg e]
    by_cases h : posF num (l.map nf) < 0
    · simp [h]
    · rw [if_neg h, if_neg h, if_neg (by omega)]
      have : (posF num (l.map nf) + 1).toNat = (posF num (l.map nf)).toNat + 1 := by omega
      rw [this]
      simp
theorem rmF_not {α : Type} (nf : α → Nat) (num : Nat) (l : List α) (h : num ∉ l.map nf) : rmF nf num l = l := by
  unfold rmF
  rw [if_pos ((posF_neg num _).2 h)]
theorem inj_mod {base j k : Nat} (hj : j < 200) (hk : k < 200) (h : (base + j) % 65536 = (base + k) % 65536) : j = k := by omega
theorem mem_og {base k : Nat} {G : List Og} (hk : k < 200) (hG : ∀ g ∈ G, g.k < 200) : (base + k) % 65536 ∈ (G.map (og base)).map Gp.n ↔ k ∈ G.map Og.k := by
  rw [List.map_map]
  constructor
  · intro h
    obtain ⟨g, hg, e⟩ := List.mem_map.1 h
    have : g.k = k := inj_mod (hG g hg) hk e
    exact List.mem_map.2 ⟨g, hg, this⟩
  · intro h
    obtain ⟨g, hg, e⟩ := List.mem_map.1 h
    exact List.mem_map.2 ⟨g, hg, by rw [← e]; rfl⟩
def newsG (m c : Nat) (now : Int) : List Og := (List.range' m c).map fun j => ⟨j, now, 0⟩
theorem addsF_og (base : Nat) (now : Int) : ∀ (c m : Nat) (G : List Og), (∀ g ∈ G, g.k < m) → m + c < 200 → addsF now c ((base + m) % 65536) (G.map (og base)) = (G ++ newsG m c now).map (og base)
  | 0, m, G, _, _ => by simp [addsF, newsG]
  | c + 1, m, G, hG, hm => by
    have hno : (base + m) % 65536 ∉ (G.map (og base)).map Gp.n := by
      rw [mem_og (by omega) (fun g hg => by have := hG g hg; omega)]
      intro h
      obtain ⟨g, hg, e⟩ := List.mem_map.1 h
      have := hG g hg
      omega
    have e1 : ((base + m) % 65536 + 1) % 65536 = (base + (m + 1)) % 65536 := by omega
    have e2 : G.map (og base) ++ [(⟨(base + m) % 65536, now, 0⟩ : Gp)] = (G ++ [(⟨m, now, 0⟩ : Og)]).map (og base) := by rw [List.map_append]; rfl
    rw [addsF, rmF_not _ _ _ hno, e1, e2, addsF_og base now c (m + 1) (G ++ [(⟨m, now, 0⟩ : Og)]) (fun g hg => by
      rcases List.mem_append.1 hg with h | h
      · have := hG g h; omega
      · simp at h; subst h; simp) (by omega), List.append_assoc]
    congr 1
theorem guN_og (base mx window : Nat) : ∀ G : List Og, (G.map Og.k).Pairwise (· < ·) → (∀ g ∈ G, g.k ≤ mx) → mx < 200 → (G.map (og base)).drop (guN ((base + mx) % 65536) window (G.map (og base))) = (G.filter (fun g => decide (mx - g.k < window))).map (og base) ∧ guN ((base + mx) % 65536) window (G.map (og base)) + (G.filter (fun g => decide (mx - g.k < window))).length = G.length
  | [], _, _, _ => by simp [guN]
  | g :: G, hs, hG, hm => by
    have hg := hG g (by simp)
    have hst : stepsTo ((base + mx) % 65536) (og base g).n = mx - g.k := by
      unfold stepsTo og
      simp only
      omega
    rw [List.map_cons, List.pairwise_cons] at hs
    obtain ⟨i1, i2⟩ := guN_og base mx window G hs.2 (fun x hx => hG x (by simp [hx])) hm
    rw [List.map_cons, guN, hst]
    by_cases h : window ≤ mx - g.k
    · rw [if_pos h, List.drop_succ_cons, List.filter_cons_of_neg (by simp; omega)]
      exact ⟨i1, by simp; omega⟩
    · rw [if_neg h]
      have hall : (g :: G).filter (fun g => decide (mx - g.k < window)) = g :: G := by
        rw [List.filter_eq_self]
        intro x hx
        rcases List.mem_cons.1 hx with rfl | hx
        · simp; omega
        · have := hs.1 x.k (List.mem_map.2 ⟨x, hx, rfl⟩)
          simp
          omega
      rw [hall]
      simp
theorem rmF_og (base k : Nat) (hk : k < 200) : ∀ G : List Og, (G.map Og.k).Pairwise (· < ·) → (∀ g ∈ G, g.k < 200) → rmF Gp.n ((base + k) % 65536) (G.map (og base)) = (G.filter (fun g => decide (g.k ≠ k))).map (og base)
  | [], _, _ => by simp [rmF, posF]
  | g :: G, hs, hG => by
    rw [List.map_cons, List.pairwise_cons] at hs
    have ih := rmF_og base k hk G hs.2 (fun x hx => hG x (by simp [hx]))
    rw [List.map_cons, rmF_cons]
    by_cases e : g.k = k
    · have e2 : (og base g).n = (base + k) % 65536 := by rw [← e]; rfl
      rw [if_pos e2, List.filter_cons_of_neg (by simp [e])]
      have hall : G.filter (fun g => decide (g.k ≠ k)) = G := by
        rw [List.filter_eq_self]
        intro x hx
        have := hs.1 x.k (List.mem_map.2 ⟨x, hx, rfl⟩)
        simp
        omega
      rw [hall]
    · have e2 : ¬ (og base g).n = (base + k) % 65536 := fun h => e (inj_mod (hG g (by simp)) hk h)
      rw [if_neg e2, List.filter_cons_of_pos (by simp [e]), List.map_cons, ih]
def onG (window mx k : Nat) (now : Int) (G : List Og) : List Og := if k - mx ≤ window then G ++ newsG (mx + 1) (k - mx - 1) now else G
structure TG where
  mx : Nat
  G : List Og
  fate : Nat
  gu : Nat
/-- what comes of a packet, by distances alone -/
def takeG (window mx : Nat) (G : List Og) (k : Nat) (now : Int) : TG :=
  if mx < k then ⟨k, (onG window mx k now G).filter (fun g => decide (k - g.k < window)), 0, (onG window mx k now G).length - ((onG window mx k now G).filter (fun g => decide (k - g.k < window))).length⟩
  else if window ≤ mx - k then ⟨mx, G, 1, 0⟩ else if k ∈ G.map Og.k then ⟨mx, G.filter (fun g => decide (g.k ≠ k)), 0, 0⟩ else ⟨mx, G, 2, 0⟩
/-- a sender of which packets have come -/
structure LiveS (base b : Nat) (now : Int) (N window mx : Nat) (G : List Og) (sd : Sd) : Prop where
  src : sd.src = 3
  bg : sd.begun = true
  nw : sd.newest = (base + mx) % 65536
  gp : sd.gaps = G.map (og base)
  srt : (G.map Og.k).Pairwise (· < ·)
  rng : ∀ g ∈ G, b < g.k ∧ g.k < mx ∧ mx - g.k < window
  tim : ∀ g ∈ G, 0 ≤ g.last ∧ g.last ≤ now ∧ 0 ≤ g.tries ∧ g.tries ≤ (N : Int)
  le : b ≤ mx
  m50 : mx < 50
theorem newsG_mem {m c : Nat} {now : Int} {g : Og} (h : g ∈ newsG m c now) : m ≤ g.k ∧ g.k < m + c ∧ g.last = now ∧ g.tries = 0 := by
  unfold newsG at h
  obtain ⟨j, hj, rfl⟩ := List.mem_map.1 h
  rw [List.mem_range'_1] at hj
  exact ⟨hj.1, hj.2, rfl, rfl⟩
theorem newsG_srt (m c : Nat) (now : Int) : ((newsG m c now).map Og.k).Pairwise (· < ·) := by
  unfold newsG
  rw [List.map_map]
  have : (Og.k ∘ fun j => (⟨j, now, 0⟩ : Og)) = id := rfl
  rw [this, List.map_id]
  exact List.pairwise_lt_range'
theorem onG_facts {b window mx k N : Nat} {now : Int} {G : List Og} (hs : (G.map Og.k).Pairwise (· < ·)) (hr : ∀ g ∈ G, b < g.k ∧ g.k < mx) (ht : ∀ g ∈ G, 0 ≤ g.last ∧ g.last ≤ now ∧ 0 ≤ g.tries ∧ g.tries ≤ (N : Int)) (hle : b ≤ mx) (hk : mx < k) (hn : 0 ≤ now) :
    ((onG window mx k now G).map Og.k).Pairwise (· < ·) ∧ (∀ g ∈ onG window mx k now G, b < g.k ∧ g.k < k) ∧ ∀ g ∈ onG window mx k now G, 0 ≤ g.last ∧ g.last ≤ now ∧ 0 ≤ g.tries ∧ g.tries ≤ (N : Int) := by
  unfold onG
  split
  · refine ⟨?_, fun g hg => ?_, fun g hg => ?_⟩
    · rw [List.map_append, List.pairwise_append]
      refine ⟨hs, newsG_srt _ _ _, fun a ha c hc => ?_⟩
      obtain ⟨g, hg, rfl⟩ := List.mem_map.1 ha
      obtain ⟨g', hg', rfl⟩ := List.mem_map.1 hc
      have := (hr g hg).2
      have := (newsG_mem hg').1
      omega
    · rcases List.mem_append.1 hg with h | h
      · have := hr g h; omega
      · have := newsG_mem h; omega
    · rcases List.mem_append.1 hg with h | h
      · exact ht g h
      · have := newsG_mem h
        rw [this.2.2.1, this.2.2.2]
        omega
  · exact ⟨hs, fun g hg => by have := hr g hg; omega, ht⟩
theorem pw_filter {p : Og → Bool} {G : List Og} (h : (G.map Og.k).Pairwise (· < ·)) : ((G.filter p).map Og.k).Pairwise (· < ·) := by
  rw [List.pairwise_map] at h ⊢
  exact h.filter p
theorem LiveS.take {base b N window mx k : Nat} {now : Int} {G : List Og} {sd : Sd} (h : LiveS base b now N window mx G sd) (hk : k < 50) (hn : 0 ≤ now) :
    takeF sd ((base + k) % 65536) now window = ((takeF sd ((base + k) % 65536) now window).1, (takeG window mx G k now).fate, (takeG window mx G k now).gu) ∧ LiveS base b now N window (takeG window mx G k now).mx (takeG window mx G k now).G (takeF sd ((base + k) % 65536) now window).1 := by
  obtain ⟨hsrc, hbg, hnw, hgp, hsrt, hrng, htim, hle, h50⟩ := h
  have hst : stepsTo ((base + k) % 65536) sd.newest = if mx ≤ k then k - mx else 65536 - (mx - k) := by
    rw [hnw]
    unfold stepsTo
    split <;> omega
  have hst2 : k ≤ mx → stepsTo sd.newest ((base + k) % 65536) = mx - k := by
    intro hh
    rw [hnw]
    unfold stepsTo
    omega
  unfold takeF takeG
  rw [if_neg (by simp [hbg])]
  by_cases hlt : mx < k
  · rw [if_pos (by rw [hst, if_pos (by omega)]; omega), if_pos hlt]
    have hG : gapsOn sd ((base + k) % 65536) now window = (onG window mx k now G).map (og base) := by
      unfold gapsOn onG
      rw [hst, if_pos (show mx ≤ k by omega)]
      by_cases hw1 : k - mx ≤ window
      · rw [if_pos hw1, if_pos hw1, hnw, hgp, show ((base + mx) % 65536 + 1) % 65536 = (base + (mx + 1)) % 65536 by omega]
        exact addsF_og base now (k - mx - 1) (mx + 1) G (fun g hg => by have := hrng g hg; omega) (by omega)
      · rw [if_neg hw1, if_neg hw1, hgp]
    obtain ⟨f1, f2, f3⟩ := onG_facts (window := window) (k := k) (N := N) hsrt (fun g hg => ⟨(hrng g hg).1, (hrng g hg).2.1⟩) htim hle hlt hn
    obtain ⟨u1, u2⟩ := guN_og base k window (onG window mx k now G) f1 (fun g hg => by have := f2 g hg; omega) (by omega)
    refine ⟨?_, hsrc, hbg, rfl, ?_, pw_filter f1, fun g hg => ?_, fun g hg => f3 g (List.mem_filter.1 hg).1, by simp only; omega, hk⟩
    · rw [hG]
      congr 2
      simp only
      omega
    · unfold goOnF
      simp only
      rw [hG]
      exact u1
    · obtain ⟨m1, m2⟩ := List.mem_filter.1 hg
      have := f2 g m1
      have := of_decide_eq_true m2
      simp only
      omega
  · rw [if_neg (by rw [hst]; split <;> omega), if_neg hlt]
    have hin : (0 ≤ posF ((base + k) % 65536) (sd.gaps.map Gp.n)) ↔ k ∈ G.map Og.k := by
      have e := posF_neg ((base + k) % 65536) (sd.gaps.map Gp.n)
      rw [hgp, mem_og (by omega) (fun g hg => by have := hrng g hg; omega)] at e
      rw [hgp]
      constructor
      · intro h0
        exact Classical.byContradiction fun hn => by have := e.2 hn; omega
      · intro h0
        rcases Int.lt_or_le (posF ((base + k) % 65536) ((G.map (og base)).map Gp.n)) 0 with hh | hh
        · exact absurd h0 (e.1 hh)
        · exact hh
    unfold lookBackF
    rw [hst2 (by omega)]
    by_cases hla : window ≤ mx - k
    · rw [if_pos hla, if_pos hla]
      exact ⟨rfl, hsrc, hbg, hnw, hgp, hsrt, hrng, htim, hle, h50⟩
    · rw [if_neg hla, if_neg hla]
      by_cases hm : k ∈ G.map Og.k
      · rw [if_pos (hin.2 hm), if_pos hm]
        refine ⟨rfl, hsrc, hbg, hnw, ?_, pw_filter hsrt, fun g hg => hrng g (List.mem_filter.1 hg).1, fun g hg => htim g (List.mem_filter.1 hg).1, hle, h50⟩
        simp only
        rw [hgp]
        exact rmF_og base k (by omega) G hsrt (fun g hg => by have := hrng g hg; omega)
      · rw [if_neg (fun h0 => hm (hin.1 h0)), if_neg hm]
        exact ⟨rfl, hsrc, hbg, hnw, hgp, hsrt, hrng, htim, hle, h50⟩
theorem LiveS.first {base k N window : Nat} {now : Int} {sd : Sd} (hs : sd.src = 3) (hb : sd.begun = false) (hg : sd.gaps = []) (hk : k < 50) :
    takeF sd ((base + k) % 65536) now window = ((takeF sd ((base + k) % 65536) now window).1, 0, 0) ∧ LiveS base k now N window k [] (takeF sd ((base + k) % 65536) now window).1 := by
  unfold takeF
  rw [if_pos hb]
  exact ⟨rfl, hs, rfl, rfl, hg, List.Pairwise.nil, fun g hg => by simp at hg, fun g hg => by simp at hg, Nat.le_refl _, hk⟩
theorem LiveS.mono {base b N N' window mx : Nat} {now now' : Int} {G : List Og} {sd : Sd} (h : LiveS base b now N window mx G sd) (hn : now ≤ now') (hN : N ≤ N') : LiveS base b now' N' window mx G sd :=
  ⟨h.src, h.bg, h.nw, h.gp, h.srt, h.rng, fun g hg => by have := h.tim g hg; omega, h.le, h.m50⟩
def dueO (now retry : Int) (g : Og) : Bool := decide (retry ≤ now - g.last)
def goneO (now retry tries : Int) (g : Og) : Bool := dueO now retry g && decide (tries ≤ g.tries)
def upO (now retry : Int) (g : Og) : Og := if dueO now retry g = true then ⟨g.k, now, g.tries + 1⟩ else g
def keptO (now retry tries : Int) (G : List Og) : List Og := G.filter fun g => !goneO now retry tries g
def askO (now retry tries : Int) (G : List Og) : List Og := (keptO now retry tries G).map (upO now retry)
def askedO (now retry tries : Int) (G : List Og) : List Nat := ((keptO now retry tries G).filter (dueO now retry)).map Og.k
theorem due_og (now retry : Int) (base : Nat) (g : Og) : dueB now retry (og base g) = dueO now retry g := rfl
theorem gone_og (now retry tries : Int) (base : Nat) (g : Og) : goneB now retry tries (og base g) = goneO now retry tries g := rfl
theorem kept_og (now retry tries : Int) (base : Nat) (G : List Og) : keptG now retry tries (G.map (og base)) = (keptO now retry tries G).map (og base) := by
  unfold keptG keptO
  rw [List.filter_map]
  rfl
theorem up_og (now retry : Int) (base : Nat) (g : Og) : upG now retry (og base g) = og base (upO now retry g) := by
  unfold upG upO
  rw [due_og]
  split <;> rfl
theorem upO_k (now retry : Int) (g : Og) : (upO now retry g).k = g.k := by unfold upO; split <;> rfl
theorem askO_k (now retry tries : Int) (G : List Og) : (askO now retry tries G).map Og.k = (keptO now retry tries G).map Og.k := by
  unfold askO
  rw [List.map_map]
  congr 1
  funext g
  exact upO_k now retry g
theorem LiveS.ask {base b N window mx : Nat} {now retry tries : Int} {G : List Og} {sd : Sd} (h : LiveS base b now N window mx G sd) (hn : 0 ≤ now) :
    LiveS base b now (N + 1) window mx (askO now retry tries G) (askS sd now retry tries) ∧ askedS sd now retry tries = (askedO now retry tries G).map (fun k => (((base + k) % 65536 : Nat) : Int)) ∧ (keptG now retry tries sd.gaps).length = (keptO now retry tries G).length ∧ sd.gaps.length = G.length := by
  obtain ⟨hsrc, hbg, hnw, hgp, hsrt, hrng, htim, hle, h50⟩ := h
  have hmem : ∀ g ∈ askO now retry tries G, ∃ g0 ∈ G, g = upO now retry g0 := fun g hg => by
    obtain ⟨g0, h0, rfl⟩ := List.mem_map.1 hg
    exact ⟨g0, (List.mem_filter.1 h0).1, rfl⟩
  refine ⟨⟨hsrc, hbg, hnw, ?_, ?_, fun g hg => ?_, fun g hg => ?_, hle, h50⟩, ?_, ?_, ?_⟩
  · unfold askS askO
    simp only
    rw [hgp, kept_og, List.map_map, List.map_map]
    congr 1
    funext g
    exact up_og now retry base g
  · rw [askO_k]
    exact pw_filter hsrt
  · obtain ⟨g0, h0, rfl⟩ := hmem g hg
    rw [upO_k]
    exact hrng g0 h0
  · obtain ⟨g0, h0, rfl⟩ := hmem g hg
    have := htim g0 h0
    unfold upO
    split
    · simp only; omega
    · omega
  · unfold askedS askedO names
    rw [hgp, kept_og, List.filter_map, List.map_map, List.map_map]
    rfl
  · rw [hgp, kept_og, List.length_map]
  · rw [hgp, List.length_map]
theorem srt_len {b mx : Nat} : ∀ (l : List Nat) (a : Nat), l.Pairwise (· < ·) → (∀ k ∈ l, a ≤ k ∧ k < mx) → l.length ≤ mx - a
  | [], _, _, _ => Nat.zero_le _
  | x :: r, a, hs, hr => by
    rw [List.pairwise_cons] at hs
    have hx := hr x (by simp)
    have := srt_len (b := b) r (x + 1) hs.2 (fun k hk => ⟨hs.1 k hk, (hr k (by simp [hk])).2⟩)
    simp only [List.length_cons]
    omega
theorem LiveS.len {base b N window mx : Nat} {now : Int} {G : List Og} {sd : Sd} (h : LiveS base b now N window mx G sd) : G.length ≤ 50 ∧ sd.gaps.length ≤ 50 := by
  have h1 := srt_len (b := 0) (mx := mx) (G.map Og.k) 0 h.srt (fun k hk => by
    obtain ⟨g, hg, rfl⟩ := List.mem_map.1 hk
    exact ⟨Nat.zero_le _, (h.rng g hg).2.1⟩)
  rw [List.length_map] at h1
  have := h.m50
  rw [h.gp, List.length_map]
  omega
theorem LiveS.sndOk {base b N window mx : Nat} {now : Int} {G : List Og} {sd : Sd} (h : LiveS base b now N window mx G sd) (hn : now ≤ 2000000000000000) (hN : N ≤ 1000000000) : SndOk sd ∧ sd.newest < 65536 := by
  refine ⟨⟨fun x hx => ?_, fun g hg => ?_, by have := h.len; omega⟩, by rw [h.nw]; exact Nat.mod_lt _ (by decide)⟩
  · rw [h.gp] at hx
    obtain ⟨g, _, rfl⟩ := List.mem_map.1 hx
    exact Nat.mod_lt _ (by decide)
  · rw [h.gp] at hg
    obtain ⟨g0, h0, rfl⟩ := List.mem_map.1 hg
    have := h.tim g0 h0
    unfold GOk1 og
    simp only
    omega
end Pk
end Go.Proofs.Ytdjhhnolcafkiaa

/- Tick. -/
namespace Go.Proofs.Ytdjhhnolcafkiaa
open Go.RowKit
namespace Pk
/-- time goes on -/
def wentM (M : Md) (t : Int) : Md := { M with s := { M.s with now := M.s.now + t, tokens := min (M.s.tokens + M.c.rate * t) M.c.burst } }
def tickM (M : Md) (t : Int) : Md × List ByteArray × Int :=
  if 0 ≤ t ∧ t ≤ 1000000 then ((askAll (wentM M t) M.sds.length).1, (askAll (wentM M t) M.sds.length).2, 0) else (M, [], 2)
def TcS (mb : Nat) (tokens rate burst : Int) (W : World) : Prop := W.cell? ⟨mb, 8, none⟩ = some (.int .i64 tokens) ∧ W.cell? ⟨mb, 3, none⟩ = some (.int .i64 rate) ∧ W.cell? ⟨mb, 4, none⟩ = some (.int .i64 burst)
end Pk
open Pk

set_option maxRecDepth 20000 in
set_option maxHeartbeats 4000000 in
theorem tick_any (ρ : Nat → Nat) (mb : Nat) (M : Md) (sv wv : Value) (SB WB : List (Nat × Value)) (t : Int) (w : World) (h : MdAt w ρ mb M sv wv SB WB) (ok : MOk M) (hsn : ∀ s ∈ M.sds, SndOk s) (hnow : M.s.now ≤ 900000000000000) :
    Calls Try.prog 59 #[.pointer (some ⟨mb, 0, none⟩), .int .i64 t] w fun e w' => ∃ tv, e = .returned (.tuple #[tv, .int .i64 (tickM M t).2.2]) ∧ MovedT w w' ρ mb (tickM M t).1 tv (tickM M t).2.1 := by
  have H : Hid (MdAt w ρ mb M sv wv SB WB) := h
  have Hok : Hid (MOk M) := ok
  have Hsn : Hid (∀ s ∈ M.sds, SndOk s) := hsn
  clear h ok hsn
  go_enter Try.func59, Try.ntmps59
  go_wp2_with fail
  refine (orNone_any mb _).mono ?_
  rintro e w1 ⟨rfl, hw1⟩
  rw [hw1]
  clear hw1 w1
  go_wp2_with fail
  refine (between_any t 0 1000000 _).mono ?_
  rintro e w1 ⟨rfl, hw1⟩
  rw [hw1]
  clear hw1 w1
  by_cases ht : 0 ≤ t ∧ t ≤ 1000000
  · rw [decide_eq_true ht]
    have HP : Hid (tickM M t = ((askAll (wentM M t) M.sds.length).1, (askAll (wentM M t) M.sds.length).2, 0)) := if_pos ht
    have hcf := of_decide_eq_true Hok.out.cfg
    have hn0 := Hok.out.now
    have htk := Hok.out.tok
    have y7 : w.cell? ⟨mb, 7, none⟩ = some (.int .i64 M.s.now) := H.out.k 7 _ rfl
    have yf : ∀ o, w.frozen? ⟨mb, o, none⟩ = false := H.out.fz
    obtain ⟨m1, c1⟩ := H.out.put (M' := { M with s := { M.s with now := M.s.now + t } }) 7 (.int .i64 (M.s.now + t)) (by omega) rfl rfl rfl
    obtain ⟨m2, c2⟩ := m1.put (M' := wentM M t) 8 (.int .i64 (min (M.s.tokens + M.c.rate * t) M.c.burst)) (by omega) rfl rfl rfl
    have HM1 : Hid (MdAt (w.setCell ⟨mb, 7, none⟩ (.int .i64 (M.s.now + t))) ρ mb { M with s := { M.s with now := M.s.now + t } } sv wv SB WB) := m1
    have HM2 : Hid (MdAt ((w.setCell ⟨mb, 7, none⟩ (.int .i64 (M.s.now + t))).setCell ⟨mb, 8, none⟩ (.int .i64 (min (M.s.tokens + M.c.rate * t) M.c.burst))).drew ρ mb (wentM M t) sv wv SB WB) := m2.below (Below.refl _ _).drew
    have HV2 : Hid (Mv w ρ ((w.setCell ⟨mb, 7, none⟩ (.int .i64 (M.s.now + t))).setCell ⟨mb, 8, none⟩ (.int .i64 (min (M.s.tokens + M.c.rate * t) M.c.burst))).drew ρ) := (c1.trans c2).trans (Mv.below (Below.refl _ _).drew)
    have hrt : 0 ≤ M.c.rate * t ∧ M.c.rate * t ≤ 100000000000 := by
      refine ⟨Int.mul_nonneg hcf.2.2.2.1.1 ht.1, ?_⟩
      have h1 : M.c.rate * t ≤ 100000 * t := Int.mul_le_mul_of_nonneg_right hcf.2.2.2.1.2 ht.1
      omega
    have hw0 : IntKind.i64.wrap (M.s.now + t) = M.s.now + t := wrapI64 _ (by omega) (by omega)
    have hw1 : IntKind.i64.wrap (M.c.rate * t) = M.c.rate * t := wrapI64 _ (by omega) (by omega)
    have hw2 : IntKind.i64.wrap (M.s.tokens + M.c.rate * t) = M.s.tokens + M.c.rate * t := wrapI64 _ (by omega) (by omega)
    have HS : Hid (TcS mb M.s.tokens M.c.rate M.c.burst (w.setCell ⟨mb, 7, none⟩ (.int .i64 (M.s.now + t)))) := ⟨m1.k 8 _ rfl, m1.k 3 _ rfl, m1.k 4 _ rfl⟩
    have hfz1 : ∀ o, (w.setCell ⟨mb, 7, none⟩ (.int .i64 (M.s.now + t))).frozen? ⟨mb, o, none⟩ = false := m1.fz
    clear m1 c1 m2 c2
    go_wp2
    have g8 := HS.out.1
    have hmin : (if M.c.burst < M.s.tokens + M.c.rate * t then M.c.burst else M.s.tokens + M.c.rate * t) = min (M.s.tokens + M.c.rate * t) M.c.burst := by
      split <;> omega
    generalize (w.setCell ⟨mb, 7, none⟩ (.int .i64 (M.s.now + t))) = W1 at *
    refine wp_region_noPanic ?_
    refine wp_region_held_drew (S := fun W => W.cell? ⟨mb, 3, none⟩ = some (.int .i64 M.c.rate) ∧ W.cell? ⟨mb, 4, none⟩ = some (.int .i64 M.c.burst)) (by kernel_rfl) HS.out.2 (fun hHeld => ?_)
    refine wpAnyH_take (i := 0) (v := ?vt1) rfl (by kernel_rfl) (by kernel_rfl) (by kernel_rfl) (fun _ _ _ h => h) (Or.inl ⟨by rfl, ?yt1⟩) hHeld ?rt1
    case yt1 => ((intro W hSw; obtain ⟨hS0, hS1⟩ := hSw; go_simp) <;> with_reducible rfl)
    try simp only [Act.put]
    try simp only [List.getElem_toArray]
    try simp only [List.getElem_cons_succ]
    try simp only [List.getElem_cons_zero]
    try simp only [List.setIfInBounds_toArray]
    try simp only [List.set_cons_succ]
    try simp only [List.set_cons_zero]
    refine wpAnyH_take (i := 1) (v := ?vt2) rfl (by kernel_rfl) (by kernel_rfl) (by kernel_rfl) (fun _ _ _ h => h) (Or.inl ⟨by rfl, ?yt2⟩) hHeld ?rt2
    case yt2 => ((intro W hSw; obtain ⟨hS0, hS1⟩ := hSw; go_simp) <;> with_reducible rfl)
    try simp only [Act.put]
    try simp only [List.getElem_toArray]
    try simp only [List.getElem_cons_succ]
    try simp only [List.getElem_cons_zero]
    try simp only [List.setIfInBounds_toArray]
    try simp only [List.set_cons_succ]
    try simp only [List.set_cons_zero]
    refine wpAnyH_take (i := 2) (v := ?vt3) rfl (by kernel_rfl) (by kernel_rfl) (by kernel_rfl) (fun _ _ _ h => h) (Or.inl ⟨by rfl, ?yt3⟩) hHeld ?rt3
    case yt3 => ((intro W hSw; obtain ⟨hS0, hS1⟩ := hSw; go_simp) <;> with_reducible rfl)
    try simp only [Act.put]
    try simp only [List.getElem_toArray]
    try simp only [List.getElem_cons_succ]
    try simp only [List.getElem_cons_zero]
    try simp only [List.setIfInBounds_toArray]
    try simp only [List.set_cons_succ]
    try simp only [List.set_cons_zero]
    refine wpAnyH_take (i := 3) (v := ?vt4) rfl (by kernel_rfl) (by kernel_rfl) (by kernel_rfl) (fun _ _ _ h => h) (Or.inl ⟨by rfl, ?yt4⟩) hHeld ?rt4
    case yt4 => ((intro W hSw; obtain ⟨hS0, hS1⟩ := hSw; go_simp) <;> with_reducible rfl)
    try simp only [Act.put]
    try simp only [List.getElem_toArray]
    try simp only [List.getElem_cons_succ]
    try simp only [List.getElem_cons_zero]
    try simp only [List.setIfInBounds_toArray]
    try simp only [List.set_cons_succ]
    try simp only [List.set_cons_zero]
    refine wpAnyH_take (i := 4) (v := ?vt5) rfl (by kernel_rfl) (by kernel_rfl) (by kernel_rfl) (fun _ _ _ h => h) (Or.inl ⟨by rfl, ?yt5⟩) hHeld ?rt5
    case yt5 => ((intro W hSw; obtain ⟨hS0, hS1⟩ := hSw; go_simp) <;> with_reducible rfl)
    try simp only [Act.put]
    try simp only [List.getElem_toArray]
    try simp only [List.getElem_cons_succ]
    try simp only [List.getElem_cons_zero]
    try simp only [List.setIfInBounds_toArray]
    try simp only [List.set_cons_succ]
    try simp only [List.set_cons_zero]
    refine wpAnyH_take (i := 6) (v := ?vt6) rfl (by kernel_rfl) (by kernel_rfl) (by kernel_rfl) (fun _ _ _ h => h) (Or.inl ⟨by rfl, ?yt6⟩) hHeld ?rt6
    case yt6 => ((intro W hSw; obtain ⟨hS0, hS1⟩ := hSw; go_simp) <;> with_reducible rfl)
    try simp only [Act.put]
    try simp only [List.getElem_toArray]
    try simp only [List.getElem_cons_succ]
    try simp only [List.getElem_cons_zero]
    try simp only [List.setIfInBounds_toArray]
    try simp only [List.set_cons_succ]
    try simp only [List.set_cons_zero]
    refine wpAnyH_take (i := 7) (v := ?vt7) rfl (by kernel_rfl) (by kernel_rfl) (by kernel_rfl) (fun _ _ _ h => h) (Or.inl ⟨by rfl, ?yt7⟩) hHeld ?rt7
    case yt7 => ((intro W hSw; obtain ⟨hS0, hS1⟩ := hSw; go_simp) <;> with_reducible rfl)
    try simp only [Act.put]
    try simp only [List.getElem_toArray]
    try simp only [List.getElem_cons_succ]
    try simp only [List.getElem_cons_zero]
    try simp only [List.setIfInBounds_toArray]
    try simp only [List.set_cons_succ]
    try simp only [List.set_cons_zero]
    refine wpAnyH_take (i := 8) (v := ?vt8) rfl (by kernel_rfl) (by kernel_rfl) (by kernel_rfl) (fun _ _ _ h => h) (Or.inl ⟨by rfl, ?yt8⟩) hHeld ?rt8
    case yt8 => ((intro W hSw; obtain ⟨hS0, hS1⟩ := hSw; go_simp) <;> with_reducible rfl)
    try simp only [Act.put]
    try simp only [List.getElem_toArray]
    try simp only [List.getElem_cons_succ]
    try simp only [List.getElem_cons_zero]
    try simp only [List.setIfInBounds_toArray]
    try simp only [List.set_cons_succ]
    try simp only [List.set_cons_zero]
    refine wpAnyH_take (i := 9) (v := ?vt9) rfl (by kernel_rfl) (by kernel_rfl) (by kernel_rfl) (fun _ _ _ h => h) (Or.inl ⟨by rfl, ?yt9⟩) hHeld ?rt9
    case yt9 => ((intro W hSw; obtain ⟨hS0, hS1⟩ := hSw; go_simp) <;> with_reducible rfl)
    try simp only [Act.put]
    try simp only [List.getElem_toArray]
    try simp only [List.getElem_cons_succ]
    try simp only [List.getElem_cons_zero]
    try simp only [List.setIfInBounds_toArray]
    try simp only [List.set_cons_succ]
    try simp only [List.set_cons_zero]
    refine wpAnyH_take (i := 10) (v := ?vt10) rfl (by kernel_rfl) (by kernel_rfl) (by kernel_rfl) (fun _ _ _ h => h) (Or.inl ⟨by rfl, ?yt10⟩) hHeld ?rt10
    case yt10 => ((intro W hSw; obtain ⟨hS0, hS1⟩ := hSw; go_simp) <;> with_reducible rfl)
    try simp only [Act.put]
    try simp only [List.getElem_toArray]
    try simp only [List.getElem_cons_succ]
    try simp only [List.getElem_cons_zero]
    try simp only [List.setIfInBounds_toArray]
    try simp only [List.set_cons_succ]
    try simp only [List.set_cons_zero]
    refine wpAnyH_take (i := 11) (v := ?vt11) rfl (by kernel_rfl) (by kernel_rfl) (by kernel_rfl) (fun _ _ _ h => h) (Or.inl ⟨by rfl, ?yt11⟩) hHeld ?rt11
    case yt11 => ((intro W hSw; obtain ⟨hS0, hS1⟩ := hSw; go_simp) <;> with_reducible rfl)
    try simp only [Act.put]
    try simp only [List.getElem_toArray]
    try simp only [List.getElem_cons_succ]
    try simp only [List.getElem_cons_zero]
    try simp only [List.setIfInBounds_toArray]
    try simp only [List.set_cons_succ]
    try simp only [List.set_cons_zero]
    refine wpAnyH_take (i := 12) (v := ?vt12) rfl (by kernel_rfl) (by kernel_rfl) (by kernel_rfl) (fun _ _ _ h => h) (Or.inl ⟨by rfl, ?yt12⟩) hHeld ?rt12
    case yt12 => ((intro W hSw; obtain ⟨hS0, hS1⟩ := hSw; go_simp) <;> with_reducible rfl)
    try simp only [Act.put]
    try simp only [List.getElem_toArray]
    try simp only [List.getElem_cons_succ]
    try simp only [List.getElem_cons_zero]
    try simp only [List.setIfInBounds_toArray]
    try simp only [List.set_cons_succ]
    try simp only [List.set_cons_zero]
    refine wpAnyH_take (i := 14) (v := ?vt13) rfl (by kernel_rfl) (by kernel_rfl) (by kernel_rfl) (fun _ _ _ h => h) (Or.inl ⟨by rfl, ?yt13⟩) hHeld ?rt13
    case yt13 => ((intro W hSw; obtain ⟨hS0, hS1⟩ := hSw; go_simp) <;> with_reducible rfl)
    try simp only [Act.put]
    try simp only [List.getElem_toArray]
    try simp only [List.getElem_cons_succ]
    try simp only [List.getElem_cons_zero]
    try simp only [List.setIfInBounds_toArray]
    try simp only [List.set_cons_succ]
    try simp only [List.set_cons_zero]
    refine wpAnyH_take (i := 15) (v := ?vt14) rfl (by kernel_rfl) (by kernel_rfl) (by kernel_rfl) (fun _ _ _ h => h) (Or.inl ⟨by rfl, ?yt14⟩) hHeld ?rt14
    case yt14 => ((intro W hSw; obtain ⟨hS0, hS1⟩ := hSw; go_simp) <;> with_reducible rfl)
    try simp only [Act.put]
    try simp only [List.getElem_toArray]
    try simp only [List.getElem_cons_succ]
    try simp only [List.getElem_cons_zero]
    try simp only [List.setIfInBounds_toArray]
    try simp only [List.set_cons_succ]
    try simp only [List.set_cons_zero]
    refine wpAnyH_take (i := 16) (v := ?vt15) rfl (by kernel_rfl) (by kernel_rfl) (by kernel_rfl) (fun _ _ _ h => h) (Or.inl ⟨by rfl, ?yt15⟩) hHeld ?rt15
    case yt15 => ((intro W hSw; obtain ⟨hS0, hS1⟩ := hSw; go_simp) <;> with_reducible rfl)
    try simp only [Act.put]
    try simp only [List.getElem_toArray]
    try simp only [List.getElem_cons_succ]
    try simp only [List.getElem_cons_zero]
    try simp only [List.setIfInBounds_toArray]
    try simp only [List.set_cons_succ]
    try simp only [List.set_cons_zero]
    refine wpAnyH_take (i := 17) (v := ?vt16) rfl (by kernel_rfl) (by kernel_rfl) (by kernel_rfl) (fun _ _ _ h => h) (Or.inl ⟨by rfl, ?yt16⟩) hHeld ?rt16
    case yt16 => ((intro W hSw; obtain ⟨hS0, hS1⟩ := hSw; go_simp) <;> with_reducible rfl)
    try simp only [Act.put]
    try simp only [List.getElem_toArray]
    try simp only [List.getElem_cons_succ]
    try simp only [List.getElem_cons_zero]
    try simp only [List.setIfInBounds_toArray]
    try simp only [List.set_cons_succ]
    try simp only [List.set_cons_zero]
    refine wpAnyH_take (i := 18) (v := ?vt17) rfl (by kernel_rfl) (by kernel_rfl) (by kernel_rfl) (fun _ _ _ h => h) (Or.inl ⟨by rfl, ?yt17⟩) hHeld ?rt17
    case yt17 => ((intro W hSw; obtain ⟨hS0, hS1⟩ := hSw; go_simp) <;> with_reducible rfl)
    try simp only [Act.put]
    try simp only [List.getElem_toArray]
    try simp only [List.getElem_cons_succ]
    try simp only [List.getElem_cons_zero]
    try simp only [List.setIfInBounds_toArray]
    try simp only [List.set_cons_succ]
    try simp only [List.set_cons_zero]
    refine wpAnyH_ready (rs := [5]) (by kernel_rfl) (by simp) ?_
    refine AllReadyH.cons rfl (fun K hK => ?_) AllReadyH.nil
    go_simp
    refine hK.out _ _ hHeld (fun hHeld => ?_)
    clear hK K
    try simp only [Act.put]
    try simp only [List.getElem_toArray]
    try simp only [List.getElem_cons_succ]
    try simp only [List.getElem_cons_zero]
    try simp only [List.setIfInBounds_toArray]
    try simp only [List.set_cons_succ]
    try simp only [List.set_cons_zero]
    refine wpAnyH_take (i := 13) (v := ?vt18) rfl (by kernel_rfl) (by kernel_rfl) (by kernel_rfl) (fun _ _ _ h => h) (Or.inl ⟨by rfl, ?yt18⟩) hHeld ?rt18
    case yt18 => ((intro W hSw; obtain ⟨hS0, hS1⟩ := hSw; go_simp) <;> with_reducible rfl)
    try simp only [Act.put]
    try simp only [List.getElem_toArray]
    try simp only [List.getElem_cons_succ]
    try simp only [List.getElem_cons_zero]
    try simp only [List.setIfInBounds_toArray]
    try simp only [List.set_cons_succ]
    try simp only [List.set_cons_zero]
    refine wpAnyH_ready (rs := [19]) (by kernel_rfl) (by simp) ?_
    refine AllReadyH.cons rfl (fun K hK => ?_) AllReadyH.nil
    go_simp
    try rw [hmin]
    refine hK.out _ _ hHeld (fun hHeld => ?_)
    clear hK K
    try simp only [Act.put]
    try simp only [List.getElem_toArray]
    try simp only [List.getElem_cons_succ]
    try simp only [List.getElem_cons_zero]
    try simp only [List.setIfInBounds_toArray]
    try simp only [List.set_cons_succ]
    try simp only [List.set_cons_zero]
    generalize hmt : min (M.s.tokens + M.c.rate * t) M.c.burst = mt at *
    refine wpAnyH_take (i := 20) (v := ?vt19) rfl (by kernel_rfl) (by kernel_rfl) (by kernel_rfl) (fun _ _ _ h => h) (Or.inl ⟨by rfl, ?yt19⟩) hHeld ?rt19
    case yt19 => ((intro W hSw; obtain ⟨hS0, hS1⟩ := hSw; go_simp) <;> with_reducible rfl)
    try simp only [Act.put]
    try simp only [List.getElem_toArray]
    try simp only [List.getElem_cons_succ]
    try simp only [List.getElem_cons_zero]
    try simp only [List.setIfInBounds_toArray]
    try simp only [List.set_cons_succ]
    try simp only [List.set_cons_zero]
    refine wpAnyH_take (i := 21) (v := ?vt20) rfl (by kernel_rfl) (by kernel_rfl) (by kernel_rfl) (fun _ _ _ h => h) (Or.inl ⟨by rfl, ?yt20⟩) hHeld ?rt20
    case yt20 => ((intro W hSw; obtain ⟨hS0, hS1⟩ := hSw; go_simp) <;> with_reducible rfl)
    try simp only [Act.put]
    try simp only [List.getElem_toArray]
    try simp only [List.getElem_cons_succ]
    try simp only [List.getElem_cons_zero]
    try simp only [List.setIfInBounds_toArray]
    try simp only [List.set_cons_succ]
    try simp only [List.set_cons_zero]
    refine wpAnyH_take (i := 22) (v := ?vt21) rfl (by kernel_rfl) (by kernel_rfl) (by kernel_rfl) (fun _ _ _ h => h) (Or.inl ⟨by rfl, ?yt21⟩) hHeld ?rt21
    case yt21 => ((intro W hSw; obtain ⟨hS0, hS1⟩ := hSw; go_simp) <;> with_reducible rfl)
    try simp only [Act.put]
    try simp only [List.getElem_toArray]
    try simp only [List.getElem_cons_succ]
    try simp only [List.getElem_cons_zero]
    try simp only [List.setIfInBounds_toArray]
    try simp only [List.set_cons_succ]
    try simp only [List.set_cons_zero]
    refine wpAnyH_ready (rs := [23]) (by kernel_rfl) (by simp) ?_
    refine AllReadyH.cons rfl (fun K hK => ?_) AllReadyH.nil
    go_simp
    refine hK.out _ _ ⟨HM2.out.k 3 _ rfl, HM2.out.k 4 _ rfl⟩ (fun hHeld => ?_)
    clear hK K
    refine wpAnyH_done (by kernel_rfl) ?_ _
    refine NoPanic.normal ?_
    clear hHeld HS g8 y7 yf hfz1 HM1
    have HSo : Hid (∀ s ∈ (wentM M t).sds, SndOk s) := Hsn.out
    have hn1 : 0 ≤ (wentM M t).s.now ∧ (wentM M t).s.now ≤ 1000000000000000 := by
      show 0 ≤ M.s.now + t ∧ M.s.now + t ≤ _
      omega
    have hc1 : (0 ≤ (wentM M t).s.asked ∧ (wentM M t).s.asked ≤ 1000000000000000) ∧ 0 ≤ (wentM M t).s.givenUp ∧ (wentM M t).s.givenUp ≤ 1000000000000000 := ⟨Hok.out.cnt M.s.asked (by simp), Hok.out.cnt M.s.givenUp (by simp)⟩
    have Hnc : Hid ((0 ≤ (wentM M t).s.now ∧ (wentM M t).s.now ≤ 1000000000000000) ∧ (0 ≤ (wentM M t).s.asked ∧ (wentM M t).s.asked ≤ 1000000000000000) ∧ 0 ≤ (wentM M t).s.givenUp ∧ (wentM M t).s.givenUp ≤ 1000000000000000) := ⟨hn1, hc1⟩
    clear hn1 hc1 hmin hmt
    generalize (W1.setCell ⟨mb, 8, none⟩ (.int .i64 mt)).drew = W2 at *
    go_wp2_with fail
    refine (askForMissing_any ρ mb (wentM M t) sv wv SB WB _ HM2.out HSo.out Hnc.out.1 Hnc.out.2).mono ?_
    rintro e w3 ⟨ov, ρ', SB', rfl, hT⟩
    have HT : Hid (TickRel W2 ρ mb sv wv WB (askAll (wentM M t) M.sds.length) ov w3 ρ' SB') := hT
    obtain ⟨ao, co, rfl⟩ := rowA_shape hT.row
    clear hT
    go_wp2
    go_ret2
    rw [HP.out]
    exact ⟨_, rfl, ρ', _, _, _, _, HT.out.md, HV2.out.trans HT.out.mv, row_mono HT.out.row HV2.out.2.size, HT.out.r0⟩
  · rw [decide_eq_false ht]
    have HP : Hid (tickM M t = (M, [], 2)) := if_neg ht
    clear ht
    go_wp2
    go_ret2
    rw [HP.out]
    exact ⟨_, rfl, MovedT.none H.out (Mv.refl _ _)⟩

end Go.Proofs.Ytdjhhnolcafkiaa
