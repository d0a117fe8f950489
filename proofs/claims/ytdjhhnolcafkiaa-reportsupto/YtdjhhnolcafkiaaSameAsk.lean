/- menderlaw.sameAskings: two lists that hold the same. -/
import Derived.Test.YtdjhhnolcafkiaaSameNums
import Derived.Test.YtdjhhnolcafkiaaRep
import Derived.Deep.RegionHeld
import Derived.Deep.QuietTactic
import Derived.BigQuiet
import Derived.Outline
namespace Go.Proofs.Ytdjhhnolcafkiaa
open Go.RowKit
namespace Pk

/-- the cells of an asking in a list -/
theorem OwnAsks.at {W : World} {base n cap : Nat} {ao : Option Addr} {xs : List Ask1} (h : OwnAsks W base (.slice ao n cap) xs) (k : Nat) (hk : k < xs.length) :
    ∃ g, ao = some ⟨g, 0, none⟩ ∧ g < W.heap.size ∧ W.cell? ⟨g, k * 3, none⟩ = some (.int .i64 (xs[k]).a) ∧ W.cell? ⟨g, k * 3 + 1, none⟩ = some (.int .i64 (xs[k]).b) ∧ W.cell? ⟨g, k * 3 + 2, none⟩ = some (xs[k]).v ∧ OwnInts W base (xs[k]).v (xs[k]).l := by
  obtain ⟨a', c', e⟩ := rowA_shape h.row
  simp only [Value.slice.injEq] at e
  obtain ⟨rfl, hn, rfl⟩ := e
  have hr := h.row
  rw [hn] at hr
  obtain ⟨g, rfl⟩ := rowA_some hr (by omega)
  obtain ⟨f0, f1⟩ := flatA_at0 xs k hk
  have f2 := flatA_at xs k hk
  exact ⟨g, rfl, (hr.lt g rfl).2, (hr.cellAt (k * 3) (by omega)).trans f0, (hr.cellAt (k * 3 + 1) (by omega)).trans f1, (hr.cellAt (k * 3 + 2) (by omega)).trans f2, (h.each k _ (List.getElem?_eq_getElem hk)).1⟩

theorem mapA_at {xs ys : List Ask1} (h : mapA xs = mapA ys) : xs.length = ys.length ∧ ∀ k (h1 : k < xs.length) (h2 : k < ys.length), (xs[k]).a = (ys[k]).a ∧ (xs[k]).b = (ys[k]).b ∧ (xs[k]).l = (ys[k]).l := by
  unfold mapA at h
  have hl : xs.length = ys.length := by simpa using congrArg List.length h
  refine ⟨hl, fun k h1 h2 => ?_⟩
  have := List.getElem_of_eq h (i := k) (by simpa using h1)
  simpa using this

theorem OwnAsks.drewN {W : World} {base : Nat} {lv : Value} {xs : List Ask1} (h : OwnAsks W base lv xs) (n : Nat) : OwnAsks (W.drewN n) base lv xs :=
  ⟨rowA_chg (Chg.ofBelow (T := fun _ => False) (below_drewN (Below.refl _ _) n)) h.row (fun _ _ e => e), fun i x hx => ⟨(h.each i x hx).1.below (below_drewN (Below.refl _ _) n), (h.each i x hx).2⟩, h.apart, h.out⟩

end Pk
open Pk

set_option maxRecDepth 20000 in
set_option maxHeartbeats 4000000 in
theorem sameAskings_any (B1 B2 : Nat) (v1 v2 : Value) (xs ys : List Ask1) (w : World) (h1 : OwnAsks w B1 v1 xs) (h2 : OwnAsks w B2 v2 ys) (hm : mapA xs = mapA ys) (hl : xs.length ≤ 400) :
    Calls Try.prog 44 #[v1, v2] w fun e w' => e = .returned (.bool true) ∧ ∃ n, w' = w.drewN n := by
  obtain ⟨hll, hat⟩ := mapA_at hm
  obtain ⟨a1, c1, rfl⟩ := rowA_shape h1.row
  obtain ⟨a2, c2, rfl⟩ := rowA_shape h2.row
  rw [← hll] at h2 ⊢
  have H1 : Hid (OwnAsks w B1 (.slice a1 xs.length c1) xs) := h1
  have H2 : Hid (OwnAsks w B2 (.slice a2 xs.length c2) ys) := h2
  have Hat : Hid (∀ k (h1 : k < xs.length) (h2 : k < ys.length), (xs[k]).a = (ys[k]).a ∧ (xs[k]).b = (ys[k]).b ∧ (xs[k]).l = (ys[k]).l) := hat
  have Hll : Hid (xs.length = ys.length) := hll
  clear h1 h2 hm hll hat
  go_enter Try.func44, Try.ntmps44
  go_wp2
  go_loopw [5, 6] (fun s5 s6 wr => ∃ (k q : Nat), k ≤ xs.length ∧ s5 = .bool true ∧ s6 = .int .i64 k ∧ wr = w.drewN q) (fun _ s6 _ => xs.length - (intOf s6).toNat)
  case atStart => exact ⟨0, 0, Nat.zero_le _, by simp, rfl, rfl⟩
  case round =>
    obtain ⟨k, q, hk, rfl, rfl, rfl⟩ := hrel
    by_cases hlt : k < xs.length
    · have hlt' : (k : Int) < xs.length := by omega
      obtain ⟨g1, rfl, hg1, x0, x1, x2, xo⟩ := H1.out.at k hlt
      obtain ⟨g2, rfl, hg2, y0, y1, y2, yo⟩ := H2.out.at k (by have := Hll.out; omega)
      obtain ⟨e1, e2, e3⟩ := Hat.out k hlt (by have := Hll.out; omega)
      rw [← e1] at y0
      rw [← e2] at y1
      rw [← e3] at yo
      have hbl := (H1.out.each k _ (List.getElem?_eq_getElem hlt)).2
      generalize (xs[k]).a = sa at *
      generalize (xs[k]).b = sb at *
      generalize (xs[k]).l = li at *
      generalize (xs[k]).v = va at *
      generalize (ys[k]'_).v = vb at *
      obtain ⟨b1, d1, rfl⟩ := xo.shape
      obtain ⟨b2, d2, rfl⟩ := yo.shape
      have I1 : Hid (∀ n, IsInts w.heap.size (w.drewN n) (.slice b1 li.length d1) li) := fun n => xo.isInts.carry (below_drewN (Below.refl _ _) n)
      have I2 : Hid (∀ n, IsInts w.heap.size (w.drewN n) (.slice b2 li.length d2) li) := fun n => yo.isInts.carry (below_drewN (Below.refl _ _) n)
      clear xo yo e1 e2 e3
      go_wp2
      refine wp_region_noPanic ?_
      refine wp_region_held_drew (S := fun W => W.cell? ⟨g1, k * 3 + 2, none⟩ = some (.slice b1 li.length d1) ∧ W.cell? ⟨g2, k * 3 + 2, none⟩ = some (.slice b2 li.length d2)) (by kernel_rfl) (by simp only [World.drew]; exact ⟨x2, y2⟩) (fun hHeld => ?_)
      refine wpAnyH_take (i := 0) (v := ?vt1) rfl (by kernel_rfl) (by kernel_rfl) (by kernel_rfl) (fun _ _ _ h => h) (Or.inl ⟨by rfl, ?yt1⟩) hHeld ?rt1
      case yt1 => ((intro W hSw; obtain ⟨hS0, hS1⟩ := hSw; go_simp) <;> with_reducible rfl)
      try simp only [Act.put]
      try simp only [List.getElem_toArray]
      try simp only [List.getElem_cons_succ]
      try simp only [List.getElem_cons_zero]
      try simp only [List.setIfInBounds_toArray]
      try simp only [List.set_cons_succ]
      try simp only [List.set_cons_zero]
      refine wpAnyH_take (i := 1) (v := ?vt2) rfl (by kernel_rfl) (by kernel_rfl) (by kernel_rfl) (fun _ _ _ h => h) (Or.inl ⟨by rfl, ?yt2⟩) hHeld ?rt2
      case yt2 => ((intro W hSw; obtain ⟨hS0, hS1⟩ := hSw; go_simp) <;> with_reducible rfl)
      try simp only [Act.put]
      try simp only [List.getElem_toArray]
      try simp only [List.getElem_cons_succ]
      try simp only [List.getElem_cons_zero]
      try simp only [List.setIfInBounds_toArray]
      try simp only [List.set_cons_succ]
      try simp only [List.set_cons_zero]
      refine wpAnyH_take (i := 2) (v := ?vt3) rfl (by kernel_rfl) (by kernel_rfl) (by kernel_rfl) (fun _ _ _ h => h) (Or.inl ⟨by rfl, ?yt3⟩) hHeld ?rt3
      case yt3 => ((intro W hSw; obtain ⟨hS0, hS1⟩ := hSw; go_simp) <;> with_reducible rfl)
      try simp only [Act.put]
      try simp only [List.getElem_toArray]
      try simp only [List.getElem_cons_succ]
      try simp only [List.getElem_cons_zero]
      try simp only [List.setIfInBounds_toArray]
      try simp only [List.set_cons_succ]
      try simp only [List.set_cons_zero]
      refine wpAnyH_take (i := 3) (v := ?vt4) rfl (by kernel_rfl) (by kernel_rfl) (by kernel_rfl) (fun _ _ _ h => h) (Or.inl ⟨by rfl, ?yt4⟩) hHeld ?rt4
      case yt4 => ((intro W hSw; obtain ⟨hS0, hS1⟩ := hSw; go_simp) <;> with_reducible rfl)
      try simp only [Act.put]
      try simp only [List.getElem_toArray]
      try simp only [List.getElem_cons_succ]
      try simp only [List.getElem_cons_zero]
      try simp only [List.setIfInBounds_toArray]
      try simp only [List.set_cons_succ]
      try simp only [List.set_cons_zero]
      refine wpAnyH_take (i := 4) (v := ?vt5) rfl (by kernel_rfl) (by kernel_rfl) (by kernel_rfl) (fun _ _ _ h => h) (Or.inl ⟨by rfl, ?yt5⟩) hHeld ?rt5
      case yt5 => ((intro W hSw; obtain ⟨hS0, hS1⟩ := hSw; go_simp) <;> with_reducible rfl)
      try simp only [Act.put]
      try simp only [List.getElem_toArray]
      try simp only [List.getElem_cons_succ]
      try simp only [List.getElem_cons_zero]
      try simp only [List.setIfInBounds_toArray]
      try simp only [List.set_cons_succ]
      try simp only [List.set_cons_zero]
      refine wpAnyH_take (i := 5) (v := ?vt6) rfl (by kernel_rfl) (by kernel_rfl) (by kernel_rfl) (fun _ _ _ h => h) (Or.inl ⟨by rfl, ?yt6⟩) hHeld ?rt6
      case yt6 => ((intro W hSw; obtain ⟨hS0, hS1⟩ := hSw; go_simp) <;> with_reducible rfl)
      try simp only [Act.put]
      try simp only [List.getElem_toArray]
      try simp only [List.getElem_cons_succ]
      try simp only [List.getElem_cons_zero]
      try simp only [List.setIfInBounds_toArray]
      try simp only [List.set_cons_succ]
      try simp only [List.set_cons_zero]
      refine wpAnyH_take (i := 6) (v := ?vt7) rfl (by kernel_rfl) (by kernel_rfl) (by kernel_rfl) (fun _ _ _ h => h) (Or.inl ⟨by rfl, ?yt7⟩) hHeld ?rt7
      case yt7 => ((intro W hSw; obtain ⟨hS0, hS1⟩ := hSw; go_simp) <;> with_reducible rfl)
      try simp only [Act.put]
      try simp only [List.getElem_toArray]
      try simp only [List.getElem_cons_succ]
      try simp only [List.getElem_cons_zero]
      try simp only [List.setIfInBounds_toArray]
      try simp only [List.set_cons_succ]
      try simp only [List.set_cons_zero]
      refine wpAnyH_take (i := 7) (v := ?vt8) rfl (by kernel_rfl) (by kernel_rfl) (by kernel_rfl) (fun _ _ _ h => h) (Or.inl ⟨by rfl, ?yt8⟩) hHeld ?rt8
      case yt8 => ((intro W hSw; obtain ⟨hS0, hS1⟩ := hSw; go_simp) <;> with_reducible rfl)
      try simp only [Act.put]
      try simp only [List.getElem_toArray]
      try simp only [List.getElem_cons_succ]
      try simp only [List.getElem_cons_zero]
      try simp only [List.setIfInBounds_toArray]
      try simp only [List.set_cons_succ]
      try simp only [List.set_cons_zero]
      refine wpAnyH_take (i := 8) (v := ?vt9) rfl (by kernel_rfl) (by kernel_rfl) (by kernel_rfl) (fun _ _ _ h => h) (Or.inl ⟨by rfl, ?yt9⟩) hHeld ?rt9
      case yt9 => ((intro W hSw; obtain ⟨hS0, hS1⟩ := hSw; go_simp) <;> with_reducible rfl)
      try simp only [Act.put]
      try simp only [List.getElem_toArray]
      try simp only [List.getElem_cons_succ]
      try simp only [List.getElem_cons_zero]
      try simp only [List.setIfInBounds_toArray]
      try simp only [List.set_cons_succ]
      try simp only [List.set_cons_zero]
      refine wpAnyH_take (i := 9) (v := ?vt10) rfl (by kernel_rfl) (by kernel_rfl) (by kernel_rfl) (fun _ _ _ h => h) (Or.inl ⟨by rfl, ?yt10⟩) hHeld ?rt10
      case yt10 => ((intro W hSw; obtain ⟨hS0, hS1⟩ := hSw; go_simp) <;> with_reducible rfl)
      try simp only [Act.put]
      try simp only [List.getElem_toArray]
      try simp only [List.getElem_cons_succ]
      try simp only [List.getElem_cons_zero]
      try simp only [List.setIfInBounds_toArray]
      try simp only [List.set_cons_succ]
      try simp only [List.set_cons_zero]
      refine wpAnyH_ready (rs := [10]) (by kernel_rfl) (by simp) ?_
      refine AllReadyH.cons rfl (fun K hK => ?_) AllReadyH.nil
      go_simp
      refine (sameNumbers_any w.heap.size _ _ li li _ (I1.out _) (I2.out _) (by omega) (by omega)).mono ?_
      rintro e w1 ⟨rfl, n, rfl⟩
      rw [decide_eq_true rfl]
      go_wp2_with fail
      refine hK.out _ _ (by simp only [World.cell?_drewN]; exact ⟨x2, y2⟩) (fun hHeld => ?_)
      clear hK K
      refine wpAnyH_take (i := 11) (v := ?vt11) rfl (by kernel_rfl) (by kernel_rfl) (by kernel_rfl) (fun _ _ _ h => h) (Or.inl ⟨by rfl, ?yt11⟩) hHeld ?rt11
      case yt11 => ((intro W hSw; obtain ⟨hS0, hS1⟩ := hSw; go_simp) <;> with_reducible rfl)
      try simp only [Act.put]
      try simp only [List.getElem_toArray]
      try simp only [List.getElem_cons_succ]
      try simp only [List.getElem_cons_zero]
      try simp only [List.setIfInBounds_toArray]
      try simp only [List.set_cons_succ]
      try simp only [List.set_cons_zero]
      refine wpAnyH_done (by kernel_rfl) ?_ _
      refine NoPanic.normal ?_
      go_wp2
      go_quiet (fail)
      go_wp2
      go_roundw
      case rel => exact ⟨k + 1, _, by omega, rfl, by go_num, rfl⟩
      case measure => simp [intOf]; omega
    · have hlt' : ¬ (k : Int) < xs.length := by omega
      go_wp2
      go_ret
      exact ⟨rfl, _, rfl⟩

end Go.Proofs.Ytdjhhnolcafkiaa
