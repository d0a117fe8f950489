/- sendAgain. -/
import Derived.Test.YtdjhhnolcafkiaaG12
import Derived.Test.YtdjhhnolcafkiaaG09
import Derived.Test.YtdjhhnolcafkiaaG11
import Derived.Test.YtdjhhnolcafkiaaG10
namespace Go.Proofs.Ytdjhhnolcafkiaa
open Go.RowKit
namespace Pk
def askL (xs : List Ask1) : List (Int × List Int) := xs.map fun x => (x.b, x.l)
def SgS (mb : Nat) (now delay tokens : Int) (W : World) : Prop := W.cell? ⟨mb, 7, none⟩ = some (.int .i64 now) ∧ W.cell? ⟨mb, 2, none⟩ = some (.int .i64 delay) ∧ W.cell? ⟨mb, 8, none⟩ = some (.int .i64 tokens)
theorem SgS.chg {T : Nat → Prop} {W W' : World} {mb : Nat} {now delay tokens : Int} (h : SgS mb now delay tokens W) (hc : Chg T W W') (hn : ¬ T mb) : SgS mb now delay tokens W' := ⟨hc.cell h.1 hn, hc.cell h.2.1 hn, hc.cell h.2.2 hn⟩
end Pk
open Pk

set_option maxRecDepth 20000 in
set_option maxHeartbeats 8000000 in
theorem sendAgain_any (ρ : Nat → Nat) (mb : Nat) (M : Md) (sv wv : Value) (SB WB : List (Nat × Value)) (i : Nat) (p : Nat × Value) (src id : Int) (B : Nat) (lv : Value) (xs : List Ask1) (w : World) (h : MdAt w ρ mb M sv wv SB WB) (hp : WB[i]? = some p) (ok : SOk i 0 src id (M, [])) (ha : OwnAsks w B lv xs) (hB : ∀ b, B ≤ b → ρ b = 0) (hn : xs.length ≤ 100000) :
    Calls Try.prog 96 #[.pointer (some ⟨mb, 0, none⟩), ptr p.1, lv] w fun e w' => ∃ ov, e = .returned ov ∧ SendRel w ρ mb sv wv SB WB (asksM i src (askL xs) (M, [])) ov w' := by
  obtain ⟨al, cl, rfl⟩ := rowA_shape ha.row
  have HA : Hid (OwnAsks w B (.slice al xs.length cl) xs) := ha
  have HBz : Hid (∀ b, B ≤ b → ρ b = 0) := hB
  have Hp : Hid (WB[i]? = some p) := hp
  have HR0 : Hid (SendRel w ρ mb sv wv SB WB (asksM i src ((askL xs).take 0) (M, [])) (.slice none 0 0) w) := ⟨h, World.ownsRow_nil _ _ _ _, Chg.refl _ _, h.hi⟩
  have Hok : Hid (SOk i 0 src id (M, [])) := ok
  have hmb := h.lt
  have Hmr : Hid (ρ mb = 1) := h.rm
  obtain ⟨i0, hi0, hz0, hz1, hz2⟩ := info_parts infoT
  have Hi : Hid (Try.prog.info? 9 = some i0 ∧ i0.zero = some (.string ⟨#[]⟩) ∧ i0.size = 1 ∧ i0.bytes = 16) := ⟨hi0, hz0, hz1, hz2⟩
  clear h ha hB hp ok hi0 hz0 hz1 hz2
  unfold ptr
  go_enter Try.func96, Try.ntmps96
  go_wp2
  go_loopw [7, 16] (fun s7 s16 wr => ∃ k : Nat, k ≤ xs.length ∧ s16 = .int .i64 k ∧ SendRel w ρ mb sv wv SB WB (asksM i src ((askL xs).take k) (M, [])) s7 wr ∧ SOk i (6400 * k) src id (asksM i src ((askL xs).take k) (M, []))) (fun _ s16 _ => xs.length - (intOf s16).toNat)
  case atStart => exact ⟨0, Nat.zero_le _, rfl, HR0.out, Hok.out⟩
  case round =>
    obtain ⟨k, hk, rfl, hR, hO⟩ := hrel
    by_cases hlt : k < xs.length
    · have hlt' : (k : Int) < xs.length := by omega
      have hxk : xs[k]? = some xs[k] := List.getElem?_eq_getElem hlt
      obtain ⟨X, hX⟩ : ∃ X, xs[k] = X := ⟨_, rfl⟩
      rw [hX] at hxk
      have HT := asksM_take i src (askL xs) (M, []) k (X.b, X.l) (by unfold askL; rw [List.getElem?_map, hxk]; rfl)
      obtain ⟨g, rfl⟩ := rowA_some HA.out.row (by omega)
      have hgz : ρ g = 0 := HBz.out g (HA.out.row.lt g rfl).1
      have dd : ∀ j, j < 3 → wr.cell? ⟨g, k * 3 + j, none⟩ = [.int .i64 X.a, .int .i64 X.b, X.v][j]? := fun j hj => by
        have h1 := HA.out.row.cellAt (k * 3 + j) (by omega)
        have h2 : (flatA xs)[k * 3 + j]? = [.int .i64 X.a, .int .i64 X.b, X.v][j]? := by
          unfold flatA
          rw [flat_at (k := 3) (fun _ => rfl) xs k j hlt hj, hX]
        rw [h2] at h1
        have hj' : j < [.int .i64 X.a, .int .i64 X.b, X.v].length := by simpa using hj
        rw [List.getElem?_eq_getElem hj'] at h1 ⊢
        exact hR.chg.cell h1 (fun e => e hgz)
      have d0 := dd 0 (by omega)
      have d1 := dd 1 (by omega)
      have d2 := dd 2 (by omega)
      simp only [List.getElem?_cons_zero, List.getElem?_cons_succ, Nat.add_zero] at d0 d1 d2
      obtain ⟨hXo, hXl⟩ := HA.out.each k X hxk
      obtain ⟨av, cv, hv⟩ := hXo.shape
      rw [hv] at d2 hXo
      have HXz : Hid (∀ b, (Value.slice av X.l.length cv).ownBlock = some b → ρ b = 0) := fun b hb => HBz.out b (hXo.lt b hb).1
      have HXo : Hid (OwnInts w B (.slice av X.l.length cv) X.l) := hXo
      obtain ⟨xa, xb, xv, xl⟩ := X
      simp only at d0 d1 d2 HT hXl HXz HXo
      obtain ⟨x, hx, hko, h2, hkl, hsrc, hid⟩ := hO.wnt
      obtain ⟨ov, oc, rfl⟩ := rowA_shape hR.row
      generalize hAk : asksM i src ((askL xs).take k) (M, []) = A at *
      have hWn := (hR.md.wa i p x Hp.out hx).1
      have HR : Hid (SendRel w ρ mb sv wv SB WB A (.slice ov A.2.length oc) wr) := hR
      have HO : Hid (SOk i (6400 * k) src id A) := hO
      have HTk : Hid (asksM i src ((askL xs).take (k + 1)) (M, []) = if xb = src then numsM i xl A else A) := HT
      have c0 : wr.cell? ⟨p.1, 0, none⟩ = some (.int .i64 src) := by rw [← hsrc]; exact hWn.c0
      have hpl : p.1 < wr.heap.size := hWn.lt
      have hws : w.heap.size ≤ wr.heap.size := hR.chg.size
      clear dd hX hxk HT hv hXo hR hO hx hko h2 hkl hsrc hid hWn hAk HR0
      have HRw : Hid (SendRel w ρ mb sv wv SB WB A (.slice ov A.2.length oc) (wr.alloc (.cells #[.int .i64 xa, .int .i64 xb, .slice av xl.length cv] 40)).drew) := (HR.out.below ((Below.refl _ _).alloc (Nat.le_refl _) _)).below (Below.refl _ _).drew
      have e1 : (wr.alloc (.cells #[.int .i64 xa, .int .i64 xb, .slice av xl.length cv] 40)).cell? ⟨wr.heap.size, 1, none⟩ = some (.int .i64 xb) := cell_new _ _ _ 1
      have e2 : (wr.alloc (.cells #[.int .i64 xa, .int .i64 xb, .slice av xl.length cv] 40)).cell? ⟨wr.heap.size, 2, none⟩ = some (.slice av xl.length cv) := cell_new _ _ _ 2
      have e0 : (wr.alloc (.cells #[.int .i64 xa, .int .i64 xb, .slice av xl.length cv] 40)).cell? ⟨p.1, 0, none⟩ = some (.int .i64 src) := (World.cell?_alloc_lt _ _ _ hpl).trans c0
      have hbz : ρ wr.heap.size = 0 := HR.out.hi _ hws
      go_wp2
      generalize wr.alloc (.cells #[.int .i64 xa, .int .i64 xb, .slice av xl.length cv] 40) = W0 at *
      generalize wr.heap.size = bx at *
      refine wp_region_noPanic ?_
      refine wp_region_held_drew (S := fun W => W.cell? ⟨bx, 1, none⟩ = some (.int .i64 xb) ∧ W.cell? ⟨p.1, 0, none⟩ = some (.int .i64 src)) (by kernel_rfl) ⟨e1, e0⟩ (fun hHeld => ?_)
      refine wpAnyH_take (i := 0) (v := ?vt1) rfl (by kernel_rfl) (by kernel_rfl) (by kernel_rfl) (fun _ _ _ h => h) (Or.inl ⟨by rfl, ?yt1⟩) hHeld ?rt1
      case yt1 => ((intro W hSw; obtain ⟨hS0, hS1⟩ := hSw; go_simp) <;> with_reducible rfl)
      try simp only [Act.put]
      try simp only [List.getElem_toArray]
      try simp only [List.getElem_cons_succ]
      try simp only [List.getElem_cons_zero]
      try simp only [List.setIfInBounds_toArray]
      try simp only [List.set_cons_succ]
      try simp only [List.set_cons_zero]
      refine wpAnyH_take (i := 1) (v := ?vt2) rfl (by kernel_rfl) (by kernel_rfl) (by kernel_rfl) (fun _ _ _ h => h) (Or.inl ⟨by rfl, ?yt2⟩) hHeld ?rt2
      case yt2 => ((intro W hSw; obtain ⟨hS0, hS1⟩ := hSw; go_simp) <;> with_reducible rfl)
      try simp only [Act.put]
      try simp only [List.getElem_toArray]
      try simp only [List.getElem_cons_succ]
      try simp only [List.getElem_cons_zero]
      try simp only [List.setIfInBounds_toArray]
      try simp only [List.set_cons_succ]
      try simp only [List.set_cons_zero]
      refine wpAnyH_take (i := 2) (v := ?vt3) rfl (by kernel_rfl) (by kernel_rfl) (by kernel_rfl) (fun _ _ _ h => h) (Or.inl ⟨by rfl, ?yt3⟩) hHeld ?rt3
      case yt3 => ((intro W hSw; obtain ⟨hS0, hS1⟩ := hSw; go_simp) <;> with_reducible rfl)
      try simp only [Act.put]
      try simp only [List.getElem_toArray]
      try simp only [List.getElem_cons_succ]
      try simp only [List.getElem_cons_zero]
      try simp only [List.setIfInBounds_toArray]
      try simp only [List.set_cons_succ]
      try simp only [List.set_cons_zero]
      refine wpAnyH_take (i := 3) (v := ?vt4) rfl (by kernel_rfl) (by kernel_rfl) (by kernel_rfl) (fun _ _ _ h => h) (Or.inl ⟨by rfl, ?yt4⟩) hHeld ?rt4
      case yt4 => ((intro W hSw; obtain ⟨hS0, hS1⟩ := hSw; go_simp) <;> with_reducible rfl)
      try simp only [Act.put]
      try simp only [List.getElem_toArray]
      try simp only [List.getElem_cons_succ]
      try simp only [List.getElem_cons_zero]
      try simp only [List.setIfInBounds_toArray]
      try simp only [List.set_cons_succ]
      try simp only [List.set_cons_zero]
      refine wpAnyH_take (i := 4) (v := ?vt5) rfl (by kernel_rfl) (by kernel_rfl) (by kernel_rfl) (fun _ _ _ h => h) (Or.inl ⟨by rfl, ?yt5⟩) hHeld ?rt5
      case yt5 => ((intro W hSw; obtain ⟨hS0, hS1⟩ := hSw; go_simp) <;> with_reducible rfl)
      try simp only [Act.put]
      try simp only [List.getElem_toArray]
      try simp only [List.getElem_cons_succ]
      try simp only [List.getElem_cons_zero]
      try simp only [List.setIfInBounds_toArray]
      try simp only [List.set_cons_succ]
      try simp only [List.set_cons_zero]
      refine wpAnyH_ready (rs := [5]) (by kernel_rfl) (by simp) ?_
      refine AllReadyH.cons rfl (fun K hK => ?_) AllReadyH.nil
      go_simp
      refine (sourceK_any p.1 src _ hHeld.2).mono ?_
      rintro e w1 ⟨rfl, hw1⟩
      rw [hw1]
      clear hw1 w1
      go_simp
      refine hK.out _ _ hHeld (fun hHeld => ?_)
      clear hK K
      try simp only [Act.put]
      try simp only [List.getElem_toArray]
      try simp only [List.getElem_cons_succ]
      try simp only [List.getElem_cons_zero]
      try simp only [List.setIfInBounds_toArray]
      try simp only [List.set_cons_succ]
      try simp only [List.set_cons_zero]
      refine wpAnyH_take (i := 6) (v := ?vt6) rfl (by kernel_rfl) (by kernel_rfl) (by kernel_rfl) (fun _ _ _ h => h) (Or.inl ⟨by rfl, ?yt6⟩) hHeld ?rt6
      case yt6 => ((intro W hSw; obtain ⟨hS0, hS1⟩ := hSw; go_simp) <;> with_reducible rfl)
      try simp only [Act.put]
      try simp only [List.getElem_toArray]
      try simp only [List.getElem_cons_succ]
      try simp only [List.getElem_cons_zero]
      try simp only [List.setIfInBounds_toArray]
      try simp only [List.set_cons_succ]
      try simp only [List.set_cons_zero]
      refine wpAnyH_done (by kernel_rfl) ?_ _
      refine NoPanic.normal ?_
      clear hHeld e1 e0 c0 d0 d1 d2
      replace e2 : W0.drew.cell? ⟨bx, 2, none⟩ = some (.slice av xl.length cv) := e2
      generalize W0.drew = W1 at *
      by_cases he : xb = src
      · have hne : (xb != src) = false := by simp [he]
        rw [hne]
        clear hne
        rw [if_pos he] at HTk
        clear he
        go_wp2
        clear e2
        go_loopw [7, 30] (fun s7 s30 wi => ∃ b : Nat, b ≤ xl.length ∧ s30 = .int .i64 b ∧ SendRel w ρ mb sv wv SB WB (numsM i (xl.take b) A) s7 wi ∧ SOk i (6400 * k + b) src id (numsM i (xl.take b) A)) (fun _ s30 _ => xl.length - (intOf s30).toNat)
        case atStart => exact ⟨0, Nat.zero_le _, rfl, HRw.out, HO.out⟩
        case round =>
          obtain ⟨b, hb, rfl, hR2, hO2⟩ := hrel
          obtain ⟨ov2, oc2, rfl⟩ := rowA_shape hR2.row
          by_cases hbl : b < xl.length
          · have hbl' : (b : Int) < xl.length := by omega
            have HT2 : Hid (numsM i (xl.take (b + 1)) A = stp i (numsM i (xl.take b) A) (xl.getD b 0)) := numsM_take i xl A b hbl
            obtain ⟨g5, rfl⟩ := rowA_some HXo.out (by omega)
            have d5 : wr.cell? ⟨g5, b, none⟩ = some (.int .i64 (xl.getD b 0)) := by
              have h1 := HXo.out.cellAt b (by omega)
              have h2 : (xl.map (Value.int .i64))[b]? = some (.int .i64 (xl.getD b 0)) := by simp [List.getD, hbl]
              rw [h2] at h1
              exact hR2.chg.cell h1 (fun e => e (HXz.out g5 rfl))
            have hu := u16_any (xl.getD b 0)
            obtain ⟨nb, hnb⟩ : ∃ nb, (xl.getD b 0 % 65536).toNat = nb := ⟨_, rfl⟩
            rw [hnb] at hu
            have HSt : Hid (stp i (numsM i (xl.take b) A) (xl.getD b 0) = ((stepM (numsM i (xl.take b) A).1 i nb).1, (numsM i (xl.take b) A).2 ++ (stepM (numsM i (xl.take b) A).1 i nb).2.toList)) := by show _ = _; unfold stp; rw [hnb]
            have HO3 : Hid (SOk i (6400 * k + b + 1) src id (stp i (numsM i (xl.take b) A) (xl.getD b 0))) := hO2.step _
            generalize xl.getD b 0 = nz at *
            generalize numsM i (xl.take b) A = A2 at *
            obtain ⟨M2, L2⟩ := A2
            obtain ⟨x, hx, hko, hx2, hkl, hsrc, hid⟩ := hO2.wnt
            simp only at hx
            have hWn := (hR2.md.wa i p x Hp.out hx)
            have HR2 : Hid (SendRel w ρ mb sv wv SB WB (M2, L2) (.slice ov2 L2.length oc2) wr) := hR2
            have HS : Hid (SgS mb M2.s.now M2.c.delay M2.s.tokens wr) := ⟨hR2.md.k 7 _ rfl, hR2.md.k 2 _ rfl, hR2.md.k 8 _ rfl⟩
            have HWn : Hid (WnAt (fun b => ρ b = 4) wr.drew (p.1 + 1) p.1 p.2 x) := hWn.1.below (Below.refl _ _).drew
            have HRd : Hid (SendRel w ρ mb sv wv SB WB (M2, L2) (.slice ov2 L2.length oc2) wr.drew) := hR2.below (Below.refl _ _).drew
            have HC4 : Hid (∀ b, ρ b = 4 → b < wr.drew.heap.size) := fun b hb => by
              rcases Nat.lt_or_ge b wr.heap.size with h | h
              · exact h
              · have := hR2.md.hi b h
                omega
            have HU0 : Hid (∀ b, (b = p.1 ∨ p.2.ownBlock = some b) → b ≠ mb) := fun b hb e => by
              have := Hmr.out
              rcases hb with e' | e'
              · rw [← e', e] at hWn; omega
              · have := hWn.2.2 b e'; rw [e] at this; omega
            have HOf : Hid (KOk x ∧ x.second < 65536 ∧ x.kept.length ≤ 90000) := ⟨hko, hx2, hkl⟩
            have HOO : Hid (SOk i (6400 * k + b) src id (M2, L2)) := hO2
            have Hx : Hid (M2.wns[i]? = some x) := hx
            have hLl : L2.length ≤ 6400 * k + b := hO2.len
            clear hR2 hO2 hx hko hx2 hkl hsrc hid hWn hnb
            go_wp2
            refine wp_region_noPanic ?_
            refine wp_region_held_drew (S := SgS mb M2.s.now M2.c.delay M2.s.tokens) (by kernel_rfl) HS.out (fun hHeld => ?_)
            refine wpAnyH_take (i := 0) (v := ?vt7) rfl (by kernel_rfl) (by kernel_rfl) (by kernel_rfl) (fun _ _ _ h => h) (Or.inl ⟨by rfl, ?yt7⟩) hHeld ?rt7
            case yt7 => ((intro W hSw; obtain ⟨hS0, hS1, hS2⟩ := hSw; go_simp) <;> with_reducible rfl)
            try simp only [Act.put]
            try simp only [List.getElem_toArray]
            try simp only [List.getElem_cons_succ]
            try simp only [List.getElem_cons_zero]
            try simp only [List.setIfInBounds_toArray]
            try simp only [List.set_cons_succ]
            try simp only [List.set_cons_zero]
            refine wpAnyH_take (i := 1) (v := ?vt8) rfl (by kernel_rfl) (by kernel_rfl) (by kernel_rfl) (fun _ _ _ h => h) (Or.inl ⟨by rfl, ?yt8⟩) hHeld ?rt8
            case yt8 => ((intro W hSw; obtain ⟨hS0, hS1, hS2⟩ := hSw; go_simp) <;> with_reducible rfl)
            try simp only [Act.put]
            try simp only [List.getElem_toArray]
            try simp only [List.getElem_cons_succ]
            try simp only [List.getElem_cons_zero]
            try simp only [List.setIfInBounds_toArray]
            try simp only [List.set_cons_succ]
            try simp only [List.set_cons_zero]
            refine wpAnyH_take (i := 2) (v := ?vt9) rfl (by kernel_rfl) (by kernel_rfl) (by kernel_rfl) (fun _ _ _ h => h) (Or.inl ⟨by rfl, ?yt9⟩) hHeld ?rt9
            case yt9 => ((intro W hSw; obtain ⟨hS0, hS1, hS2⟩ := hSw; go_simp) <;> with_reducible rfl)
            try simp only [Act.put]
            try simp only [List.getElem_toArray]
            try simp only [List.getElem_cons_succ]
            try simp only [List.getElem_cons_zero]
            try simp only [List.setIfInBounds_toArray]
            try simp only [List.set_cons_succ]
            try simp only [List.set_cons_zero]
            refine wpAnyH_take (i := 3) (v := ?vt10) rfl (by kernel_rfl) (by kernel_rfl) (by kernel_rfl) (fun _ _ _ h => h) (Or.inl ⟨by rfl, ?yt10⟩) hHeld ?rt10
            case yt10 => ((intro W hSw; obtain ⟨hS0, hS1, hS2⟩ := hSw; go_simp) <;> with_reducible rfl)
            try simp only [Act.put]
            try simp only [List.getElem_toArray]
            try simp only [List.getElem_cons_succ]
            try simp only [List.getElem_cons_zero]
            try simp only [List.setIfInBounds_toArray]
            try simp only [List.set_cons_succ]
            try simp only [List.set_cons_zero]
            refine wpAnyH_take (i := 4) (v := ?vt11) rfl (by kernel_rfl) (by kernel_rfl) (by kernel_rfl) (fun _ _ _ h => h) (Or.inl ⟨by rfl, ?yt11⟩) hHeld ?rt11
            case yt11 => ((intro W hSw; obtain ⟨hS0, hS1, hS2⟩ := hSw; go_simp) <;> with_reducible rfl)
            try simp only [Act.put]
            try simp only [List.getElem_toArray]
            try simp only [List.getElem_cons_succ]
            try simp only [List.getElem_cons_zero]
            try simp only [List.setIfInBounds_toArray]
            try simp only [List.set_cons_succ]
            try simp only [List.set_cons_zero]
            refine wpAnyH_take (i := 5) (v := ?vt12) rfl (by kernel_rfl) (by kernel_rfl) (by kernel_rfl) (fun _ _ _ h => h) (Or.inl ⟨by rfl, ?yt12⟩) hHeld ?rt12
            case yt12 => ((intro W hSw; obtain ⟨hS0, hS1, hS2⟩ := hSw; go_simp) <;> with_reducible rfl)
            try simp only [Act.put]
            try simp only [List.getElem_toArray]
            try simp only [List.getElem_cons_succ]
            try simp only [List.getElem_cons_zero]
            try simp only [List.setIfInBounds_toArray]
            try simp only [List.set_cons_succ]
            try simp only [List.set_cons_zero]
            refine wpAnyH_take (i := 6) (v := ?vt13) rfl (by kernel_rfl) (by kernel_rfl) (by kernel_rfl) (fun _ _ _ h => h) (Or.inl ⟨by rfl, ?yt13⟩) hHeld ?rt13
            case yt13 => ((intro W hSw; obtain ⟨hS0, hS1, hS2⟩ := hSw; go_simp) <;> with_reducible rfl)
            try simp only [Act.put]
            try simp only [List.getElem_toArray]
            try simp only [List.getElem_cons_succ]
            try simp only [List.getElem_cons_zero]
            try simp only [List.setIfInBounds_toArray]
            try simp only [List.set_cons_succ]
            try simp only [List.set_cons_zero]
            refine wpAnyH_take (i := 7) (v := ?vt14) rfl (by kernel_rfl) (by kernel_rfl) (by kernel_rfl) (fun _ _ _ h => h) (Or.inl ⟨by rfl, ?yt14⟩) hHeld ?rt14
            case yt14 => ((intro W hSw; obtain ⟨hS0, hS1, hS2⟩ := hSw; go_simp) <;> with_reducible rfl)
            try simp only [Act.put]
            try simp only [List.getElem_toArray]
            try simp only [List.getElem_cons_succ]
            try simp only [List.getElem_cons_zero]
            try simp only [List.setIfInBounds_toArray]
            try simp only [List.set_cons_succ]
            try simp only [List.set_cons_zero]
            refine wpAnyH_take (i := 8) (v := ?vt15) rfl (by kernel_rfl) (by kernel_rfl) (by kernel_rfl) (fun _ _ _ h => h) (Or.inl ⟨by rfl, ?yt15⟩) hHeld ?rt15
            case yt15 => ((intro W hSw; obtain ⟨hS0, hS1, hS2⟩ := hSw; go_simp) <;> with_reducible rfl)
            try simp only [Act.put]
            try simp only [List.getElem_toArray]
            try simp only [List.getElem_cons_succ]
            try simp only [List.getElem_cons_zero]
            try simp only [List.setIfInBounds_toArray]
            try simp only [List.set_cons_succ]
            try simp only [List.set_cons_zero]
            refine wpAnyH_take (i := 9) (v := ?vt16) rfl (by kernel_rfl) (by kernel_rfl) (by kernel_rfl) (fun _ _ _ h => h) (Or.inl ⟨by rfl, ?yt16⟩) hHeld ?rt16
            case yt16 => ((intro W hSw; obtain ⟨hS0, hS1, hS2⟩ := hSw; go_simp) <;> with_reducible rfl)
            try simp only [Act.put]
            try simp only [List.getElem_toArray]
            try simp only [List.getElem_cons_succ]
            try simp only [List.getElem_cons_zero]
            try simp only [List.setIfInBounds_toArray]
            try simp only [List.set_cons_succ]
            try simp only [List.set_cons_zero]
            refine wpAnyH_take (i := 10) (v := ?vt17) rfl (by kernel_rfl) (by kernel_rfl) (by kernel_rfl) (fun _ _ _ h => h) (Or.inl ⟨by rfl, ?yt17⟩) hHeld ?rt17
            case yt17 => ((intro W hSw; obtain ⟨hS0, hS1, hS2⟩ := hSw; go_simp) <;> with_reducible rfl)
            try simp only [Act.put]
            try simp only [List.getElem_toArray]
            try simp only [List.getElem_cons_succ]
            try simp only [List.getElem_cons_zero]
            try simp only [List.setIfInBounds_toArray]
            try simp only [List.set_cons_succ]
            try simp only [List.set_cons_zero]
            refine wpAnyH_take (i := 11) (v := ?vt18) rfl (by kernel_rfl) (by kernel_rfl) (by kernel_rfl) (fun _ _ _ h => h) (Or.inl ⟨by rfl, ?yt18⟩) hHeld ?rt18
            case yt18 => ((intro W hSw; obtain ⟨hS0, hS1, hS2⟩ := hSw; go_simp) <;> with_reducible rfl)
            try simp only [Act.put]
            try simp only [List.getElem_toArray]
            try simp only [List.getElem_cons_succ]
            try simp only [List.getElem_cons_zero]
            try simp only [List.setIfInBounds_toArray]
            try simp only [List.set_cons_succ]
            try simp only [List.set_cons_zero]
            refine wpAnyH_take (i := 12) (v := ?vt19) rfl (by kernel_rfl) (by kernel_rfl) (by kernel_rfl) (fun _ _ _ h => h) (Or.inl ⟨by rfl, ?yt19⟩) hHeld ?rt19
            case yt19 => ((intro W hSw; obtain ⟨hS0, hS1, hS2⟩ := hSw; go_simp) <;> with_reducible rfl)
            try simp only [Act.put]
            try simp only [List.getElem_toArray]
            try simp only [List.getElem_cons_succ]
            try simp only [List.getElem_cons_zero]
            try simp only [List.setIfInBounds_toArray]
            try simp only [List.set_cons_succ]
            try simp only [List.set_cons_zero]
            refine wpAnyH_take (i := 13) (v := ?vt20) rfl (by kernel_rfl) (by kernel_rfl) (by kernel_rfl) (fun _ _ _ h => h) (Or.inl ⟨by rfl, ?yt20⟩) hHeld ?rt20
            case yt20 => ((intro W hSw; obtain ⟨hS0, hS1, hS2⟩ := hSw; go_simp) <;> with_reducible rfl)
            try simp only [Act.put]
            try simp only [List.getElem_toArray]
            try simp only [List.getElem_cons_succ]
            try simp only [List.getElem_cons_zero]
            try simp only [List.setIfInBounds_toArray]
            try simp only [List.set_cons_succ]
            try simp only [List.set_cons_zero]
            refine wpAnyH_take (i := 14) (v := ?vt21) rfl (by kernel_rfl) (by kernel_rfl) (by kernel_rfl) (fun _ _ _ h => h) (Or.inl ⟨by rfl, ?yt21⟩) hHeld ?rt21
            case yt21 => ((intro W hSw; obtain ⟨hS0, hS1, hS2⟩ := hSw; go_simp) <;> with_reducible rfl)
            try simp only [Act.put]
            try simp only [List.getElem_toArray]
            try simp only [List.getElem_cons_succ]
            try simp only [List.getElem_cons_zero]
            try simp only [List.setIfInBounds_toArray]
            try simp only [List.set_cons_succ]
            try simp only [List.set_cons_zero]
            refine wpAnyH_take (i := 15) (v := ?vt22) rfl (by kernel_rfl) (by kernel_rfl) (by kernel_rfl) (fun _ _ _ h => h) (Or.inl ⟨by rfl, ?yt22⟩) hHeld ?rt22
            case yt22 => ((intro W hSw; obtain ⟨hS0, hS1, hS2⟩ := hSw; go_simp) <;> with_reducible rfl)
            try simp only [Act.put]
            try simp only [List.getElem_toArray]
            try simp only [List.getElem_cons_succ]
            try simp only [List.getElem_cons_zero]
            try simp only [List.setIfInBounds_toArray]
            try simp only [List.set_cons_succ]
            try simp only [List.set_cons_zero]
            refine wpAnyH_take (i := 16) (v := ?vt23) rfl (by kernel_rfl) (by kernel_rfl) (by kernel_rfl) (fun _ _ _ h => h) (Or.inl ⟨by rfl, ?yt23⟩) hHeld ?rt23
            case yt23 => ((intro W hSw; obtain ⟨hS0, hS1, hS2⟩ := hSw; go_simp) <;> with_reducible rfl)
            try simp only [Act.put]
            try simp only [List.getElem_toArray]
            try simp only [List.getElem_cons_succ]
            try simp only [List.getElem_cons_zero]
            try simp only [List.setIfInBounds_toArray]
            try simp only [List.set_cons_succ]
            try simp only [List.set_cons_zero]
            refine wpAnyH_take (i := 17) (v := ?vt24) rfl (by kernel_rfl) (by kernel_rfl) (by kernel_rfl) (fun _ _ _ h => h) (Or.inl ⟨by rfl, ?yt24⟩) hHeld ?rt24
            case yt24 => ((intro W hSw; obtain ⟨hS0, hS1, hS2⟩ := hSw; go_simp) <;> with_reducible rfl)
            try simp only [Act.put]
            try simp only [List.getElem_toArray]
            try simp only [List.getElem_cons_succ]
            try simp only [List.getElem_cons_zero]
            try simp only [List.setIfInBounds_toArray]
            try simp only [List.set_cons_succ]
            try simp only [List.set_cons_zero]
            refine wpAnyH_ready (rs := [18]) (by kernel_rfl) (by simp) ?_
            refine AllReadyH.cons rfl (fun K hK => ?_) AllReadyH.nil
            go_simp
            have hnw := HOO.out.now
            have hdl := HOO.out.del
            simp only at hnw hdl
            refine (again_any (fun b => ρ b = 4) (p.1 + 1) p.1 p.2 x nb M2.s.now M2.c.delay M2.s.tokens _ HWn.out HC4.out HOf.out.1 HOf.out.2.1 HOf.out.2.2 (by omega) hdl).mono ?_
            rintro e w2 ⟨rfl, hW2, hU2⟩
            have hS2 : SgS mb M2.s.now M2.c.delay M2.s.tokens w2 := SgS.chg hHeld hU2.chg (fun e => HU0.out mb e rfl)
            have hf := againF_facts x nb M2.s.now M2.c.delay M2.s.tokens HOf.out.1
            cases hA : (againF x nb M2.s.now M2.c.delay M2.s.tokens).2 with
            | none =>
              have hx' : (againF x nb M2.s.now M2.c.delay M2.s.tokens).1 = x := hf.2.2.2.2.2.1 hA
              rw [hx'] at hW2
              obtain ⟨m2, c2⟩ := HRd.out.md.wnt0 (x' := x) Hp.out Hx.out rfl hW2 hU2
              have hse : M2.wns.set i x = M2.wns := by
                obtain ⟨hi, e3⟩ := List.getElem?_eq_some_iff.1 Hx.out
                rw [← e3]
                exact List.set_getElem_self hi
              rw [hse] at m2
              have HR3 : Hid (SendRel w ρ mb sv wv SB WB (M2, L2) (.slice ov2 L2.length oc2) w2) := HRd.out.chgd m2 c2
              have HSM : Hid (stepM M2 i nb = ({ M2 with s := { M2.s with refused := M2.s.refused + 1 } }, none)) := by
                show _ = _
                unfold stepM
                rw [Hx.out]
                simp only
                rw [hA]
              obtain ⟨m3, c3⟩ := m2.put (M' := { M2 with s := { M2.s with refused := M2.s.refused + 1 } }) 15 (.int .i64 (M2.s.refused + 1)) (by omega) rfl rfl rfl
              have HR4 : Hid (SendRel w ρ mb sv wv SB WB (numsM i (xl.take (b + 1)) A) (.slice ov2 L2.length oc2) (w2.setCell ⟨mb, 15, none⟩ (.int .i64 (M2.s.refused + 1)))) := by
                show SendRel _ _ _ _ _ _ _ _ _ _
                rw [HT2.out, HSt.out, HSM.out]
                simp only [Option.toList_none, List.append_nil]
                exact HR3.out.chgd m3 c3.2
              have HO4 : Hid (SOk i (6400 * k + (b + 1)) src id (numsM i (xl.take (b + 1)) A)) := by show SOk _ _ _ _ _; rw [HT2.out]; exact HO3.out
              have y15 : w2.cell? ⟨mb, 15, none⟩ = some (.int .i64 M2.s.refused) := m2.k 15 _ rfl
              have yf := m2.fz
              have hre := HOO.out.re
              simp only at hre
              have hwr : IntKind.i64.wrap (M2.s.refused + 1) = M2.s.refused + 1 := wrapI64 _ (by omega) (by omega)
              simp only [ansV]
              clear hA hf hx' hW2 hU2 m2 c2 hse m3 c3 HR3 HSM HO3 HSt HT2
              go_simp
              refine hK.out _ _ hS2 (fun hHeld => ?_)
              clear hK K
              try simp only [Act.put]
              try simp only [List.getElem_toArray]
              try simp only [List.getElem_cons_succ]
              try simp only [List.getElem_cons_zero]
              try simp only [List.setIfInBounds_toArray]
              try simp only [List.set_cons_succ]
              try simp only [List.set_cons_zero]
              refine wpAnyH_take (i := 19) (v := ?vt25) rfl (by kernel_rfl) (by kernel_rfl) (by kernel_rfl) (fun _ _ _ h => h) (Or.inl ⟨by rfl, ?yt25⟩) hHeld ?rt25
              case yt25 => ((intro W hSw; obtain ⟨hS0, hS1, hS2⟩ := hSw; go_simp) <;> with_reducible rfl)
              try simp only [Act.put]
              try simp only [List.getElem_toArray]
              try simp only [List.getElem_cons_succ]
              try simp only [List.getElem_cons_zero]
              try simp only [List.setIfInBounds_toArray]
              try simp only [List.set_cons_succ]
              try simp only [List.set_cons_zero]
              refine wpAnyH_take (i := 20) (v := ?vt26) rfl (by kernel_rfl) (by kernel_rfl) (by kernel_rfl) (fun _ _ _ h => h) (Or.inl ⟨by rfl, ?yt26⟩) hHeld ?rt26
              case yt26 => ((intro W hSw; obtain ⟨hS0, hS1, hS2⟩ := hSw; go_simp) <;> with_reducible rfl)
              try simp only [Act.put]
              try simp only [List.getElem_toArray]
              try simp only [List.getElem_cons_succ]
              try simp only [List.getElem_cons_zero]
              try simp only [List.setIfInBounds_toArray]
              try simp only [List.set_cons_succ]
              try simp only [List.set_cons_zero]
              refine wpAnyH_take (i := 21) (v := ?vt27) rfl (by kernel_rfl) (by kernel_rfl) (by kernel_rfl) (fun _ _ _ h => h) (Or.inl ⟨by rfl, ?yt27⟩) hHeld ?rt27
              case yt27 => ((intro W hSw; obtain ⟨hS0, hS1, hS2⟩ := hSw; go_simp) <;> with_reducible rfl)
              try simp only [Act.put]
              try simp only [List.getElem_toArray]
              try simp only [List.getElem_cons_succ]
              try simp only [List.getElem_cons_zero]
              try simp only [List.setIfInBounds_toArray]
              try simp only [List.set_cons_succ]
              try simp only [List.set_cons_zero]
              refine wpAnyH_take (i := 22) (v := ?vt28) rfl (by kernel_rfl) (by kernel_rfl) (by kernel_rfl) (fun _ _ _ h => h) (Or.inl ⟨by rfl, ?yt28⟩) hHeld ?rt28
              case yt28 => ((intro W hSw; obtain ⟨hS0, hS1, hS2⟩ := hSw; go_simp) <;> with_reducible rfl)
              try simp only [Act.put]
              try simp only [List.getElem_toArray]
              try simp only [List.getElem_cons_succ]
              try simp only [List.getElem_cons_zero]
              try simp only [List.setIfInBounds_toArray]
              try simp only [List.set_cons_succ]
              try simp only [List.set_cons_zero]
              refine wpAnyH_take (i := 23) (v := ?vt29) rfl (by kernel_rfl) (by kernel_rfl) (by kernel_rfl) (fun _ _ _ h => h) (Or.inl ⟨by rfl, ?yt29⟩) hHeld ?rt29
              case yt29 => ((intro W hSw; obtain ⟨hS0, hS1, hS2⟩ := hSw; go_simp) <;> with_reducible rfl)
              try simp only [Act.put]
              try simp only [List.getElem_toArray]
              try simp only [List.getElem_cons_succ]
              try simp only [List.getElem_cons_zero]
              try simp only [List.setIfInBounds_toArray]
              try simp only [List.set_cons_succ]
              try simp only [List.set_cons_zero]
              refine wpAnyH_done (by kernel_rfl) ?_ _
              refine NoPanic.normal ?_
              clear hHeld hS2 HS
              go_wp2
              go_roundw
              case rel => exact ⟨b + 1, by omega, by go_num, HR4.out, HO4.out⟩
              case measure => simp [intOf]; omega
            | some t =>
              have hid' : (againF x nb M2.s.now M2.c.delay M2.s.tokens).1.id = x.id := hf.2.2.2.2.1
              have htk := hf.2.2.2.2.2.2 t hA
              obtain ⟨m2, c2⟩ := HRd.out.md.wnt0 Hp.out Hx.out hid' hW2 hU2
              have HSM : Hid (stepM M2 i nb = ({ M2 with wns := M2.wns.set i (againF x nb M2.s.now M2.c.delay M2.s.tokens).1, s := { M2.s with again := M2.s.again + 1, tokens := M2.s.tokens - t.size } }, some t)) := by
                show _ = _
                unfold stepM
                rw [Hx.out]
                simp only
                rw [hA]
              generalize (againF x nb M2.s.now M2.c.delay M2.s.tokens).1 = x' at *
              have R2 := HRd.out.chgd m2 c2
              obtain ⟨m3, c3⟩ := m2.put (M' := { M2 with wns := M2.wns.set i x', s := { M2.s with again := M2.s.again + 1 } }) 14 (.int .i64 (M2.s.again + 1)) (by omega) rfl rfl rfl
              have R3 := R2.chgd m3 c3.2
              obtain ⟨m4, c4⟩ := m3.put (M' := { M2 with wns := M2.wns.set i x', s := { M2.s with again := M2.s.again + 1, tokens := M2.s.tokens - t.size } }) 8 (.int .i64 (M2.s.tokens - t.size)) (by omega) rfl rfl rfl
              have HR4 : Hid (SendRel w ρ mb sv wv SB WB ({ M2 with wns := M2.wns.set i x', s := { M2.s with again := M2.s.again + 1, tokens := M2.s.tokens - t.size } }, L2) (.slice ov2 L2.length oc2) ((w2.setCell ⟨mb, 14, none⟩ (.int .i64 (M2.s.again + 1))).setCell ⟨mb, 8, none⟩ (.int .i64 (M2.s.tokens - t.size)))) := R3.chgd m4 c4.2
              have HO4 : Hid (SOk i (6400 * k + (b + 1)) src id (numsM i (xl.take (b + 1)) A)) := by show SOk _ _ _ _ _; rw [HT2.out]; exact HO3.out
              have HRS : Hid (numsM i (xl.take (b + 1)) A = ({ M2 with wns := M2.wns.set i x', s := { M2.s with again := M2.s.again + 1, tokens := M2.s.tokens - t.size } }, L2 ++ [t])) := by
                show _ = _
                rw [HT2.out, HSt.out, HSM.out]
                rfl
              have y14 : w2.cell? ⟨mb, 14, none⟩ = some (.int .i64 M2.s.again) := m2.k 14 _ rfl
              have y8 : w2.cell? ⟨mb, 8, none⟩ = some (.int .i64 M2.s.tokens) := m2.k 8 _ rfl
              have yf := m2.fz
              have hag := HOO.out.ag
              have hto := HOO.out.tok
              simp only at hag hto
              have hw1 : IntKind.i64.wrap (M2.s.again + 1) = M2.s.again + 1 := wrapI64 _ (by omega) (by omega)
              have hw2 : IntKind.i64.wrap (M2.s.tokens - (t.size : Int)) = M2.s.tokens - t.size := wrapI64 _ (by omega) (by omega)
              have hts : t.size ≤ 1000000 := by omega
              simp only [ansV]
              clear hA hf hid' hW2 hU2 m2 c2 m3 c3 m4 c4 R2 R3 HSM HO3 HSt HT2
              go_simp
              refine hK.out _ _ hS2 (fun hHeld => ?_)
              clear hK K
              try simp only [Act.put]
              try simp only [List.getElem_toArray]
              try simp only [List.getElem_cons_succ]
              try simp only [List.getElem_cons_zero]
              try simp only [List.setIfInBounds_toArray]
              try simp only [List.set_cons_succ]
              try simp only [List.set_cons_zero]
              refine wpAnyH_take (i := 19) (v := ?vt30) rfl (by kernel_rfl) (by kernel_rfl) (by kernel_rfl) (fun _ _ _ h => h) (Or.inl ⟨by rfl, ?yt30⟩) hHeld ?rt30
              case yt30 => ((intro W hSw; obtain ⟨hS0, hS1, hS2⟩ := hSw; go_simp) <;> with_reducible rfl)
              try simp only [Act.put]
              try simp only [List.getElem_toArray]
              try simp only [List.getElem_cons_succ]
              try simp only [List.getElem_cons_zero]
              try simp only [List.setIfInBounds_toArray]
              try simp only [List.set_cons_succ]
              try simp only [List.set_cons_zero]
              refine wpAnyH_take (i := 20) (v := ?vt31) rfl (by kernel_rfl) (by kernel_rfl) (by kernel_rfl) (fun _ _ _ h => h) (Or.inl ⟨by rfl, ?yt31⟩) hHeld ?rt31
              case yt31 => ((intro W hSw; obtain ⟨hS0, hS1, hS2⟩ := hSw; go_simp) <;> with_reducible rfl)
              try simp only [Act.put]
              try simp only [List.getElem_toArray]
              try simp only [List.getElem_cons_succ]
              try simp only [List.getElem_cons_zero]
              try simp only [List.setIfInBounds_toArray]
              try simp only [List.set_cons_succ]
              try simp only [List.set_cons_zero]
              refine wpAnyH_take (i := 21) (v := ?vt32) rfl (by kernel_rfl) (by kernel_rfl) (by kernel_rfl) (fun _ _ _ h => h) (Or.inl ⟨by rfl, ?yt32⟩) hHeld ?rt32
              case yt32 => ((intro W hSw; obtain ⟨hS0, hS1, hS2⟩ := hSw; go_simp) <;> with_reducible rfl)
              try simp only [Act.put]
              try simp only [List.getElem_toArray]
              try simp only [List.getElem_cons_succ]
              try simp only [List.getElem_cons_zero]
              try simp only [List.setIfInBounds_toArray]
              try simp only [List.set_cons_succ]
              try simp only [List.set_cons_zero]
              refine wpAnyH_take (i := 22) (v := ?vt33) rfl (by kernel_rfl) (by kernel_rfl) (by kernel_rfl) (fun _ _ _ h => h) (Or.inl ⟨by rfl, ?yt33⟩) hHeld ?rt33
              case yt33 => ((intro W hSw; obtain ⟨hS0, hS1, hS2⟩ := hSw; go_simp) <;> with_reducible rfl)
              try simp only [Act.put]
              try simp only [List.getElem_toArray]
              try simp only [List.getElem_cons_succ]
              try simp only [List.getElem_cons_zero]
              try simp only [List.setIfInBounds_toArray]
              try simp only [List.set_cons_succ]
              try simp only [List.set_cons_zero]
              refine wpAnyH_take (i := 23) (v := ?vt34) rfl (by kernel_rfl) (by kernel_rfl) (by kernel_rfl) (fun _ _ _ h => h) (Or.inl ⟨by rfl, ?yt34⟩) hHeld ?rt34
              case yt34 => ((intro W hSw; obtain ⟨hS0, hS1, hS2⟩ := hSw; go_simp) <;> with_reducible rfl)
              try simp only [Act.put]
              try simp only [List.getElem_toArray]
              try simp only [List.getElem_cons_succ]
              try simp only [List.getElem_cons_zero]
              try simp only [List.setIfInBounds_toArray]
              try simp only [List.set_cons_succ]
              try simp only [List.set_cons_zero]
              refine wpAnyH_done (by kernel_rfl) ?_ _
              refine NoPanic.normal ?_
              clear hHeld hS2 HS
              have hsz : w.heap.size ≤ w2.heap.size := by have := HR4.out.chg.size; simpa using this
              go_wp2_with (at_builtin; (
                refine wpList_append_at rfl (.tmp 87) (.tmp 89) 22 rfl w.heap.size 9 i0 _ 1 16 Try.underlying22 Hi.out rfl (by decide) _ L2.length _ rfl (HR4.out.row.alloc _) _ 1 1 [.string t] rfl rfl (one_at _ _ (by simp) _ _) ?_ (by unfold maxLen; omega) (by omega) (by simp; omega) ?_
                · intro u hu; simp at hu; subst hu; rfl
                intro v' w3 hown' hgrow hob
                refine stop_here ?_))
              refine hid_in ?_
              obtain ⟨a3, c3, rfl⟩ := rowA_shape hown'
              have HR5 : Hid (SendRel w ρ mb sv wv SB WB (numsM i (xl.take (b + 1)) A) (.slice a3 (L2.length + 1) c3) w3) := by
                show SendRel _ _ _ _ _ _ _ _ _ _
                rw [HRS.out]
                exact HR4.out.app hgrow hown'
              clear hown' hgrow hob HR4 y14 y8 yf
              go_wp2
              go_roundw
              case rel => exact ⟨b + 1, by omega, by go_num, HR5.out, HO4.out⟩
              case measure => simp [intOf]; omega
          · have hbl' : ¬ (b : Int) < xl.length := by omega
            have hbe : b = xl.length := by omega
            subst hbe
            rw [List.take_length] at hR2 hO2
            have HR3 : Hid (SendRel w ρ mb sv wv SB WB (asksM i src ((askL xs).take (k + 1)) (M, [])) (.slice ov2 (numsM i xl A).2.length oc2) wr) := by show SendRel _ _ _ _ _ _ _ _ _ _; rw [HTk.out]; exact hR2
            have HO3 : Hid (SOk i (6400 * (k + 1)) src id (asksM i src ((askL xs).take (k + 1)) (M, []))) := by show SOk _ _ _ _ _; rw [HTk.out]; exact hO2.mono (by omega)
            clear hR2 hO2
            rw [List.take_length]
            go_wp2
            go_roundw
            case rel => exact ⟨k + 1, by omega, by go_num, HR3.out, HO3.out⟩
            case measure => simp [intOf]; omega
      · have hne : (xb != src) = true := by simp [he]
        rw [if_neg he] at HTk
        have HR3 : Hid (SendRel w ρ mb sv wv SB WB (asksM i src ((askL xs).take (k + 1)) (M, [])) (.slice ov A.2.length oc) W1) := by show SendRel _ _ _ _ _ _ _ _ _ _; rw [HTk.out]; exact HRw.out
        have HO3 : Hid (SOk i (6400 * (k + 1)) src id (asksM i src ((askL xs).take (k + 1)) (M, []))) := by show SOk _ _ _ _ _; rw [HTk.out]; exact HO.out.mono (by omega)
        clear he e2
        go_wp2
        go_roundw
        case rel => exact ⟨k + 1, by omega, by go_num, HR3.out, HO3.out⟩
        case measure => simp [intOf]; omega
    · have hlt' : ¬ (k : Int) < xs.length := by omega
      have hke : k = (askL xs).length := by unfold askL; rw [List.length_map]; omega
      rw [hke, List.take_length] at hR
      obtain ⟨ov, oc, rfl⟩ := rowA_shape hR.row
      have HR : Hid (SendRel w ρ mb sv wv SB WB (asksM i src (askL xs) (M, [])) (.slice ov (asksM i src (askL xs) (M, [])).2.length oc) wr) := hR
      clear hR hO hke
      go_wp2
      go_ret
      exact ⟨_, rfl, HR.out⟩

end Go.Proofs.Ytdjhhnolcafkiaa

/- Report. -/
namespace Go.Proofs.Ytdjhhnolcafkiaa
open Go.RowKit
namespace Pk
theorem partsR_len : ∀ (n : Nat) (l : List UInt8) (L : List (Nat × Nat × List Int)), partsR n l = some L → L.length ≤ n
  | 0, l, L, h => by
    unfold partsR at h
    split at h
    · simp at h; subst h; simp
    · cases h
  | n + 1, l, L, h => by
    unfold partsR at h
    split at h
    · simp at h; subst h; simp
    · split at h
      · cases h
      · split at h
        · cases h
        · split at h
          · split at h
            · cases h
            · simp only [Option.map_eq_some_iff] at h
              obtain ⟨L', h1, rfl⟩ := h
              have := partsR_len n _ L' h1
              simp
              omega
          · have := partsR_len n _ L h
            omega
theorem repR_len {t : ByteArray} {L : List (Nat × Nat × List Int)} (h : repR t = some L) : L.length ≤ 1500 := by
  unfold repR at h
  split at h
  · cases h
  · have := partsR_len _ _ L h
    rw [← Lib.size_eq] at this
    omega
def repL (L : List (Nat × Nat × List Int)) : List (Int × List Int) := L.map fun y => ((y.2.1 : Int), y.2.2)
def reportM (M : Md) (id : Int) (t : ByteArray) : Md × List ByteArray × Int :=
  match wntPos M id with
  | none => (M, [], 4)
  | some i =>
    match repR t with
    | none => ({ M with s := { M.s with wrong := M.s.wrong + 1 } }, [], 1)
    | some L =>
      match M.wns[i]? with
      | none => (M, [], 0)
      | some x => ((asksM i x.src (repL L) (M, [])).1, (asksM i x.src (repL L) (M, [])).2, 0)
theorem askL_of {xs : List Ask1} {L : List (Nat × Nat × List Int)} (h : xs.map (fun x => (x.a, x.b, x.l)) = L.map (fun y => ((y.1 : Int), (y.2.1 : Int), y.2.2))) : askL xs = repL L := by
  have e := congrArg (List.map (fun q : Int × Int × List Int => (q.2.1, q.2.2))) h
  rw [List.map_map, List.map_map] at e
  exact e
end Pk
open Pk

set_option maxRecDepth 20000 in
set_option maxHeartbeats 2000000 in
theorem report_any (ρ : Nat → Nat) (mb : Nat) (M : Md) (sv wv : Value) (SB WB : List (Nat × Value)) (id : Int) (t : ByteArray) (w : World) (h : MdAt w ρ mb M sv wv SB WB) (ok : MOk M) (kok : ∀ x ∈ M.wns, KOk x ∧ x.second < 65536) (ht : t.size ≤ maxLen) :
    Calls Try.prog 57 #[.pointer (some ⟨mb, 0, none⟩), .int .i64 id, .string t] w fun e w' => ∃ tv, e = .returned (.tuple #[tv, .int .i64 (reportM M id t).2.2]) ∧ MovedT w w' ρ mb (reportM M id t).1 tv (reportM M id t).2.1 := by
  have H : Hid (MdAt w ρ mb M sv wv SB WB) := h
  have Hok : Hid (MOk M) := ok
  have Hkk : Hid (∀ x ∈ M.wns, KOk x ∧ x.second < 65536) := kok
  have h8 := ok.w8
  clear h ok kok
  go_enter Try.func57, Try.ntmps57
  go_wp2_with fail
  refine (orNone_any mb _).mono ?_
  rintro e w1 ⟨rfl, hw1⟩
  rw [hw1]
  clear hw1 w1
  go_wp2_with fail
  refine (findWant_any ρ mb M sv wv SB WB id _ H.out h8).mono ?_
  rintro e w1 ⟨rfl, hb1⟩
  have H1 : Hid (MdAt w1 ρ mb M sv wv SB WB) := H.out.below hb1
  have HB1 : Hid (Below w.heap.size w w1) := hb1
  have hs1 := hb1.size
  clear hb1
  cases hi : wntPos M id with
  | none =>
    have HP : Hid (reportM M id t = (M, [], 4)) := by show _ = _; unfold reportM; rw [hi]
    clear hi
    simp only [posI]
    go_wp2
    go_ret2
    rw [HP.out]
    exact ⟨_, rfl, MovedT.none H1.out (Mv.below HB1.out)⟩
  | some i =>
    have hil : i < M.wns.length := by
      have := List.findIdx?_eq_some_iff_getElem.1 hi
      exact this.1
    have hx : M.wns[i]? = some M.wns[i] := List.getElem?_eq_getElem hil
    have hip : ¬ (i : Int) < 0 := by omega
    simp only [posI]
    go_wp2_with fail
    refine (readReport_any t _ ht).mono ?_
    rintro e w2 ⟨hb2, hr2⟩
    have H2 : Hid (MdAt w2 ρ mb M sv wv SB WB) := H1.out.below hb2
    have HB2 : Hid (Below w.heap.size w w2) := HB1.out.trans (hb2.mono hs1)
    have hs2 := H2.out.lt
    cases hR : repR t with
    | none =>
      rw [hR] at hr2
      have he : e = .returned wrongR := hr2
      unfold wrongR at he
      subst he
      have HP : Hid (reportM M id t = ({ M with s := { M.s with wrong := M.s.wrong + 1 } }, [], 1)) := by show _ = _; unfold reportM; rw [hi]; simp only; rw [hR]
      obtain ⟨m3, c3⟩ := H2.out.put (M' := { M with s := { M.s with wrong := M.s.wrong + 1 } }) 12 (.int .i64 (M.s.wrong + 1)) (by omega) rfl rfl rfl
      have HM : Hid (MovedT w (w2.setCell ⟨mb, 12, none⟩ (.int .i64 (M.s.wrong + 1))) ρ mb { M with s := { M.s with wrong := M.s.wrong + 1 } } (.slice none 0 0) []) := MovedT.none m3 ((Mv.below HB2.out).trans c3)
      have y12 : w2.cell? ⟨mb, 12, none⟩ = some (.int .i64 M.s.wrong) := H2.out.k 12 _ rfl
      have yf : ∀ o, w2.frozen? ⟨mb, o, none⟩ = false := H2.out.fz
      have hw := Hok.out.cnt1 (c := M.s.wrong) (by simp)
      clear hb2 hr2 hR hi hx m3 c3
      go_wp2
      go_ret2
      rw [HP.out]
      exact ⟨_, rfl, HM.out⟩
    | some L =>
      rw [hR] at hr2
      obtain ⟨lv, xs, rfl, hown, hmap⟩ := hr2
      obtain ⟨x, hxe⟩ : ∃ x, M.wns[i] = x := ⟨_, rfl⟩
      rw [hxe] at hx
      have HP : Hid (reportM M id t = ((asksM i x.src (repL L) (M, [])).1, (asksM i x.src (repL L) (M, [])).2, 0)) := by show _ = _; unfold reportM; rw [hi]; simp only; rw [hR]; simp only; rw [hx]
      have HAL : Hid (askL xs = repL L) := askL_of hmap
      have hxl : xs.length ≤ 100000 := by
        have e := congrArg List.length HAL.out
        have := repR_len hR
        unfold askL repL at e
        simp only [List.length_map] at e
        omega
      obtain ⟨aw, cw, rfl⟩ := rowA_shape H2.out.wr
      have hwl : WB.length = M.wns.length := H2.out.wl
      obtain ⟨g, rfl⟩ := rowA_some H2.out.wr (by omega)
      have hp : WB[i]? = some (WB[i]'(by omega)) := List.getElem?_eq_getElem (by omega)
      obtain ⟨p, hpe⟩ : ∃ p, WB[i]'(by omega) = p := ⟨_, rfl⟩
      rw [hpe] at hp
      have d0 : w2.cell? ⟨g, i, none⟩ = some (ptr p.1) := by
        have h := H2.out.wr.cellAt i (by omega)
        rw [h, List.getElem?_map, hp]
        rfl
      have y19 : w2.cell? ⟨mb, 19, none⟩ = some (.slice (some ⟨g, 0, none⟩) WB.length cw) := H2.out.k 19 _ rfl
      have hxm : x ∈ M.wns := List.mem_of_getElem? hx
      have hxk := Hkk.out x hxm
      have hcf := of_decide_eq_true Hok.out.cfg
      have HSO : Hid (SOk i 0 x.src x.id (M, [])) := ⟨Hok.out.now, hcf.2.2.1, Hok.out.tok, by have := Hok.out.cnt M.s.again (by simp); simp only; omega, by have := Hok.out.cnt M.s.refused (by simp); simp only; omega, Nat.le_refl _, x, hx, hxk.1, hxk.2, (Hok.out.wnt x hxm).2.2.2, rfl, rfl⟩
      have HA : Hid (OwnAsks w2 w1.heap.size lv xs) := hown
      have Hp : Hid (WB[i]? = some p) := hp
      have HBz : Hid (∀ b, w1.heap.size ≤ b → ρ b = 0) := fun b hb => H1.out.hi b hb
      obtain ⟨al, cl, rfl⟩ := rowA_shape hown.row
      have hiw : (i : Int) < WB.length := by omega
      unfold ptr at d0
      clear hb2 hR hi hx hmap hown hxe hpe hp hxm hxk hcf
      go_wp2_with fail
      refine (sendAgain_any ρ mb M sv _ SB WB i p x.src x.id w1.heap.size _ xs _ H2.out Hp.out HSO.out HA.out HBz.out hxl).mono ?_
      rintro e w3 ⟨ov, rfl, hR3⟩
      rw [HAL.out] at hR3
      obtain ⟨ao, co, rfl⟩ := rowA_shape hR3.row
      have HM : Hid (MovedT w w3 ρ mb (asksM i x.src (repL L) (M, [])).1 (.slice ao (asksM i x.src (repL L) (M, [])).2.length co) (asksM i x.src (repL L) (M, [])).2) :=
        ⟨ρ, _, _, _, _, hR3.md, (Mv.below HB2.out).trans ⟨fun _ _ e => e, hR3.chg⟩, row_mono hR3.row HB2.out.size, hR3.rz⟩
      clear hR3 d0 y19
      go_wp2
      go_ret2
      rw [HP.out]
      exact ⟨_, rfl, HM.out⟩

end Go.Proofs.Ytdjhhnolcafkiaa

/- menderkeep: asking, does. -/
namespace Go.Proofs.Ytdjhhnolcafkiaa
open Go.RowKit
namespace Pk
def askT (n : Nat) : ByteArray := (askR 0 7 [((n % 65536 : Nat) : Int)]).1
/-- what every call asks of a mender -/
structure AllOk (M : Md) : Prop where
  ok : MOk M
  kk : ∀ x ∈ M.wns, KOk x ∧ x.second < 65536
  sn : ∀ s ∈ M.sds, SndOk s
  now : M.s.now ≤ 900000000000000
def doesM (M : Md) (what n : Int) (py : ByteArray) (base : Nat) (cv : Value) : Md × List ByteArray × Int :=
  if pickF what 5 ≤ 2 then packetM M (dataT (base + (pickF n 50).toNat) py) cv
  else if pickF what 5 = 3 then reportM M 1 (askT (65530 + (pickF n 60).toNat))
  else tickM M (pickF n 40)
theorem MovedT.before {w W w' : World} {ρ : Nat → Nat} {mb : Nat} {M' : Md} {tv : Value} {L : List ByteArray} (hb : Below w.heap.size w W) (h : MovedT W w' ρ mb M' tv L) : MovedT w w' ρ mb M' tv L := by
  obtain ⟨ρ', a, b, c, d, h1, h2, h3, h4⟩ := h
  exact ⟨ρ', a, b, c, d, h1, (Mv.below hb).trans h2, row_mono h3 hb.size, h4⟩
theorem dataT_small (n : Nat) (py : ByteArray) : (dataT n py).size ≤ 1500 := (dataT_read n py).2
theorem MovedT.shape {w w' : World} {ρ : Nat → Nat} {mb : Nat} {M' : Md} {tv : Value} {L : List ByteArray} (h : MovedT w w' ρ mb M' tv L) : ∃ a c, tv = .slice a L.length c := by
  obtain ⟨ρ', a, b, c, d, h1, h2, h3, h4⟩ := h
  exact rowA_shape h3
theorem MovedT.cell {w w' : World} {ρ : Nat → Nat} {mb : Nat} {M' : Md} {tv : Value} {L : List ByteArray} (h : MovedT w w' ρ mb M' tv L) {b o : Nat} {u : Value} (hu : w.cell? ⟨b, o, Option.none⟩ = some u) (hb : ρ b = 0) : w'.cell? ⟨b, o, Option.none⟩ = some u := by
  obtain ⟨ρ', _, _, _, _, h1, h2, h3, h4⟩ := h
  exact h2.2.cell hu (fun e => e hb)
theorem askR_small (m : Nat) (h : m < 65536) : (askR 0 7 [(m : Int)]).1.size ≤ 1500 := by
  have hok : askOk 0 7 [(m : Int)] = true := by
    unfold askOk allIn
    simp
    omega
  unfold askR
  rw [if_pos hok]
  simp only
  rw [Lib.size_eq]
  simp only
  rw [askB_length]
  unfold entriesF
  simp only [List.foldl_cons, List.foldl_nil]
  have := (pushE_len [] (m : Int).toNat).1
  simp only [List.length_nil] at this
  omega
end Pk
open Pk

set_option maxHeartbeats 1000000 in
theorem asking_any (n : Nat) (w : World) (hn : n ≤ 1000000000) :
    Calls Try.prog 58 #[.int .i64 n] w fun e w' => e = .returned (.string (askT n)) ∧ Below w.heap.size w w' := by
  have hm : (n : Int).tmod 65536 = ((n % 65536 : Nat) : Int) := by rw [Int.tmod_eq_emod_of_nonneg (by omega)]; omega
  have hlt : n % 65536 < 65536 := Nat.mod_lt _ (by decide)
  have He : Hid (askT n = (askR 0 7 [((n % 65536 : Nat) : Int)]).1) := rfl
  generalize n % 65536 = q at *
  go_enter Try.func58, Try.ntmps58
  go_wp2_with fail
  refine (tellAsking_any 0 7 _ [(q : Int)] _ ⟨some ⟨w.heap.size, 0, none⟩, 1, rfl, fun j hj => ⟨w.heap.size, 0, rfl, by simp, ?_⟩⟩ (by simp)).mono ?_
  · have hj0 : j = 0 := by simpa using hj
    subst hj0
    exact cell_new _ _ _ 0
  rintro e w1 ⟨rfl, hb1⟩
  have HB : Hid (Below w.heap.size w w1) := ((Below.refl _ _).alloc (Nat.le_refl _) _).trans (hb1.mono (by simp))
  clear hb1
  generalize (askR 0 7 [(q : Int)]).1 = t1 at *
  generalize (askR 0 7 [(q : Int)]).2 = e1 at *
  go_wp2
  go_ret
  exact ⟨by rw [He.out]; rfl, HB.out⟩

set_option maxRecDepth 20000 in
set_option maxHeartbeats 4000000 in
theorem does_any (ρ : Nat → Nat) (mb : Nat) (M : Md) (sv wv : Value) (SB WB : List (Nat × Value)) (what n : Int) (py : ByteArray) (base : Nat) (w : World) (h : MdAt w ρ mb M sv wv SB WB) (ok : AllOk M) (hw : -9223372036854775808 ≤ what ∧ what ≤ 9223372036854775807) (hn : -9223372036854775808 ≤ n ∧ n ≤ 9223372036854775807) (hpy : py.size ≤ maxLen) (hb : base ≤ 100000000) :
    Calls Try.prog 30 #[.pointer (some ⟨mb, 0, none⟩), .agg #[.int .i64 what, .int .i64 n, .string py], .int .i64 base] w fun e w' => ∃ cv tv, e = .returned (.tuple #[tv, .int .i64 (doesM M what n py base cv).2.2]) ∧ MovedT w w' ρ mb (doesM M what n py base cv).1 tv (doesM M what n py base cv).2.1 := by
  have HB0 : Hid (Below w.heap.size w (w.alloc (.cells #[.int .i64 what, .int .i64 n, .string py] 73))) := (Below.refl _ _).alloc (Nat.le_refl _) _
  have H0 : Hid (MdAt (w.alloc (.cells #[.int .i64 what, .int .i64 n, .string py] 73)) ρ mb M sv wv SB WB) := h.below HB0.out
  have HBF : Hid (∀ (W1 w' : World) (M' : Md) (tv : Value) (L : List ByteArray), Below (w.alloc (.cells #[.int .i64 what, .int .i64 n, .string py] 73)).heap.size (w.alloc (.cells #[.int .i64 what, .int .i64 n, .string py] 73)) W1 → MovedT W1 w' ρ mb M' tv L → MovedT w w' ρ mb M' tv L) := fun W1 w' M' tv L hb h => MovedT.before (HB0.out.trans (hb.mono HB0.out.size)) h
  have Hok : Hid (AllOk M) := ok
  have hbz : ρ w.heap.size = 0 := h.hi _ (Nat.le_refl _)
  have e1 : (w.alloc (.cells #[.int .i64 what, .int .i64 n, .string py] 73)).cell? ⟨w.heap.size, 1, none⟩ = some (.int .i64 n) := cell_new _ _ _ 1
  have e2 : (w.alloc (.cells #[.int .i64 what, .int .i64 n, .string py] 73)).cell? ⟨w.heap.size, 2, none⟩ = some (.string py) := cell_new _ _ _ 2
  have q0 := pickF_lo what 5 (by omega)
  have q1 := pickF_hi what 5 (by omega)
  have hmxl : py.size ≤ 9223372036854775807 := by unfold maxLen at hpy; exact hpy
  clear h ok HB0
  go_enter Try.func30, Try.ntmps30
  go_wp2_with fail
  refine (pick_any what 5 _ hw.1 hw.2 (by omega) (by omega)).mono ?_
  rintro e w1 ⟨rfl, hw1⟩
  rw [hw1]
  clear hw1 w1
  go_simp
  have HD : Hid (∀ cv, doesM M what n py base cv = if pickF what 5 ≤ 2 then packetM M (dataT (base + (pickF n 50).toNat) py) cv else if pickF what 5 = 3 then reportM M 1 (askT (65530 + (pickF n 60).toNat)) else tickM M (pickF n 40)) := fun _ => rfl
  generalize pickF what 5 = kd at *
  generalize (w.alloc (.cells #[.int .i64 what, .int .i64 n, .string py] 73)) = W0 at *
  generalize w.heap.size = bx at *
  rcases (show kd = 0 ∨ kd = 1 ∨ kd = 2 ∨ kd = 3 ∨ kd = 4 by omega) with rfl | rfl | rfl | rfl | rfl
  · go_wp2
    have p0 := pickF_lo n 50 (by omega)
    have p1 := pickF_hi n 50 (by omega)
    obtain ⟨j, hj⟩ : ∃ j : Nat, pickF n 50 = (j : Int) := Int.eq_ofNat_of_zero_le p0
    have HD1 : Hid (∀ cv, doesM M what n py base cv = packetM M (dataT (base + j) py) cv) := fun cv => by rw [HD.out cv, if_pos (by decide), hj]; rfl
    have hjl : j < 50 := by omega
    refine wp_region_noPanic ?_
    refine wp_region_held_drew (S := fun W => W.cell? ⟨bx, 1, none⟩ = some (.int .i64 n) ∧ W.cell? ⟨bx, 2, none⟩ = some (.string py)) (by kernel_rfl) ⟨e1, e2⟩ (fun hHeld => ?_)
    refine wpAnyH_take (i := 0) (v := ?vt1) rfl (by kernel_rfl) (by kernel_rfl) (by kernel_rfl) (fun _ _ _ h => h) (Or.inl ⟨by rfl, ?yt1⟩) hHeld ?rt1
    case yt1 => ((intro W hSw; obtain ⟨hS0, hS1⟩ := hSw; go_simp) <;> with_reducible rfl)
    try simp only [Act.put]
    try simp only [List.getElem_toArray]
    try simp only [List.getElem_cons_succ]
    try simp only [List.getElem_cons_zero]
    try simp only [List.setIfInBounds_toArray]
    try simp only [List.set_cons_succ]
    try simp only [List.set_cons_zero]
    refine wpAnyH_take (i := 1) (v := ?vt2) rfl (by kernel_rfl) (by kernel_rfl) (by kernel_rfl) (fun _ _ _ h => h) (Or.inl ⟨by rfl, ?yt2⟩) hHeld ?rt2
    case yt2 => ((intro W hSw; obtain ⟨hS0, hS1⟩ := hSw; go_simp) <;> with_reducible rfl)
    try simp only [Act.put]
    try simp only [List.getElem_toArray]
    try simp only [List.getElem_cons_succ]
    try simp only [List.getElem_cons_zero]
    try simp only [List.setIfInBounds_toArray]
    try simp only [List.set_cons_succ]
    try simp only [List.set_cons_zero]
    refine wpAnyH_take (i := 2) (v := ?vt3) rfl (by kernel_rfl) (by kernel_rfl) (by kernel_rfl) (fun _ _ _ h => h) (Or.inl ⟨by rfl, ?yt3⟩) hHeld ?rt3
    case yt3 => ((intro W hSw; obtain ⟨hS0, hS1⟩ := hSw; go_simp) <;> with_reducible rfl)
    try simp only [Act.put]
    try simp only [List.getElem_toArray]
    try simp only [List.getElem_cons_succ]
    try simp only [List.getElem_cons_zero]
    try simp only [List.setIfInBounds_toArray]
    try simp only [List.set_cons_succ]
    try simp only [List.set_cons_zero]
    refine wpAnyH_take (i := 3) (v := ?vt4) rfl (by kernel_rfl) (by kernel_rfl) (by kernel_rfl) (fun _ _ _ h => h) (Or.inl ⟨by rfl, ?yt4⟩) hHeld ?rt4
    case yt4 => ((intro W hSw; obtain ⟨hS0, hS1⟩ := hSw; go_simp) <;> with_reducible rfl)
    try simp only [Act.put]
    try simp only [List.getElem_toArray]
    try simp only [List.getElem_cons_succ]
    try simp only [List.getElem_cons_zero]
    try simp only [List.setIfInBounds_toArray]
    try simp only [List.set_cons_succ]
    try simp only [List.set_cons_zero]
    refine wpAnyH_take (i := 6) (v := ?vt5) rfl (by kernel_rfl) (by kernel_rfl) (by kernel_rfl) (fun _ _ _ h => h) (Or.inl ⟨by rfl, ?yt5⟩) hHeld ?rt5
    case yt5 => ((intro W hSw; obtain ⟨hS0, hS1⟩ := hSw; go_simp) <;> with_reducible rfl)
    try simp only [Act.put]
    try simp only [List.getElem_toArray]
    try simp only [List.getElem_cons_succ]
    try simp only [List.getElem_cons_zero]
    try simp only [List.setIfInBounds_toArray]
    try simp only [List.set_cons_succ]
    try simp only [List.set_cons_zero]
    refine wpAnyH_take (i := 7) (v := ?vt6) rfl (by kernel_rfl) (by kernel_rfl) (by kernel_rfl) (fun _ _ _ h => h) (Or.inl ⟨by rfl, ?yt6⟩) hHeld ?rt6
    case yt6 => ((intro W hSw; obtain ⟨hS0, hS1⟩ := hSw; go_simp) <;> with_reducible rfl)
    try simp only [Act.put]
    try simp only [List.getElem_toArray]
    try simp only [List.getElem_cons_succ]
    try simp only [List.getElem_cons_zero]
    try simp only [List.setIfInBounds_toArray]
    try simp only [List.set_cons_succ]
    try simp only [List.set_cons_zero]
    refine wpAnyH_ready (rs := [4]) (by kernel_rfl) (by simp) ?_
    refine AllReadyH.cons rfl (fun K hK => ?_) AllReadyH.nil
    go_simp
    refine (pick_any n 50 _ hn.1 hn.2 (by omega) (by omega)).mono ?_
    rintro e w1 ⟨rfl, hw1⟩
    rw [hw1, hj]
    clear hw1 w1
    go_simp
    refine hK.out _ _ hHeld (fun hHeld => ?_)
    clear hK K
    try simp only [Act.put]
    try simp only [List.getElem_toArray]
    try simp only [List.getElem_cons_succ]
    try simp only [List.getElem_cons_zero]
    try simp only [List.setIfInBounds_toArray]
    try simp only [List.set_cons_succ]
    try simp only [List.set_cons_zero]
    have hbk : IntKind.i64.wrap ((base : Int) + (j : Int)) = ((base + j : Nat) : Int) := by rw [i64_id _ (by omega) (by omega)]; rfl
    refine wpAnyH_take (i := 5) (v := ?vt7) rfl (by kernel_rfl) (by kernel_rfl) (by kernel_rfl) (fun _ _ _ h => h) (Or.inl ⟨by rfl, ?yt7⟩) hHeld ?rt7
    case yt7 => ((intro W hSw; obtain ⟨hS0, hS1⟩ := hSw; go_simp) <;> with_reducible rfl)
    try simp only [Act.put]
    try simp only [List.getElem_toArray]
    try simp only [List.getElem_cons_succ]
    try simp only [List.getElem_cons_zero]
    try simp only [List.setIfInBounds_toArray]
    try simp only [List.set_cons_succ]
    try simp only [List.set_cons_zero]
    refine wpAnyH_ready (rs := [8]) (by kernel_rfl) (by simp) ?_
    refine AllReadyH.cons rfl (fun K hK => ?_) AllReadyH.nil
    go_simp
    refine (data_any (base + j) py _ (by omega) hpy).mono ?_
    rintro e w1 ⟨rfl, hb1⟩
    have HB1 : Hid (Below W0.heap.size W0 w1) := ((Below.refl _ _).drew).trans hb1
    have g1 := (hb1.cell (p := ⟨bx, 1, none⟩) (lt_of_cell e1)).trans e1
    have g2 := (hb1.cell (p := ⟨bx, 2, none⟩) (lt_of_cell e2)).trans e2
    have HM1 : Hid (MdAt w1 ρ mb M sv wv SB WB) := H0.out.below HB1.out
    have hds := (dataT_small (base + j) py)
    clear hb1
    go_simp
    refine hK.out _ _ ⟨g1, g2⟩ (fun hHeld => ?_)
    clear hK K
    try simp only [Act.put]
    try simp only [List.getElem_toArray]
    try simp only [List.getElem_cons_succ]
    try simp only [List.getElem_cons_zero]
    try simp only [List.setIfInBounds_toArray]
    try simp only [List.set_cons_succ]
    try simp only [List.set_cons_zero]
    refine wpAnyH_ready (rs := [9]) (by kernel_rfl) (by simp) ?_
    refine AllReadyH.cons rfl (fun K hK => ?_) AllReadyH.nil
    go_simp
    refine (packet_any ρ mb M sv wv SB WB (dataT (base + j) py) _ HM1.out Hok.out.ok (by unfold maxLen; omega)).mono ?_
    rintro e w2 ⟨cv, tv, rfl, hmv⟩
    have k1 := hmv.cell g1 hbz
    have k2 := hmv.cell g2 hbz
    obtain ⟨ta, tc, rfl⟩ := hmv.shape
    have HF : Hid (MovedT w w2 ρ mb (packetM M (dataT (base + j) py) cv).1 (.slice ta (packetM M (dataT (base + j) py) cv).2.1.length tc) (packetM M (dataT (base + j) py) cv).2.1) := HBF.out _ _ _ _ _ HB1.out hmv
    clear hmv
    go_simp
    refine hK.out _ _ ⟨k1, k2⟩ (fun hHeld => ?_)
    clear hK K
    try simp only [Act.put]
    try simp only [List.getElem_toArray]
    try simp only [List.getElem_cons_succ]
    try simp only [List.getElem_cons_zero]
    try simp only [List.setIfInBounds_toArray]
    try simp only [List.set_cons_succ]
    try simp only [List.set_cons_zero]
    refine wpAnyH_take (i := 10) (v := ?vt8) rfl (by kernel_rfl) (by kernel_rfl) (by kernel_rfl) (fun _ _ _ h => h) (Or.inl ⟨by rfl, ?yt8⟩) hHeld ?rt8
    case yt8 => ((intro W hSw; obtain ⟨hS0, hS1⟩ := hSw; go_simp) <;> with_reducible rfl)
    try simp only [Act.put]
    try simp only [List.getElem_toArray]
    try simp only [List.getElem_cons_succ]
    try simp only [List.getElem_cons_zero]
    try simp only [List.setIfInBounds_toArray]
    try simp only [List.set_cons_succ]
    try simp only [List.set_cons_zero]
    refine wpAnyH_take (i := 11) (v := ?vt9) rfl (by kernel_rfl) (by kernel_rfl) (by kernel_rfl) (fun _ _ _ h => h) (Or.inl ⟨by rfl, ?yt9⟩) hHeld ?rt9
    case yt9 => ((intro W hSw; obtain ⟨hS0, hS1⟩ := hSw; go_simp) <;> with_reducible rfl)
    try simp only [Act.put]
    try simp only [List.getElem_toArray]
    try simp only [List.getElem_cons_succ]
    try simp only [List.getElem_cons_zero]
    try simp only [List.setIfInBounds_toArray]
    try simp only [List.set_cons_succ]
    try simp only [List.set_cons_zero]
    refine wpAnyH_take (i := 12) (v := ?vt10) rfl (by kernel_rfl) (by kernel_rfl) (by kernel_rfl) (fun _ _ _ h => h) (Or.inl ⟨by rfl, ?yt10⟩) hHeld ?rt10
    case yt10 => ((intro W hSw; obtain ⟨hS0, hS1⟩ := hSw; go_simp) <;> with_reducible rfl)
    try simp only [Act.put]
    try simp only [List.getElem_toArray]
    try simp only [List.getElem_cons_succ]
    try simp only [List.getElem_cons_zero]
    try simp only [List.setIfInBounds_toArray]
    try simp only [List.set_cons_succ]
    try simp only [List.set_cons_zero]
    refine wpAnyH_take (i := 13) (v := ?vt11) rfl (by kernel_rfl) (by kernel_rfl) (by kernel_rfl) (fun _ _ _ h => h) (Or.inl ⟨by rfl, ?yt11⟩) hHeld ?rt11
    case yt11 => ((intro W hSw; obtain ⟨hS0, hS1⟩ := hSw; go_simp) <;> with_reducible rfl)
    try simp only [Act.put]
    try simp only [List.getElem_toArray]
    try simp only [List.getElem_cons_succ]
    try simp only [List.getElem_cons_zero]
    try simp only [List.setIfInBounds_toArray]
    try simp only [List.set_cons_succ]
    try simp only [List.set_cons_zero]
    refine wpAnyH_take (i := 14) (v := ?vt12) rfl (by kernel_rfl) (by kernel_rfl) (by kernel_rfl) (fun _ _ _ h => h) (Or.inl ⟨by rfl, ?yt12⟩) hHeld ?rt12
    case yt12 => ((intro W hSw; obtain ⟨hS0, hS1⟩ := hSw; go_simp) <;> with_reducible rfl)
    try simp only [Act.put]
    try simp only [List.getElem_toArray]
    try simp only [List.getElem_cons_succ]
    try simp only [List.getElem_cons_zero]
    try simp only [List.setIfInBounds_toArray]
    try simp only [List.set_cons_succ]
    try simp only [List.set_cons_zero]
    refine wpAnyH_done (by kernel_rfl) ?_ _
    refine NoPanic.normal ?_
    clear hHeld k1 k2 g1 g2 e1 e2
    go_wp2
    go_ret2
    refine ⟨cv, .slice ta (packetM M (dataT (base + j) py) cv).2.1.length tc, ?_, ?_⟩
    · rw [HD1.out cv]; rfl
    · rw [HD1.out cv]
      exact HF.out
  · go_wp2
    have p0 := pickF_lo n 50 (by omega)
    have p1 := pickF_hi n 50 (by omega)
    obtain ⟨j, hj⟩ : ∃ j : Nat, pickF n 50 = (j : Int) := Int.eq_ofNat_of_zero_le p0
    have HD1 : Hid (∀ cv, doesM M what n py base cv = packetM M (dataT (base + j) py) cv) := fun cv => by rw [HD.out cv, if_pos (by decide), hj]; rfl
    have hjl : j < 50 := by omega
    refine wp_region_noPanic ?_
    refine wp_region_held_drew (S := fun W => W.cell? ⟨bx, 1, none⟩ = some (.int .i64 n) ∧ W.cell? ⟨bx, 2, none⟩ = some (.string py)) (by kernel_rfl) ⟨e1, e2⟩ (fun hHeld => ?_)
    refine wpAnyH_take (i := 0) (v := ?vt13) rfl (by kernel_rfl) (by kernel_rfl) (by kernel_rfl) (fun _ _ _ h => h) (Or.inl ⟨by rfl, ?yt13⟩) hHeld ?rt13
    case yt13 => ((intro W hSw; obtain ⟨hS0, hS1⟩ := hSw; go_simp) <;> with_reducible rfl)
    try simp only [Act.put]
    try simp only [List.getElem_toArray]
    try simp only [List.getElem_cons_succ]
    try simp only [List.getElem_cons_zero]
    try simp only [List.setIfInBounds_toArray]
    try simp only [List.set_cons_succ]
    try simp only [List.set_cons_zero]
    refine wpAnyH_take (i := 1) (v := ?vt14) rfl (by kernel_rfl) (by kernel_rfl) (by kernel_rfl) (fun _ _ _ h => h) (Or.inl ⟨by rfl, ?yt14⟩) hHeld ?rt14
    case yt14 => ((intro W hSw; obtain ⟨hS0, hS1⟩ := hSw; go_simp) <;> with_reducible rfl)
    try simp only [Act.put]
    try simp only [List.getElem_toArray]
    try simp only [List.getElem_cons_succ]
    try simp only [List.getElem_cons_zero]
    try simp only [List.setIfInBounds_toArray]
    try simp only [List.set_cons_succ]
    try simp only [List.set_cons_zero]
    refine wpAnyH_take (i := 2) (v := ?vt15) rfl (by kernel_rfl) (by kernel_rfl) (by kernel_rfl) (fun _ _ _ h => h) (Or.inl ⟨by rfl, ?yt15⟩) hHeld ?rt15
    case yt15 => ((intro W hSw; obtain ⟨hS0, hS1⟩ := hSw; go_simp) <;> with_reducible rfl)
    try simp only [Act.put]
    try simp only [List.getElem_toArray]
    try simp only [List.getElem_cons_succ]
    try simp only [List.getElem_cons_zero]
    try simp only [List.setIfInBounds_toArray]
    try simp only [List.set_cons_succ]
    try simp only [List.set_cons_zero]
    refine wpAnyH_take (i := 3) (v := ?vt16) rfl (by kernel_rfl) (by kernel_rfl) (by kernel_rfl) (fun _ _ _ h => h) (Or.inl ⟨by rfl, ?yt16⟩) hHeld ?rt16
    case yt16 => ((intro W hSw; obtain ⟨hS0, hS1⟩ := hSw; go_simp) <;> with_reducible rfl)
    try simp only [Act.put]
    try simp only [List.getElem_toArray]
    try simp only [List.getElem_cons_succ]
    try simp only [List.getElem_cons_zero]
    try simp only [List.setIfInBounds_toArray]
    try simp only [List.set_cons_succ]
    try simp only [List.set_cons_zero]
    refine wpAnyH_take (i := 6) (v := ?vt17) rfl (by kernel_rfl) (by kernel_rfl) (by kernel_rfl) (fun _ _ _ h => h) (Or.inl ⟨by rfl, ?yt17⟩) hHeld ?rt17
    case yt17 => ((intro W hSw; obtain ⟨hS0, hS1⟩ := hSw; go_simp) <;> with_reducible rfl)
    try simp only [Act.put]
    try simp only [List.getElem_toArray]
    try simp only [List.getElem_cons_succ]
    try simp only [List.getElem_cons_zero]
    try simp only [List.setIfInBounds_toArray]
    try simp only [List.set_cons_succ]
    try simp only [List.set_cons_zero]
    refine wpAnyH_take (i := 7) (v := ?vt18) rfl (by kernel_rfl) (by kernel_rfl) (by kernel_rfl) (fun _ _ _ h => h) (Or.inl ⟨by rfl, ?yt18⟩) hHeld ?rt18
    case yt18 => ((intro W hSw; obtain ⟨hS0, hS1⟩ := hSw; go_simp) <;> with_reducible rfl)
    try simp only [Act.put]
    try simp only [List.getElem_toArray]
    try simp only [List.getElem_cons_succ]
    try simp only [List.getElem_cons_zero]
    try simp only [List.setIfInBounds_toArray]
    try simp only [List.set_cons_succ]
    try simp only [List.set_cons_zero]
    refine wpAnyH_ready (rs := [4]) (by kernel_rfl) (by simp) ?_
    refine AllReadyH.cons rfl (fun K hK => ?_) AllReadyH.nil
    go_simp
    refine (pick_any n 50 _ hn.1 hn.2 (by omega) (by omega)).mono ?_
    rintro e w1 ⟨rfl, hw1⟩
    rw [hw1, hj]
    clear hw1 w1
    go_simp
    refine hK.out _ _ hHeld (fun hHeld => ?_)
    clear hK K
    try simp only [Act.put]
    try simp only [List.getElem_toArray]
    try simp only [List.getElem_cons_succ]
    try simp only [List.getElem_cons_zero]
    try simp only [List.setIfInBounds_toArray]
    try simp only [List.set_cons_succ]
    try simp only [List.set_cons_zero]
    have hbk : IntKind.i64.wrap ((base : Int) + (j : Int)) = ((base + j : Nat) : Int) := by rw [i64_id _ (by omega) (by omega)]; rfl
    refine wpAnyH_take (i := 5) (v := ?vt19) rfl (by kernel_rfl) (by kernel_rfl) (by kernel_rfl) (fun _ _ _ h => h) (Or.inl ⟨by rfl, ?yt19⟩) hHeld ?rt19
    case yt19 => ((intro W hSw; obtain ⟨hS0, hS1⟩ := hSw; go_simp) <;> with_reducible rfl)
    try simp only [Act.put]
    try simp only [List.getElem_toArray]
    try simp only [List.getElem_cons_succ]
    try simp only [List.getElem_cons_zero]
    try simp only [List.setIfInBounds_toArray]
    try simp only [List.set_cons_succ]
    try simp only [List.set_cons_zero]
    refine wpAnyH_ready (rs := [8]) (by kernel_rfl) (by simp) ?_
    refine AllReadyH.cons rfl (fun K hK => ?_) AllReadyH.nil
    go_simp
    refine (data_any (base + j) py _ (by omega) hpy).mono ?_
    rintro e w1 ⟨rfl, hb1⟩
    have HB1 : Hid (Below W0.heap.size W0 w1) := ((Below.refl _ _).drew).trans hb1
    have g1 := (hb1.cell (p := ⟨bx, 1, none⟩) (lt_of_cell e1)).trans e1
    have g2 := (hb1.cell (p := ⟨bx, 2, none⟩) (lt_of_cell e2)).trans e2
    have HM1 : Hid (MdAt w1 ρ mb M sv wv SB WB) := H0.out.below HB1.out
    have hds := (dataT_small (base + j) py)
    clear hb1
    go_simp
    refine hK.out _ _ ⟨g1, g2⟩ (fun hHeld => ?_)
    clear hK K
    try simp only [Act.put]
    try simp only [List.getElem_toArray]
    try simp only [List.getElem_cons_succ]
    try simp only [List.getElem_cons_zero]
    try simp only [List.setIfInBounds_toArray]
    try simp only [List.set_cons_succ]
    try simp only [List.set_cons_zero]
    refine wpAnyH_ready (rs := [9]) (by kernel_rfl) (by simp) ?_
    refine AllReadyH.cons rfl (fun K hK => ?_) AllReadyH.nil
    go_simp
    refine (packet_any ρ mb M sv wv SB WB (dataT (base + j) py) _ HM1.out Hok.out.ok (by unfold maxLen; omega)).mono ?_
    rintro e w2 ⟨cv, tv, rfl, hmv⟩
    have k1 := hmv.cell g1 hbz
    have k2 := hmv.cell g2 hbz
    obtain ⟨ta, tc, rfl⟩ := hmv.shape
    have HF : Hid (MovedT w w2 ρ mb (packetM M (dataT (base + j) py) cv).1 (.slice ta (packetM M (dataT (base + j) py) cv).2.1.length tc) (packetM M (dataT (base + j) py) cv).2.1) := HBF.out _ _ _ _ _ HB1.out hmv
    clear hmv
    go_simp
    refine hK.out _ _ ⟨k1, k2⟩ (fun hHeld => ?_)
    clear hK K
    try simp only [Act.put]
    try simp only [List.getElem_toArray]
    try simp only [List.getElem_cons_succ]
    try simp only [List.getElem_cons_zero]
    try simp only [List.setIfInBounds_toArray]
    try simp only [List.set_cons_succ]
    try simp only [List.set_cons_zero]
    refine wpAnyH_take (i := 10) (v := ?vt20) rfl (by kernel_rfl) (by kernel_rfl) (by kernel_rfl) (fun _ _ _ h => h) (Or.inl ⟨by rfl, ?yt20⟩) hHeld ?rt20
    case yt20 => ((intro W hSw; obtain ⟨hS0, hS1⟩ := hSw; go_simp) <;> with_reducible rfl)
    try simp only [Act.put]
    try simp only [List.getElem_toArray]
    try simp only [List.getElem_cons_succ]
    try simp only [List.getElem_cons_zero]
    try simp only [List.setIfInBounds_toArray]
    try simp only [List.set_cons_succ]
    try simp only [List.set_cons_zero]
    refine wpAnyH_take (i := 11) (v := ?vt21) rfl (by kernel_rfl) (by kernel_rfl) (by kernel_rfl) (fun _ _ _ h => h) (Or.inl ⟨by rfl, ?yt21⟩) hHeld ?rt21
    case yt21 => ((intro W hSw; obtain ⟨hS0, hS1⟩ := hSw; go_simp) <;> with_reducible rfl)
    try simp only [Act.put]
    try simp only [List.getElem_toArray]
    try simp only [List.getElem_cons_succ]
    try simp only [List.getElem_cons_zero]
    try simp only [List.setIfInBounds_toArray]
    try simp only [List.set_cons_succ]
    try simp only [List.set_cons_zero]
    refine wpAnyH_take (i := 12) (v := ?vt22) rfl (by kernel_rfl) (by kernel_rfl) (by kernel_rfl) (fun _ _ _ h => h) (Or.inl ⟨by rfl, ?yt22⟩) hHeld ?rt22
    case yt22 => ((intro W hSw; obtain ⟨hS0, hS1⟩ := hSw; go_simp) <;> with_reducible rfl)
    try simp only [Act.put]
    try simp only [List.getElem_toArray]
    try simp only [List.getElem_cons_succ]
    try simp only [List.getElem_cons_zero]
    try simp only [List.setIfInBounds_toArray]
    try simp only [List.set_cons_succ]
    try simp only [List.set_cons_zero]
    refine wpAnyH_take (i := 13) (v := ?vt23) rfl (by kernel_rfl) (by kernel_rfl) (by kernel_rfl) (fun _ _ _ h => h) (Or.inl ⟨by rfl, ?yt23⟩) hHeld ?rt23
    case yt23 => ((intro W hSw; obtain ⟨hS0, hS1⟩ := hSw; go_simp) <;> with_reducible rfl)
    try simp only [Act.put]
    try simp only [List.getElem_toArray]
    try simp only [List.getElem_cons_succ]
    try simp only [List.getElem_cons_zero]
    try simp only [List.setIfInBounds_toArray]
    try simp only [List.set_cons_succ]
    try simp only [List.set_cons_zero]
    refine wpAnyH_take (i := 14) (v := ?vt24) rfl (by kernel_rfl) (by kernel_rfl) (by kernel_rfl) (fun _ _ _ h => h) (Or.inl ⟨by rfl, ?yt24⟩) hHeld ?rt24
    case yt24 => ((intro W hSw; obtain ⟨hS0, hS1⟩ := hSw; go_simp) <;> with_reducible rfl)
    try simp only [Act.put]
    try simp only [List.getElem_toArray]
    try simp only [List.getElem_cons_succ]
    try simp only [List.getElem_cons_zero]
    try simp only [List.setIfInBounds_toArray]
    try simp only [List.set_cons_succ]
    try simp only [List.set_cons_zero]
    refine wpAnyH_done (by kernel_rfl) ?_ _
    refine NoPanic.normal ?_
    clear hHeld k1 k2 g1 g2 e1 e2
    go_wp2
    go_ret2
    refine ⟨cv, .slice ta (packetM M (dataT (base + j) py) cv).2.1.length tc, ?_, ?_⟩
    · rw [HD1.out cv]; rfl
    · rw [HD1.out cv]
      exact HF.out
  · go_wp2
    have p0 := pickF_lo n 50 (by omega)
    have p1 := pickF_hi n 50 (by omega)
    obtain ⟨j, hj⟩ : ∃ j : Nat, pickF n 50 = (j : Int) := Int.eq_ofNat_of_zero_le p0
    have HD1 : Hid (∀ cv, doesM M what n py base cv = packetM M (dataT (base + j) py) cv) := fun cv => by rw [HD.out cv, if_pos (by decide), hj]; rfl
    have hjl : j < 50 := by omega
    refine wp_region_noPanic ?_
    refine wp_region_held_drew (S := fun W => W.cell? ⟨bx, 1, none⟩ = some (.int .i64 n) ∧ W.cell? ⟨bx, 2, none⟩ = some (.string py)) (by kernel_rfl) ⟨e1, e2⟩ (fun hHeld => ?_)
    refine wpAnyH_take (i := 0) (v := ?vt25) rfl (by kernel_rfl) (by kernel_rfl) (by kernel_rfl) (fun _ _ _ h => h) (Or.inl ⟨by rfl, ?yt25⟩) hHeld ?rt25
    case yt25 => ((intro W hSw; obtain ⟨hS0, hS1⟩ := hSw; go_simp) <;> with_reducible rfl)
    try simp only [Act.put]
    try simp only [List.getElem_toArray]
    try simp only [List.getElem_cons_succ]
    try simp only [List.getElem_cons_zero]
    try simp only [List.setIfInBounds_toArray]
    try simp only [List.set_cons_succ]
    try simp only [List.set_cons_zero]
    refine wpAnyH_take (i := 1) (v := ?vt26) rfl (by kernel_rfl) (by kernel_rfl) (by kernel_rfl) (fun _ _ _ h => h) (Or.inl ⟨by rfl, ?yt26⟩) hHeld ?rt26
    case yt26 => ((intro W hSw; obtain ⟨hS0, hS1⟩ := hSw; go_simp) <;> with_reducible rfl)
    try simp only [Act.put]
    try simp only [List.getElem_toArray]
    try simp only [List.getElem_cons_succ]
    try simp only [List.getElem_cons_zero]
    try simp only [List.setIfInBounds_toArray]
    try simp only [List.set_cons_succ]
    try simp only [List.set_cons_zero]
    refine wpAnyH_take (i := 2) (v := ?vt27) rfl (by kernel_rfl) (by kernel_rfl) (by kernel_rfl) (fun _ _ _ h => h) (Or.inl ⟨by rfl, ?yt27⟩) hHeld ?rt27
    case yt27 => ((intro W hSw; obtain ⟨hS0, hS1⟩ := hSw; go_simp) <;> with_reducible rfl)
    try simp only [Act.put]
    try simp only [List.getElem_toArray]
    try simp only [List.getElem_cons_succ]
    try simp only [List.getElem_cons_zero]
    try simp only [List.setIfInBounds_toArray]
    try simp only [List.set_cons_succ]
    try simp only [List.set_cons_zero]
    refine wpAnyH_take (i := 3) (v := ?vt28) rfl (by kernel_rfl) (by kernel_rfl) (by kernel_rfl) (fun _ _ _ h => h) (Or.inl ⟨by rfl, ?yt28⟩) hHeld ?rt28
    case yt28 => ((intro W hSw; obtain ⟨hS0, hS1⟩ := hSw; go_simp) <;> with_reducible rfl)
    try simp only [Act.put]
    try simp only [List.getElem_toArray]
    try simp only [List.getElem_cons_succ]
    try simp only [List.getElem_cons_zero]
    try simp only [List.setIfInBounds_toArray]
    try simp only [List.set_cons_succ]
    try simp only [List.set_cons_zero]
    refine wpAnyH_take (i := 6) (v := ?vt29) rfl (by kernel_rfl) (by kernel_rfl) (by kernel_rfl) (fun _ _ _ h => h) (Or.inl ⟨by rfl, ?yt29⟩) hHeld ?rt29
    case yt29 => ((intro W hSw; obtain ⟨hS0, hS1⟩ := hSw; go_simp) <;> with_reducible rfl)
    try simp only [Act.put]
    try simp only [List.getElem_toArray]
    try simp only [List.getElem_cons_succ]
    try simp only [List.getElem_cons_zero]
    try simp only [List.setIfInBounds_toArray]
    try simp only [List.set_cons_succ]
    try simp only [List.set_cons_zero]
    refine wpAnyH_take (i := 7) (v := ?vt30) rfl (by kernel_rfl) (by kernel_rfl) (by kernel_rfl) (fun _ _ _ h => h) (Or.inl ⟨by rfl, ?yt30⟩) hHeld ?rt30
    case yt30 => ((intro W hSw; obtain ⟨hS0, hS1⟩ := hSw; go_simp) <;> with_reducible rfl)
    try simp only [Act.put]
    try simp only [List.getElem_toArray]
    try simp only [List.getElem_cons_succ]
    try simp only [List.getElem_cons_zero]
    try simp only [List.setIfInBounds_toArray]
    try simp only [List.set_cons_succ]
    try simp only [List.set_cons_zero]
    refine wpAnyH_ready (rs := [4]) (by kernel_rfl) (by simp) ?_
    refine AllReadyH.cons rfl (fun K hK => ?_) AllReadyH.nil
    go_simp
    refine (pick_any n 50 _ hn.1 hn.2 (by omega) (by omega)).mono ?_
    rintro e w1 ⟨rfl, hw1⟩
    rw [hw1, hj]
    clear hw1 w1
    go_simp
    refine hK.out _ _ hHeld (fun hHeld => ?_)
    clear hK K
    try simp only [Act.put]
    try simp only [List.getElem_toArray]
    try simp only [List.getElem_cons_succ]
    try simp only [List.getElem_cons_zero]
    try simp only [List.setIfInBounds_toArray]
    try simp only [List.set_cons_succ]
    try simp only [List.set_cons_zero]
    have hbk : IntKind.i64.wrap ((base : Int) + (j : Int)) = ((base + j : Nat) : Int) := by rw [i64_id _ (by omega) (by omega)]; rfl
    refine wpAnyH_take (i := 5) (v := ?vt31) rfl (by kernel_rfl) (by kernel_rfl) (by kernel_rfl) (fun _ _ _ h => h) (Or.inl ⟨by rfl, ?yt31⟩) hHeld ?rt31
    case yt31 => ((intro W hSw; obtain ⟨hS0, hS1⟩ := hSw; go_simp) <;> with_reducible rfl)
    try simp only [Act.put]
    try simp only [List.getElem_toArray]
    try simp only [List.getElem_cons_succ]
    try simp only [List.getElem_cons_zero]
    try simp only [List.setIfInBounds_toArray]
    try simp only [List.set_cons_succ]
    try simp only [List.set_cons_zero]
    refine wpAnyH_ready (rs := [8]) (by kernel_rfl) (by simp) ?_
    refine AllReadyH.cons rfl (fun K hK => ?_) AllReadyH.nil
    go_simp
    refine (data_any (base + j) py _ (by omega) hpy).mono ?_
    rintro e w1 ⟨rfl, hb1⟩
    have HB1 : Hid (Below W0.heap.size W0 w1) := ((Below.refl _ _).drew).trans hb1
    have g1 := (hb1.cell (p := ⟨bx, 1, none⟩) (lt_of_cell e1)).trans e1
    have g2 := (hb1.cell (p := ⟨bx, 2, none⟩) (lt_of_cell e2)).trans e2
    have HM1 : Hid (MdAt w1 ρ mb M sv wv SB WB) := H0.out.below HB1.out
    have hds := (dataT_small (base + j) py)
    clear hb1
    go_simp
    refine hK.out _ _ ⟨g1, g2⟩ (fun hHeld => ?_)
    clear hK K
    try simp only [Act.put]
    try simp only [List.getElem_toArray]
    try simp only [List.getElem_cons_succ]
    try simp only [List.getElem_cons_zero]
    try simp only [List.setIfInBounds_toArray]
    try simp only [List.set_cons_succ]
    try simp only [List.set_cons_zero]
    refine wpAnyH_ready (rs := [9]) (by kernel_rfl) (by simp) ?_
    refine AllReadyH.cons rfl (fun K hK => ?_) AllReadyH.nil
    go_simp
    refine (packet_any ρ mb M sv wv SB WB (dataT (base + j) py) _ HM1.out Hok.out.ok (by unfold maxLen; omega)).mono ?_
    rintro e w2 ⟨cv, tv, rfl, hmv⟩
    have k1 := hmv.cell g1 hbz
    have k2 := hmv.cell g2 hbz
    obtain ⟨ta, tc, rfl⟩ := hmv.shape
    have HF : Hid (MovedT w w2 ρ mb (packetM M (dataT (base + j) py) cv).1 (.slice ta (packetM M (dataT (base + j) py) cv).2.1.length tc) (packetM M (dataT (base + j) py) cv).2.1) := HBF.out _ _ _ _ _ HB1.out hmv
    clear hmv
    go_simp
    refine hK.out _ _ ⟨k1, k2⟩ (fun hHeld => ?_)
    clear hK K
    try simp only [Act.put]
    try simp only [List.getElem_toArray]
    try simp only [List.getElem_cons_succ]
    try simp only [List.getElem_cons_zero]
    try simp only [List.setIfInBounds_toArray]
    try simp only [List.set_cons_succ]
    try simp only [List.set_cons_zero]
    refine wpAnyH_take (i := 10) (v := ?vt32) rfl (by kernel_rfl) (by kernel_rfl) (by kernel_rfl) (fun _ _ _ h => h) (Or.inl ⟨by rfl, ?yt32⟩) hHeld ?rt32
    case yt32 => ((intro W hSw; obtain ⟨hS0, hS1⟩ := hSw; go_simp) <;> with_reducible rfl)
    try simp only [Act.put]
    try simp only [List.getElem_toArray]
    try simp only [List.getElem_cons_succ]
    try simp only [List.getElem_cons_zero]
    try simp only [List.setIfInBounds_toArray]
    try simp only [List.set_cons_succ]
    try simp only [List.set_cons_zero]
    refine wpAnyH_take (i := 11) (v := ?vt33) rfl (by kernel_rfl) (by kernel_rfl) (by kernel_rfl) (fun _ _ _ h => h) (Or.inl ⟨by rfl, ?yt33⟩) hHeld ?rt33
    case yt33 => ((intro W hSw; obtain ⟨hS0, hS1⟩ := hSw; go_simp) <;> with_reducible rfl)
    try simp only [Act.put]
    try simp only [List.getElem_toArray]
    try simp only [List.getElem_cons_succ]
    try simp only [List.getElem_cons_zero]
    try simp only [List.setIfInBounds_toArray]
    try simp only [List.set_cons_succ]
    try simp only [List.set_cons_zero]
    refine wpAnyH_take (i := 12) (v := ?vt34) rfl (by kernel_rfl) (by kernel_rfl) (by kernel_rfl) (fun _ _ _ h => h) (Or.inl ⟨by rfl, ?yt34⟩) hHeld ?rt34
    case yt34 => ((intro W hSw; obtain ⟨hS0, hS1⟩ := hSw; go_simp) <;> with_reducible rfl)
    try simp only [Act.put]
    try simp only [List.getElem_toArray]
    try simp only [List.getElem_cons_succ]
    try simp only [List.getElem_cons_zero]
    try simp only [List.setIfInBounds_toArray]
    try simp only [List.set_cons_succ]
    try simp only [List.set_cons_zero]
    refine wpAnyH_take (i := 13) (v := ?vt35) rfl (by kernel_rfl) (by kernel_rfl) (by kernel_rfl) (fun _ _ _ h => h) (Or.inl ⟨by rfl, ?yt35⟩) hHeld ?rt35
    case yt35 => ((intro W hSw; obtain ⟨hS0, hS1⟩ := hSw; go_simp) <;> with_reducible rfl)
    try simp only [Act.put]
    try simp only [List.getElem_toArray]
    try simp only [List.getElem_cons_succ]
    try simp only [List.getElem_cons_zero]
    try simp only [List.setIfInBounds_toArray]
    try simp only [List.set_cons_succ]
    try simp only [List.set_cons_zero]
    refine wpAnyH_take (i := 14) (v := ?vt36) rfl (by kernel_rfl) (by kernel_rfl) (by kernel_rfl) (fun _ _ _ h => h) (Or.inl ⟨by rfl, ?yt36⟩) hHeld ?rt36
    case yt36 => ((intro W hSw; obtain ⟨hS0, hS1⟩ := hSw; go_simp) <;> with_reducible rfl)
    try simp only [Act.put]
    try simp only [List.getElem_toArray]
    try simp only [List.getElem_cons_succ]
    try simp only [List.getElem_cons_zero]
    try simp only [List.setIfInBounds_toArray]
    try simp only [List.set_cons_succ]
    try simp only [List.set_cons_zero]
    refine wpAnyH_done (by kernel_rfl) ?_ _
    refine NoPanic.normal ?_
    clear hHeld k1 k2 g1 g2 e1 e2
    go_wp2
    go_ret2
    refine ⟨cv, .slice ta (packetM M (dataT (base + j) py) cv).2.1.length tc, ?_, ?_⟩
    · rw [HD1.out cv]; rfl
    · rw [HD1.out cv]
      exact HF.out
  · have p0 := pickF_lo n 60 (by omega)
    have p1 := pickF_hi n 60 (by omega)
    obtain ⟨j, hj⟩ : ∃ j : Nat, pickF n 60 = (j : Int) := Int.eq_ofNat_of_zero_le p0
    have HD1 : Hid (∀ cv, doesM M what n py base cv = reportM M 1 (askT (65530 + j))) := fun cv => by rw [HD.out cv, if_neg (by decide), if_pos rfl, hj]; rfl
    have hjl : j < 60 := by omega
    go_wp2_with fail
    refine (pick_any n 60 _ hn.1 hn.2 (by omega) (by omega)).mono ?_
    rintro e w1 ⟨rfl, hw1⟩
    rw [hw1, hj]
    clear hw1 w1
    have hbk : IntKind.i64.wrap (65530 + (j : Int)) = ((65530 + j : Nat) : Int) := by rw [i64_id _ (by omega) (by omega)]; rfl
    go_wp2_with fail
    refine (asking_any (65530 + j) _ (by omega)).mono ?_
    rintro e w1 ⟨rfl, hb1⟩
    have HB1 : Hid (Below W0.heap.size W0 w1) := hb1
    have HM1 : Hid (MdAt w1 ρ mb M sv wv SB WB) := H0.out.below hb1
    have hds : (askT (65530 + j)).size ≤ 1500 := askR_small _ (Nat.mod_lt _ (by decide))
    clear hb1 e1 e2
    generalize askT (65530 + j) = at_ at *
    go_wp2_with fail
    refine (report_any ρ mb M sv wv SB WB 1 at_ _ HM1.out Hok.out.ok Hok.out.kk (by unfold maxLen; omega)).mono ?_
    rintro e w2 ⟨tv, rfl, hmv⟩
    obtain ⟨ta, tc, rfl⟩ := hmv.shape
    have HF : Hid (MovedT w w2 ρ mb (reportM M 1 at_).1 (.slice ta (reportM M 1 at_).2.1.length tc) (reportM M 1 at_).2.1) := HBF.out _ _ _ _ _ HB1.out hmv
    clear hmv
    go_wp2
    go_ret2
    refine ⟨.bool true, .slice ta (reportM M 1 at_).2.1.length tc, ?_, ?_⟩
    · rw [HD1.out]; rfl
    · rw [HD1.out]
      exact HF.out
  · have p0 := pickF_lo n 40 (by omega)
    have p1 := pickF_hi n 40 (by omega)
    have HD1 : Hid (∀ cv, doesM M what n py base cv = tickM M (pickF n 40)) := fun cv => by rw [HD.out cv, if_neg (by decide), if_neg (by decide)]
    go_wp2_with fail
    refine (pick_any n 40 _ hn.1 hn.2 (by omega) (by omega)).mono ?_
    rintro e w1 ⟨rfl, hw1⟩
    rw [hw1]
    clear hw1 w1 e1 e2
    generalize pickF n 40 = tn at *
    go_wp2_with fail
    refine (tick_any ρ mb M sv wv SB WB tn _ H0.out Hok.out.ok Hok.out.sn Hok.out.now).mono ?_
    rintro e w2 ⟨tv, rfl, hmv⟩
    obtain ⟨ta, tc, rfl⟩ := hmv.shape
    have HF : Hid (MovedT w w2 ρ mb (tickM M tn).1 (.slice ta (tickM M tn).2.1.length tc) (tickM M tn).2.1) := HBF.out _ _ _ _ _ (Below.refl _ _) hmv
    clear hmv
    go_wp2
    go_ret2
    refine ⟨.bool true, .slice ta (tickM M tn).2.1.length tc, ?_, ?_⟩
    · rw [HD1.out]; rfl
    · rw [HD1.out]
      exact HF.out

end Go.Proofs.Ytdjhhnolcafkiaa
