/- slices.Delete[[]flow.numbered[mender/flow.gap]]: elements of 3 cells. -/
import Derived.Test.YtdjhhnolcafkiaaGreatG01
import Derived.Test.YtdjhhnolcafkiaaGreatG02
import Derived.Deep.RegionHeld
import Derived.Test.YtdjhhnolcafkiaaGreatG03
import Derived.Deep.QuietTactic
import Derived.BigQuiet
import Derived.Outline
namespace Go.Proofs.YtdjhhnolcafkiaaGreat
open Go.RowKit
namespace Pk
theorem zeroG (w : World) : (zeroValue 162).run Tryz.prog w = .ok (.agg #[.int .u16 0, .int .i64 0, .int .i64 0]) w := by kernel_rfl
theorem infoG : (Tryz.prog.info? 162).map (fun i => (i.zero, i.size, i.bytes)) = some (some (.agg #[.int .u16 0, .int .i64 0, .int .i64 0]), 3, 24) := by kernel_rfl

theorem wp_append_shiftG {w : World} {o : Oper} {a : Act} {K : Act → World → Prop} {Q : Exit → Act → World → Prop} (s x : Operand)
    (ho : o.op = .call { callee := .builtin .append, args := #[s, x], argTypes := #[129, 129] }) (g i cap : Nat) (hs : a.eval s = .slice (some ⟨g, 0, none⟩) i cap) (ad : Addr) (m c : Nat) (news : List Value)
    (hx : a.eval x = .slice (some ad) m c) (hl : news.length = m * 3) (hnews : ∀ j u, news[j]? = some u → w.cell? (ad.add j) = some u) (h1 : ∀ u ∈ news, u.oneCell' = true) (hroom : i + m ≤ cap)
    (hc : ∀ j, j < news.length → (w.cell? ⟨g, 0 + i * 3 + j, none⟩).isSome = true) (hf : ∀ j, j < news.length → w.frozen? ⟨g, 0 + i * 3 + j, none⟩ = false)
    (h : K (a.put o.dst (.slice (some ⟨g, 0, none⟩) (i + m) cap)) (w.setCells g (0 + i * 3) news)) : o.wp Tryz.prog a w K Q := by
  obtain ⟨i0, hi, hz0, hz1, hz2⟩ := info_parts infoG
  have hr := run_append_room_cells (P := Tryz.prog) (w := w) 129 o.type 162 i0 Tryz.underlying129 hi g 0 i cap ad m c news (by rw [hz1]; exact hl) hnews h1 hroom (by rw [hz1]; exact hc) (by rw [hz1]; exact hf)
  rw [hz1] at hr
  unfold Oper.wp execOp
  simp only [ho, resolve, invoke, builtin, Sem.run_bind, Sem.run_pure, Result.andThen_ok, List.map_toArray, List.map_cons, List.map_nil, hs, hx, hr]
  exact h
end Pk
open Pk

set_option maxRecDepth 20000 in
set_option maxHeartbeats 4000000 in
theorem deleteG_any (base : Nat) (v : Value) (n i j : Nat) (xs : List Value) (w : World) (hown : w.ownsRow base 162 3 v n xs) (h1 : ∀ u ∈ xs, u.oneCell' = true) (hij : i ≤ j) (hjn : j ≤ n) (hn : n ≤ 100000) :
    Calls Tryz.prog 127 #[v, .int .i64 i, .int .i64 j] w fun e w' => ∃ v', e = .returned v' ∧ w'.ownsRow base 162 3 v' (n - (j - i)) (xs.take (i * 3) ++ xs.drop (j * 3)) ∧ w.grownBy w' v.ownBlock ∧ v'.ownBlock = v.ownBlock := by
  obtain ⟨ao, cap, rfl⟩ := rowA_shape hown
  have hxl := hown.1
  have hcap : n ≤ cap ∧ (cap : Int) ≤ 9223372036854775807 := by
    obtain ⟨_, ⟨h2, h0⟩ | ⟨g, cap', cur, e', _, _, hn', hm', _⟩⟩ := hown
    · simp only [Value.slice.injEq] at h2
      omega
    · simp only [Value.slice.injEq] at e'
      unfold maxLen at hm'
      omega
  obtain ⟨hcap, hcm⟩ := hcap
  have hcapi : (n : Int) ≤ cap := by omega
  have hiji : (i : Int) ≤ j := by omega
  have hjni : (j : Int) ≤ n := by omega
  have hic : i ≤ cap := by omega
  have hjc : j ≤ cap := by omega
  by_cases hlt : i < j
  · obtain ⟨g, rfl⟩ := rowA_some hown (by omega)
    have hne : ((i : Int) == (j : Int)) = false := by rw [beq_eq_false_iff_ne]; omega
    have hc0 : ¬ cap = 0 := by omega
    have Hown := Pk.hid hown
    have H1 := Pk.hid h1
    have Hxl := Pk.hid hxl
    clear hown h1 hxl
    by_cases hcj : cap = j
    · obtain rfl : n = j := by omega
      obtain rfl : n = cap := by omega
      go_enter Tryz.func127, Tryz.ntmps127
      go_wp2
      refine wp_region_noPanic ?_
      refine wp_region_held_drew (S := fun _ => True) (by kernel_rfl) trivial (fun hHeld => ?_)
      refine tkH 0 ?_ hHeld ?_ ?_; rotate_left
      · ((intro W hSw; go_simp) <;> with_reducible rfl)
      refine tkH 1 ?_ hHeld ?_ ?_; rotate_left
      · ((intro W hSw; go_simp) <;> with_reducible rfl)
      refine tkH 2 ?_ hHeld ?_ ?_; rotate_left
      · ((intro W hSw; go_simp) <;> with_reducible rfl)
      refine tkH 3 ?_ hHeld ?_ ?_; rotate_left
      · ((intro W hSw; go_simp) <;> with_reducible rfl)
      refine tkH 4 ?_ hHeld ?_ ?_; rotate_left
      · ((intro W hSw; go_simp) <;> with_reducible rfl)
      refine tkH 5 ?_ hHeld ?_ ?_; rotate_left
      · ((intro W hSw; go_simp) <;> with_reducible rfl)
      refine wpAnyH_ready (rs := [6]) (by kernel_rfl) (by simp) ?_
      refine AllReadyH.cons rfl (fun K hK => ?_) AllReadyH.nil
      rw [if_pos (by rfl)]
      refine wp_append_shiftG (.tmp 22) (.tmp 25) rfl g i n (by rfl) _ 0 _ [] (by rfl) (by simp) (fun q u hq => by simp at hq) (fun u hu => by simp at hu) (by omega) (fun q hq => by simp at hq) (fun q hq => by simp at hq) ?_
      refine hK.out _ _ trivial (fun hHeld => ?_)
      clear hK K
      try simp only [Act.put]
      try simp only [List.getElem_toArray]
      try simp only [List.getElem_cons_succ]
      try simp only [List.getElem_cons_zero]
      try simp only [List.setIfInBounds_toArray]
      try simp only [List.set_cons_succ]
      try simp only [List.set_cons_zero]
      refine tkH 7 ?_ hHeld ?_ ?_; rotate_left
      · ((intro W hSw; go_simp) <;> with_reducible rfl)
      refine wpAnyH_done (by kernel_rfl) ?_ _
      refine NoPanic.normal ?_
      have R1 : (w.drew).ownsRow base 162 3 (.slice (some ⟨g, 0, none⟩) n n) n xs := World.ownsRow.drew Hown.out
      obtain ⟨zs, hzl, hcl⟩ := run_clear_row (P := Tryz.prog) w.drew 129 162 0 (.agg #[.int .u16 0, .int .i64 0, .int .i64 0]) Tryz.underlying129 zeroG (by intro u hu; simp [Value.cells] at hu; rcases hu with rfl | rfl <;> rfl) (by decide) g (i * 3) (n - i) (n - i) (by omega) (fun q hq => by
        have hq' : q < (n - i) * 3 := hq
        have := R1.cellAt (i * 3 + q) (by omega)
        rw [this, List.getElem?_eq_getElem (by rw [Hxl.out]; omega)]
        rfl) (fun q _ => R1.frozenAt _)
      have hzl' : zs.length = (n - i) * 3 := hzl
      obtain ⟨R3, R4⟩ := row_writes zs (i * 3) w.drew _ R1 (by rw [hzl', Hxl.out]; omega)
      have F1 : Hid (World.ownsRow (w.drew.setCells g (i * 3) zs) base 162 3 (.slice (some ⟨g, 0, none⟩) i n) i (xs.take (i * 3) ++ xs.drop (n * 3))) := by
        have h := row_fewer R3 (m := i) (by omega) (.inl (by simp))
        have e : (xs.take (i * 3) ++ zs ++ xs.drop (i * 3 + zs.length)).take (i * 3) = xs.take (i * 3) ++ xs.drop (n * 3) := by
          rw [List.drop_of_length_le (i := n * 3) (by rw [Hxl.out]; omega), List.append_nil, List.append_assoc, List.take_left' (by rw [List.length_take, Hxl.out]; omega)]
        rw [e] at h
        exact h
      have F2 : Hid (w.grownBy (w.drew.setCells g (i * 3) zs) (some g)) := (World.grownBy_drewX w (some g)).trans R4
      have hcc : ∀ ty, (Builtin.clear_ #[129] ty #[.slice (some ⟨g, i * 3, none⟩) (n - i) (n - i)]).run Tryz.prog (w.drew.setCells g (i * 3) []) = .ok (.tuple #[]) (w.drew.setCells g (i * 3) zs) := fun ty => hcl
      have Hnn : Hid (n - (n - i) = i) := by show _ = _; omega
      have hnn3 : ¬ n = i := by omega
      clear hcl R1 R3 R4 hzl hzl'
      go_wp2_with (simp only [hcc])
      go_ret
      rw [Hnn.out]
      exact ⟨_, rfl, F1.out, F2.out, rfl⟩
    · go_enter Tryz.func127, Tryz.ntmps127
      go_wp2
      refine wp_region_noPanic ?_
      refine wp_region_held_drew (S := fun _ => True) (by kernel_rfl) trivial (fun hHeld => ?_)
      refine tkH 0 ?_ hHeld ?_ ?_; rotate_left
      · ((intro W hSw; go_simp) <;> with_reducible rfl)
      refine tkH 1 ?_ hHeld ?_ ?_; rotate_left
      · ((intro W hSw; go_simp) <;> with_reducible rfl)
      refine tkH 2 ?_ hHeld ?_ ?_; rotate_left
      · ((intro W hSw; go_simp) <;> with_reducible rfl)
      refine tkH 3 ?_ hHeld ?_ ?_; rotate_left
      · ((intro W hSw; go_simp) <;> with_reducible rfl)
      refine tkH 4 ?_ hHeld ?_ ?_; rotate_left
      · ((intro W hSw; go_simp) <;> with_reducible rfl)
      refine tkH 5 ?_ hHeld ?_ ?_; rotate_left
      · ((intro W hSw; go_simp) <;> with_reducible rfl)
      refine wpAnyH_ready (rs := [6]) (by kernel_rfl) (by simp) ?_
      refine AllReadyH.cons rfl (fun K hK => ?_) AllReadyH.nil
      rw [if_pos (by rfl)]
      refine wp_append_shiftG (.tmp 22) (.tmp 25) rfl g i cap (by rfl) _ (n - j) _ (xs.drop (j * 3)) (by rfl) (by rw [List.length_drop, Hxl.out, Nat.sub_mul]) (fun q u hq => by
        have hql : j * 3 + q < xs.length := by have := (List.getElem?_eq_some_iff.1 hq).1; rw [List.length_drop] at this; omega
        rw [List.getElem?_drop] at hq
        show World.cell? w ((⟨g, j * 3, none⟩ : Addr).add q) = some u
        rw [show (⟨g, j * 3, none⟩ : Addr).add q = ⟨g, j * 3 + q, none⟩ by unfold Addr.add; split <;> simp_all, Hown.out.cellAt _ (by rw [← Hxl.out]; exact hql)]
        exact hq) (fun u hu => H1.out u (List.mem_of_mem_drop hu)) (by omega) (fun q hq => by
        rw [List.length_drop, Hxl.out] at hq
        have := Hown.out.cellAt (i * 3 + q) (by omega)
        show (World.cell? w ⟨g, 0 + i * 3 + q, none⟩).isSome = true
        rw [Nat.zero_add, this, List.getElem?_eq_getElem (by rw [Hxl.out]; omega)]
        rfl) (fun q _ => Hown.out.frozenAt _) ?_
      refine hK.out _ _ trivial (fun hHeld => ?_)
      clear hK K
      try simp only [Act.put]
      try simp only [List.getElem_toArray]
      try simp only [List.getElem_cons_succ]
      try simp only [List.getElem_cons_zero]
      try simp only [List.setIfInBounds_toArray]
      try simp only [List.set_cons_succ]
      try simp only [List.set_cons_zero]
      refine tkH 7 ?_ hHeld ?_ ?_; rotate_left
      · ((intro W hSw; go_simp) <;> with_reducible rfl)
      refine wpAnyH_done (by kernel_rfl) ?_ _
      refine NoPanic.normal ?_
      have hdl : (xs.drop (j * 3)).length = (n - j) * 3 := by rw [List.length_drop, Hxl.out, Nat.sub_mul]
      obtain ⟨R1, R2⟩ := row_writes (xs.drop (j * 3)) (0 + i * 3) w.drew xs (World.ownsRow.drew Hown.out) (by rw [hdl, Hxl.out]; omega)
      generalize hw1 : (w.drew).setCells g (0 + i * 3) (xs.drop (j * 3)) = w1 at *
      have hxl1 := R1.1
      obtain ⟨zs, hzl, hcl⟩ := run_clear_row (P := Tryz.prog) w1 129 162 0 (.agg #[.int .u16 0, .int .i64 0, .int .i64 0]) Tryz.underlying129 zeroG (by intro u hu; simp [Value.cells] at hu; rcases hu with rfl | rfl <;> rfl) (by decide) g ((i + (n - j)) * 3) (n - (i + (n - j))) (cap - (i + (n - j))) (by omega) (fun q hq => by
        have hq' : q < (n - (i + (n - j))) * 3 := hq
        have := R1.cellAt ((i + (n - j)) * 3 + q) (by omega)
        rw [this, List.getElem?_eq_getElem (by rw [hxl1]; omega)]
        rfl) (fun q _ => R1.frozenAt _)
      have hzl' : zs.length = (n - (i + (n - j))) * 3 := hzl
      obtain ⟨R3, R4⟩ := row_writes zs ((i + (n - j)) * 3) w1 _ R1 (by rw [hzl', hxl1]; omega)
      have F1 : Hid (World.ownsRow (w1.setCells g ((i + (n - j)) * 3) zs) base 162 3 (.slice (some ⟨g, 0, none⟩) (i + (n - j)) cap) (i + (n - j)) (xs.take (i * 3) ++ xs.drop (j * 3))) := by
        have h := row_fewer R3 (m := i + (n - j)) (by omega) (.inl (by simp))
        have e : (((xs.take (0 + i * 3) ++ xs.drop (j * 3) ++ xs.drop (0 + i * 3 + (xs.drop (j * 3)).length)).take ((i + (n - j)) * 3) ++ zs ++ (xs.take (0 + i * 3) ++ xs.drop (j * 3) ++ xs.drop (0 + i * 3 + (xs.drop (j * 3)).length)).drop ((i + (n - j)) * 3 + zs.length)).take ((i + (n - j)) * 3)) = xs.take (i * 3) ++ xs.drop (j * 3) := by
          have hl1 : (xs.take (i * 3) ++ xs.drop (j * 3)).length = (i + (n - j)) * 3 := by rw [List.length_append, List.length_take, hdl, Hxl.out]; omega
          rw [Nat.zero_add, List.take_left' (l₁ := xs.take (i * 3) ++ xs.drop (j * 3)) hl1, List.append_assoc, List.take_left' hl1]
        rw [e] at h
        exact h
      have F2 : Hid (w.grownBy (w1.setCells g ((i + (n - j)) * 3) zs) (some g)) := (World.grownBy_drewX w (some g)).trans (R2.trans R4)
      have hcc : ∀ ty, (Builtin.clear_ #[129] ty #[.slice (some ⟨g, (i + (n - j)) * 3, none⟩) (n - (i + (n - j))) (cap - (i + (n - j)))]).run Tryz.prog w1 = .ok (.tuple #[]) (w1.setCells g ((i + (n - j)) * 3) zs) := fun ty => hcl
      have Hnn : Hid (i + (n - j) = n - (j - i)) := by show _ = _; omega
      have hnn1 : i + (n - j) ≤ n := by omega
      have hnn2 : i + (n - j) ≤ cap := by omega
      have hnn3 : ¬ cap = i + (n - j) := by omega
      have hnn4 : ((i + (n - j) : Nat) : Int) ≤ n := by omega
      clear hcl R1 R2 R3 R4 hzl hzl' hdl hxl1 hw1
      generalize i + (n - j) = m at *
      go_wp2_with (simp only [hcc])
      go_ret
      rw [← Hnn.out]
      exact ⟨_, rfl, F1.out, F2.out, rfl⟩
  · have hij' : i = j := by omega
    subst hij'
    have hne : ((i : Int) == (i : Int)) = true := by simp
    have Hown : Hid (∀ m, m = n → w.ownsRow base 162 3 (.slice ao m cap) m xs) := fun m e => by rw [e]; exact hown
    clear hown h1 hxl
    rw [Nat.sub_self, Nat.sub_zero, List.take_append_drop]
    go_enter Tryz.func127, Tryz.ntmps127
    go_wp2
    all_goals go_ret
    all_goals exact ⟨_, rfl, Hown.out _ (by first | rfl | omega | simp_all), World.grownBy.refl _ _, rfl⟩

end Go.Proofs.YtdjhhnolcafkiaaGreat

/- (*stream[gap]): remove, removeFirst, add. -/
namespace Go.Proofs.YtdjhhnolcafkiaaGreat
open Go.RowKit Pk

set_option maxRecDepth 20000 in
set_option maxHeartbeats 4000000 in
theorem removeG_any (base sb : Nat) (v : Value) (l : List Gp) (num : Nat) (w : World) (hv : w.cell? ⟨sb, 2, none⟩ = some v) (hf : ∀ o, w.frozen? ⟨sb, o, none⟩ = false) (hne : v.ownBlock ≠ some sb) (hown : w.ownsRow base 162 3 v l.length (l.flatMap cellsG)) (hn : l.length ≤ 99000) :
    Calls Tryz.prog 106 #[.pointer (some ⟨sb, 0, none⟩), .int .u16 num] w fun e w' => e = .returned (.bool (decide (0 ≤ posF num (l.map Gp.n)))) ∧ ∃ v', Upd w w' sb v v' ∧ w'.ownsRow base 162 3 v' (rmF Gp.n num l).length ((rmF Gp.n num l).flatMap cellsG) := by
  obtain ⟨ao, cap, rfl⟩ := rowA_shape hown
  have Hown := Pk.hid hown
  have hs : sb < w.heap.size := lt_of_cell hv
  have Hv := Pk.hid hv
  have Hf := Pk.hid hf
  clear hown hf hv
  go_enter Tryz.func106, Tryz.ntmps106
  go_wp2_with fail
  refine (findG_any base sb _ l num _ Hv.out Hown.out (by omega)).mono ?_
  rintro e w1 ⟨rfl, hb1⟩
  have Hr1 : Hid (w1.ownsRow base 162 3 (.slice ao l.length cap) l.length (l.flatMap cellsG)) := rowA_chg (Chg.ofBelow (T := fun _ => False) hb1) Hown.out (fun _ _ e => e)
  have y2 : w1.cell? ⟨sb, 2, none⟩ = some (.slice ao l.length cap) := (hb1.cell (p := ⟨sb, 2, none⟩) hs).trans Hv.out
  have yf : ∀ o, w1.frozen? ⟨sb, o, none⟩ = false := fun o => (hb1.frozen (p := ⟨sb, o, none⟩) hs).trans (Hf.out o)
  have Hb1 := Pk.hid hb1
  have hs1 : sb < w1.heap.size := Nat.lt_of_lt_of_le hs hb1.size
  clear hb1 Hown
  rcases posF_cases num (l.map Gp.n) with ⟨hp, -⟩ | ⟨i, hi, hp, -⟩
  · have HR : Hid (rmF Gp.n num l = l) := by show _ = _; unfold rmF; rw [if_pos (by rw [hp]; decide)]
    have Hp : Hid (false = decide (0 ≤ posF num (l.map Gp.n))) := by show _ = _; rw [hp]; decide
    rw [hp]
    clear hp
    go_wp2
    go_ret
    refine ⟨ret_bool Hp.out, _, Upd.before Hb1.out hs (Upd.refl y2), ?_⟩
    rw [HR.out]
    exact Hr1.out
  · have hil : i < l.length := by simpa using hi
    have HR : Hid (rmF Gp.n num l = l.take i ++ l.drop (i + 1)) := by show _ = _; unfold rmF; rw [if_neg (by rw [hp]; omega), hp]; rfl
    have Hp : Hid (decide (0 ≤ posF num (l.map Gp.n)) = true) := by show _ = _; rw [hp]; exact decide_eq_true (by omega)
    rw [hp]
    clear hp hi
    go_wp2_with fail
    refine (deleteG_any base _ l.length i (i + 1) (l.flatMap cellsG) _ Hr1.out (cellsG_one l) (by omega) (by omega) (by omega)).mono ?_
    rintro e w2 ⟨v', rfl, hown2, hg2, ho2⟩
    obtain ⟨a2, c2, rfl⟩ := rowA_shape hown2
    have hlen : l.length - (i + 1 - i) = (rmF Gp.n num l).length := by rw [HR.out, List.length_append, List.length_take, List.length_drop]; omega
    rw [hlen, flat_take cellsG_len, flat_drop cellsG_len, ← List.flatMap_append, ← HR.out] at hown2
    rw [hlen]
    have hc2 : Chg (fun x => (Value.slice ao l.length cap).ownBlock = some x) w1 w2 := Chg.ofGrown hg2
    have z2 : w2.cell? ⟨sb, 2, none⟩ = some (.slice ao l.length cap) := hc2.cell y2 hne
    have zf : ∀ o, w2.frozen? ⟨sb, o, none⟩ = false := fun o => (hc2.frozen (p := ⟨sb, o, none⟩) hs1 hne).trans (yf o)
    generalize hrn : (rmF Gp.n num l).length = rn at *
    have Hrn := Pk.hid hrn
    clear hrn
    have HU : Hid (Upd w (w2.setCell ⟨sb, 2, none⟩ (.slice a2 rn c2)) sb (.slice ao l.length cap) (.slice a2 rn c2)) := Upd.before Hb1.out hs (Upd.stored hs1 y2 hne hg2 (fun x hx => .inl (by rw [hlen] at ho2; exact ho2 ▸ hx)))
    have HRR : Hid (World.ownsRow (w2.setCell ⟨sb, 2, none⟩ (.slice a2 rn c2)) base 162 3 (.slice a2 rn c2) rn ((rmF Gp.n num l).flatMap cellsG)) := rowA_chg (T := fun x => x = sb) ((Chg.refl (fun x => x = sb) _).setCell ⟨sb, 2, none⟩ (.inl rfl) _) hown2 (fun x hx e => hne (by subst e; rw [hlen] at ho2; exact ho2 ▸ hx))
    clear hown2 hg2 ho2 hc2 hlen
    go_wp2
    go_ret
    rw [Hrn.out]
    exact ⟨ret_bool Hp.out.symm, _, HU.out, HRR.out⟩

set_option maxRecDepth 20000 in
set_option maxHeartbeats 4000000 in
theorem removeFirstG_any (base sb : Nat) (v : Value) (l : List Gp) (c : Nat) (w : World) (hv : w.cell? ⟨sb, 2, none⟩ = some v) (hf : ∀ o, w.frozen? ⟨sb, o, none⟩ = false) (hne : v.ownBlock ≠ some sb) (hown : w.ownsRow base 162 3 v l.length (l.flatMap cellsG)) (hn : l.length ≤ 99000) (hcl : c ≤ l.length) :
    Calls Tryz.prog 125 #[.pointer (some ⟨sb, 0, none⟩), .int .i64 c] w fun e w' => e = .returned (.tuple #[]) ∧ ∃ v', Upd w w' sb v v' ∧ w'.ownsRow base 162 3 v' (l.drop c).length ((l.drop c).flatMap cellsG) := by
  obtain ⟨ao, cap, rfl⟩ := rowA_shape hown
  have Hown := Pk.hid hown
  have hs : sb < w.heap.size := lt_of_cell hv
  clear hown
  go_enter Tryz.func125, Tryz.ntmps125
  go_wp2_with fail
  refine (deleteG_any base _ l.length 0 c (l.flatMap cellsG) _ Hown.out (cellsG_one l) (by omega) hcl (by omega)).mono ?_
  rintro e w2 ⟨v', rfl, hown2, hg2, ho2⟩
  obtain ⟨a2, c2, rfl⟩ := rowA_shape hown2
  have hlen : l.length - (c - 0) = (l.drop c).length := by rw [List.length_drop]; omega
  rw [hlen, Nat.zero_mul, List.take_zero, List.nil_append, flat_drop cellsG_len] at hown2
  rw [hlen]
  have hc2 : Chg (fun x => (Value.slice ao l.length cap).ownBlock = some x) w w2 := Chg.ofGrown hg2
  have z2 : w2.cell? ⟨sb, 2, none⟩ = some (.slice ao l.length cap) := hc2.cell hv hne
  have zf : ∀ o, w2.frozen? ⟨sb, o, none⟩ = false := fun o => (hc2.frozen (p := ⟨sb, o, none⟩) hs hne).trans (hf o)
  generalize hrn : (l.drop c).length = rn at *
  have Hrn := Pk.hid hrn
  clear hrn
  have HU : Hid (Upd w (w2.setCell ⟨sb, 2, none⟩ (.slice a2 rn c2)) sb (.slice ao l.length cap) (.slice a2 rn c2)) := Upd.stored hs hv hne hg2 (fun x hx => .inl (by rw [hlen] at ho2; exact ho2 ▸ hx))
  have HRR : Hid (World.ownsRow (w2.setCell ⟨sb, 2, none⟩ (.slice a2 rn c2)) base 162 3 (.slice a2 rn c2) rn ((l.drop c).flatMap cellsG)) := rowA_chg (T := fun x => x = sb) ((Chg.refl (fun x => x = sb) _).setCell ⟨sb, 2, none⟩ (.inl rfl) _) hown2 (fun x hx e => hne (by subst e; rw [hlen] at ho2; exact ho2 ▸ hx))
  clear hown2 hg2 ho2 hc2 hlen hf hv
  go_wp2
  go_end0
  rw [Hrn.out]
  exact ⟨rfl, _, HU.out, HRR.out⟩

set_option maxRecDepth 20000 in
set_option maxHeartbeats 8000000 in
theorem addG_any (base sb : Nat) (v : Value) (l : List Gp) (num : Nat) (la tr : Int) (w : World) (hv : w.cell? ⟨sb, 2, none⟩ = some v) (hf : ∀ o, w.frozen? ⟨sb, o, none⟩ = false) (hne : v.ownBlock ≠ some sb) (hown : w.ownsRow base 162 3 v l.length (l.flatMap cellsG)) (hn : l.length ≤ 98000) (hb : base ≤ w.heap.size) (hsb : sb < base) :
    Calls Tryz.prog 104 #[.pointer (some ⟨sb, 0, none⟩), .int .u16 num, .agg #[.int .i64 la, .int .i64 tr]] w fun e w' => e = .returned (.tuple #[]) ∧ ∃ v', Upd w w' sb v v' ∧ w'.ownsRow base 162 3 v' (rmF Gp.n num l ++ ([⟨num, la, tr⟩] : List Gp)).length ((rmF Gp.n num l ++ ([⟨num, la, tr⟩] : List Gp)).flatMap cellsG) := by
  have hs : sb < w.heap.size := lt_of_cell hv
  have hrl := rmF_length (fun x : Gp => x.n) num l
  have Hown := Pk.hid hown
  have Hv := Pk.hid hv
  have Hf := Pk.hid hf
  have hvl : ∀ x, v.ownBlock = some x → x < w.heap.size := fun x hx => (hown.lt x hx).2
  obtain ⟨i0, hi0, hz0, hz1, hz2⟩ := info_parts infoG
  have Hi : Hid (Tryz.prog.info? 162 = some i0 ∧ i0.zero = _ ∧ i0.size = 3 ∧ i0.bytes = 24) := ⟨hi0, hz0, hz1, hz2⟩
  clear hown hf hv hi0 hz0 hz1 hz2
  go_enter Tryz.func104, Tryz.ntmps104
  go_wp2_with fail
  refine (removeG_any base sb v l num _ ((World.cell?_alloc_lt _ _ _ (by simpa using hs)).trans Hv.out) (fun o => (((Below.refl w.heap.size w).alloc (Nat.le_refl _) _).frozen (p := ⟨sb, o, none⟩) hs).trans (Hf.out o)) hne (World.ownsRow.alloc Hown.out _) (by omega)).mono ?_
  rintro e w2 ⟨rfl, v2, hU2, hr2⟩
  obtain ⟨a2, c2, rfl⟩ := rowA_shape hr2
  have hnb : ¬ (w.heap.size = sb ∨ v.ownBlock = some w.heap.size) := by
    rintro (e | e)
    · omega
    · have := hvl _ e; omega
  have hbx : ∀ o u, (w.alloc (.cells #[.int .i64 la, .int .i64 tr] 136)).cell? ⟨w.heap.size, o, none⟩ = some u → w2.cell? ⟨w.heap.size, o, none⟩ = some u := fun o u hu => hU2.chg.cell (p := ⟨w.heap.size, o, none⟩) hu hnb
  have q0 : w2.cell? ⟨w.heap.size, 0, none⟩ = some (.int .i64 la) := hbx 0 _ (cell_new _ _ _ 0)
  have q1 : w2.cell? ⟨w.heap.size, 1, none⟩ = some (.int .i64 tr) := hbx 1 _ (cell_new _ _ _ 1)
  have HU2 : Hid (Upd w w2 sb v (.slice a2 (rmF Gp.n num l).length c2)) := Upd.before ((Below.refl _ _).alloc (Nat.le_refl _) _) hs hU2
  have Hr1 := Pk.hid hr2
  have y2 : w2.cell? ⟨sb, 2, none⟩ = some (.slice a2 (rmF Gp.n num l).length c2) := hU2.c2
  have yf : ∀ o, w2.frozen? ⟨sb, o, none⟩ = false := fun o => (HU2.out.fz o).trans (Hf.out o)
  have hs2 : sb < w2.heap.size := Nat.lt_of_lt_of_le hs HU2.out.chg.size
  have hb2 : base ≤ w2.heap.size := Nat.le_trans hb HU2.out.chg.size
  have hne2 : (Value.slice a2 (rmF Gp.n num l).length c2).ownBlock ≠ some sb := fun e => by have := (Hr1.out.lt sb e).1; omega
  clear hU2 hr2 hbx hnb
  generalize hrn : (rmF Gp.n num l).length = rn at *
  have Hrn := Pk.hid hrn
  clear hrn
  go_wp2
  refine wp_region_noPanic ?_
  refine wp_region_held_drew (S := fun _ => True) (by kernel_rfl) trivial (fun hHeld => ?_)
  refine tkH 0 ?_ hHeld ?_ ?_; rotate_left
  · ((intro W hSw; go_simp) <;> with_reducible rfl)
  refine tkH 1 ?_ hHeld ?_ ?_; rotate_left
  · ((intro W hSw; go_simp) <;> with_reducible rfl)
  refine tkH 2 ?_ hHeld ?_ ?_; rotate_left
  · ((intro W hSw; go_simp) <;> with_reducible rfl)
  refine tkH 3 ?_ hHeld ?_ ?_; rotate_left
  · ((intro W hSw; go_simp) <;> with_reducible rfl)
  refine tkH 5 ?_ hHeld ?_ ?_; rotate_left
  · ((intro W hSw; go_simp) <;> with_reducible rfl)
  refine wpAnyH_ready (rs := [4, 6]) (by kernel_rfl) (by simp) ?_
  refine AllReadyH.cons rfl (fun K hK => ?_) (AllReadyH.cons rfl (fun K hK => ?_) AllReadyH.nil)
  · go_simp
    refine hK.out _ _ trivial (fun hHeld => ?_)
    clear hK K
    try simp only [Act.put]
    try simp only [List.getElem_toArray]
    try simp only [List.getElem_cons_succ]
    try simp only [List.getElem_cons_zero]
    try simp only [List.setIfInBounds_toArray]
    try simp only [List.set_cons_succ]
    try simp only [List.set_cons_zero]
    refine wpAnyH_ready (rs := [6]) (by kernel_rfl) (by simp) ?_
    refine AllReadyH.cons rfl (fun K hK => ?_) AllReadyH.nil
    go_simp
    refine hK.out _ _ trivial (fun hHeld => ?_)
    clear hK K
    try simp only [Act.put]
    try simp only [List.getElem_toArray]
    try simp only [List.getElem_cons_succ]
    try simp only [List.getElem_cons_zero]
    try simp only [List.setIfInBounds_toArray]
    try simp only [List.set_cons_succ]
    try simp only [List.set_cons_zero]
    refine tkH 7 ?_ hHeld ?_ ?_; rotate_left
    · ((intro W hSw; go_simp) <;> with_reducible rfl)
    refine wpAnyH_ready (rs := [8]) (by kernel_rfl) (by simp) ?_
    refine AllReadyH.cons rfl (fun K hK => ?_) AllReadyH.nil
    go_simp
    refine hK.out _ _ trivial (fun hHeld => ?_)
    clear hK K
    try simp only [Act.put]
    try simp only [List.getElem_toArray]
    try simp only [List.getElem_cons_succ]
    try simp only [List.getElem_cons_zero]
    try simp only [List.setIfInBounds_toArray]
    try simp only [List.set_cons_succ]
    try simp only [List.set_cons_zero]
    refine wpAnyH_ready (rs := [9]) (by kernel_rfl) (by simp) ?_
    refine AllReadyH.cons rfl (fun K hK => ?_) AllReadyH.nil
    rw [if_pos (by rfl)]
    refine wp_append_at (.tmp 13) (.tmp 17) 129 rfl base 162 i0 _ 3 24 Tryz.underlying129 Hi.out.1 Hi.out.2.1 Hi.out.2.2.1 Hi.out.2.2.2 rfl (by decide) (.slice a2 rn c2) rn ((rmF Gp.n num l).flatMap cellsG) (by rfl) (World.ownsRow.drew (World.ownsRow.alloc Hr1.out _)) _ 1 1 (cellsG ⟨num, la, tr⟩) (by rfl) rfl (cells_newAt _ (cellsG ⟨num, la, tr⟩) _ _ (by simp)) ?_ (by unfold maxLen; omega) (by omega) (by simp; omega) ?_
    · intro u hu
      refine cellsG_one [⟨num, la, tr⟩] u ?_
      simpa using hu
    intro v' w3 hown' hgrow hob
    have hbg : w2.grownBy w3 (Value.slice a2 rn c2).ownBlock := ((World.grownBy_alloc _ _ _).trans (World.grownBy_drewX _ _)).trans hgrow
    have hc3 : Chg (fun x => (Value.slice a2 rn c2).ownBlock = some x) w2 w3 := Chg.ofGrown hbg
    have z2 : w3.cell? ⟨sb, 2, none⟩ = some (.slice a2 rn c2) := hc3.cell y2 hne2
    have zf : ∀ o, w3.frozen? ⟨sb, o, none⟩ = false := fun o => (hc3.frozen (p := ⟨sb, o, none⟩) hs2 hne2).trans (yf o)
    obtain ⟨a3, c3, rfl⟩ := rowA_shape hown'
    have HU3 : Hid (Upd w (w3.setCell ⟨sb, 2, none⟩ (.slice a3 (rn + 1) c3)) sb v (.slice a3 (rn + 1) c3)) := HU2.out.trans (Upd.stored hs2 y2 hne2 hbg (fun x hx => by
      rcases hob with h | h
      · exact .inl (h ▸ hx)
      · rw [h] at hx; simp at hx; exact .inr (by omega)))
    have HR3 : Hid (World.ownsRow (w3.setCell ⟨sb, 2, none⟩ (.slice a3 (rn + 1) c3)) base 162 3 (.slice a3 (rn + 1) c3) (rn + 1) ((rmF Gp.n num l).flatMap cellsG ++ cellsG ⟨num, la, tr⟩)) := rowA_chg (T := fun x => x = sb) ((Chg.refl (fun x => x = sb) _).setCell ⟨sb, 2, none⟩ (.inl rfl) _) hown' (fun x hx e => by
      subst e
      have h := hown'.lt x hx
      rcases hob with h' | h'
      · exact hne2 (h' ▸ hx)
      · rw [h'] at hx; simp at hx; omega)
    refine hK.out _ _ trivial (fun hHeld => ?_)
    clear hK K hown' hgrow hob hbg hc3 y2 yf
    try simp only [Act.put]
    try simp only [List.getElem_toArray]
    try simp only [List.getElem_cons_succ]
    try simp only [List.getElem_cons_zero]
    try simp only [List.setIfInBounds_toArray]
    try simp only [List.set_cons_succ]
    try simp only [List.set_cons_zero]
    refine tkH 10 ?_ hHeld ?_ ?_; rotate_left
    · ((intro W hSw; go_simp) <;> with_reducible rfl)
    refine tkH 11 ?_ hHeld ?_ ?_; rotate_left
    · ((intro W hSw; go_simp) <;> with_reducible rfl)
    refine wpAnyH_ready (rs := [12]) (by kernel_rfl) (by simp) ?_
    refine AllReadyH.cons rfl (fun K hK => ?_) AllReadyH.nil
    go_simp
    refine hK.out _ _ trivial (fun hHeld => ?_)
    clear hK K
    refine wpAnyH_done (by kernel_rfl) ?_ _
    refine NoPanic.normal ?_
    go_wp2
    go_end0
    rw [List.length_append, Hrn.out, List.flatMap_append]
    exact ⟨rfl, _, HU3.out, by simpa using HR3.out⟩
  · go_simp
    refine hK.out _ _ trivial (fun hHeld => ?_)
    clear hK K
    try simp only [Act.put]
    try simp only [List.getElem_toArray]
    try simp only [List.getElem_cons_succ]
    try simp only [List.getElem_cons_zero]
    try simp only [List.setIfInBounds_toArray]
    try simp only [List.set_cons_succ]
    try simp only [List.set_cons_zero]
    refine tkH 7 ?_ hHeld ?_ ?_; rotate_left
    · ((intro W hSw; go_simp) <;> with_reducible rfl)
    refine wpAnyH_ready (rs := [4, 8]) (by kernel_rfl) (by simp) ?_
    refine AllReadyH.cons rfl (fun K hK => ?_) (AllReadyH.cons rfl (fun K hK => ?_) AllReadyH.nil)
    · go_simp
      refine hK.out _ _ trivial (fun hHeld => ?_)
      clear hK K
      try simp only [Act.put]
      try simp only [List.getElem_toArray]
      try simp only [List.getElem_cons_succ]
      try simp only [List.getElem_cons_zero]
      try simp only [List.setIfInBounds_toArray]
      try simp only [List.set_cons_succ]
      try simp only [List.set_cons_zero]
      refine wpAnyH_ready (rs := [8]) (by kernel_rfl) (by simp) ?_
      refine AllReadyH.cons rfl (fun K hK => ?_) AllReadyH.nil
      go_simp
      refine hK.out _ _ trivial (fun hHeld => ?_)
      clear hK K
      try simp only [Act.put]
      try simp only [List.getElem_toArray]
      try simp only [List.getElem_cons_succ]
      try simp only [List.getElem_cons_zero]
      try simp only [List.setIfInBounds_toArray]
      try simp only [List.set_cons_succ]
      try simp only [List.set_cons_zero]
      refine wpAnyH_ready (rs := [9]) (by kernel_rfl) (by simp) ?_
      refine AllReadyH.cons rfl (fun K hK => ?_) AllReadyH.nil
      rw [if_pos (by rfl)]
      refine wp_append_at (.tmp 13) (.tmp 17) 129 rfl base 162 i0 _ 3 24 Tryz.underlying129 Hi.out.1 Hi.out.2.1 Hi.out.2.2.1 Hi.out.2.2.2 rfl (by decide) (.slice a2 rn c2) rn ((rmF Gp.n num l).flatMap cellsG) (by rfl) (World.ownsRow.drew (World.ownsRow.alloc Hr1.out _)) _ 1 1 (cellsG ⟨num, la, tr⟩) (by rfl) rfl (cells_newAt _ (cellsG ⟨num, la, tr⟩) _ _ (by simp)) ?_ (by unfold maxLen; omega) (by omega) (by simp; omega) ?_
      · intro u hu
        refine cellsG_one [⟨num, la, tr⟩] u ?_
        simpa using hu
      intro v' w3 hown' hgrow hob
      have hbg : w2.grownBy w3 (Value.slice a2 rn c2).ownBlock := ((World.grownBy_alloc _ _ _).trans (World.grownBy_drewX _ _)).trans hgrow
      have hc3 : Chg (fun x => (Value.slice a2 rn c2).ownBlock = some x) w2 w3 := Chg.ofGrown hbg
      have z2 : w3.cell? ⟨sb, 2, none⟩ = some (.slice a2 rn c2) := hc3.cell y2 hne2
      have zf : ∀ o, w3.frozen? ⟨sb, o, none⟩ = false := fun o => (hc3.frozen (p := ⟨sb, o, none⟩) hs2 hne2).trans (yf o)
      obtain ⟨a3, c3, rfl⟩ := rowA_shape hown'
      have HU3 : Hid (Upd w (w3.setCell ⟨sb, 2, none⟩ (.slice a3 (rn + 1) c3)) sb v (.slice a3 (rn + 1) c3)) := HU2.out.trans (Upd.stored hs2 y2 hne2 hbg (fun x hx => by
        rcases hob with h | h
        · exact .inl (h ▸ hx)
        · rw [h] at hx; simp at hx; exact .inr (by omega)))
      have HR3 : Hid (World.ownsRow (w3.setCell ⟨sb, 2, none⟩ (.slice a3 (rn + 1) c3)) base 162 3 (.slice a3 (rn + 1) c3) (rn + 1) ((rmF Gp.n num l).flatMap cellsG ++ cellsG ⟨num, la, tr⟩)) := rowA_chg (T := fun x => x = sb) ((Chg.refl (fun x => x = sb) _).setCell ⟨sb, 2, none⟩ (.inl rfl) _) hown' (fun x hx e => by
        subst e
        have h := hown'.lt x hx
        rcases hob with h' | h'
        · exact hne2 (h' ▸ hx)
        · rw [h'] at hx; simp at hx; omega)
      refine hK.out _ _ trivial (fun hHeld => ?_)
      clear hK K hown' hgrow hob hbg hc3 y2 yf
      try simp only [Act.put]
      try simp only [List.getElem_toArray]
      try simp only [List.getElem_cons_succ]
      try simp only [List.getElem_cons_zero]
      try simp only [List.setIfInBounds_toArray]
      try simp only [List.set_cons_succ]
      try simp only [List.set_cons_zero]
      refine tkH 10 ?_ hHeld ?_ ?_; rotate_left
      · ((intro W hSw; go_simp) <;> with_reducible rfl)
      refine tkH 11 ?_ hHeld ?_ ?_; rotate_left
      · ((intro W hSw; go_simp) <;> with_reducible rfl)
      refine wpAnyH_ready (rs := [12]) (by kernel_rfl) (by simp) ?_
      refine AllReadyH.cons rfl (fun K hK => ?_) AllReadyH.nil
      go_simp
      refine hK.out _ _ trivial (fun hHeld => ?_)
      clear hK K
      refine wpAnyH_done (by kernel_rfl) ?_ _
      refine NoPanic.normal ?_
      go_wp2
      go_end0
      rw [List.length_append, Hrn.out, List.flatMap_append]
      exact ⟨rfl, _, HU3.out, by simpa using HR3.out⟩
    · go_simp
      refine hK.out _ _ trivial (fun hHeld => ?_)
      clear hK K
      try simp only [Act.put]
      try simp only [List.getElem_toArray]
      try simp only [List.getElem_cons_succ]
      try simp only [List.getElem_cons_zero]
      try simp only [List.setIfInBounds_toArray]
      try simp only [List.set_cons_succ]
      try simp only [List.set_cons_zero]
      refine wpAnyH_ready (rs := [4]) (by kernel_rfl) (by simp) ?_
      refine AllReadyH.cons rfl (fun K hK => ?_) AllReadyH.nil
      go_simp
      refine hK.out _ _ trivial (fun hHeld => ?_)
      clear hK K
      try simp only [Act.put]
      try simp only [List.getElem_toArray]
      try simp only [List.getElem_cons_succ]
      try simp only [List.getElem_cons_zero]
      try simp only [List.setIfInBounds_toArray]
      try simp only [List.set_cons_succ]
      try simp only [List.set_cons_zero]
      refine wpAnyH_ready (rs := [9]) (by kernel_rfl) (by simp) ?_
      refine AllReadyH.cons rfl (fun K hK => ?_) AllReadyH.nil
      rw [if_pos (by rfl)]
      refine wp_append_at (.tmp 13) (.tmp 17) 129 rfl base 162 i0 _ 3 24 Tryz.underlying129 Hi.out.1 Hi.out.2.1 Hi.out.2.2.1 Hi.out.2.2.2 rfl (by decide) (.slice a2 rn c2) rn ((rmF Gp.n num l).flatMap cellsG) (by rfl) (World.ownsRow.drew (World.ownsRow.alloc Hr1.out _)) _ 1 1 (cellsG ⟨num, la, tr⟩) (by rfl) rfl (cells_newAt _ (cellsG ⟨num, la, tr⟩) _ _ (by simp)) ?_ (by unfold maxLen; omega) (by omega) (by simp; omega) ?_
      · intro u hu
        refine cellsG_one [⟨num, la, tr⟩] u ?_
        simpa using hu
      intro v' w3 hown' hgrow hob
      have hbg : w2.grownBy w3 (Value.slice a2 rn c2).ownBlock := ((World.grownBy_alloc _ _ _).trans (World.grownBy_drewX _ _)).trans hgrow
      have hc3 : Chg (fun x => (Value.slice a2 rn c2).ownBlock = some x) w2 w3 := Chg.ofGrown hbg
      have z2 : w3.cell? ⟨sb, 2, none⟩ = some (.slice a2 rn c2) := hc3.cell y2 hne2
      have zf : ∀ o, w3.frozen? ⟨sb, o, none⟩ = false := fun o => (hc3.frozen (p := ⟨sb, o, none⟩) hs2 hne2).trans (yf o)
      obtain ⟨a3, c3, rfl⟩ := rowA_shape hown'
      have HU3 : Hid (Upd w (w3.setCell ⟨sb, 2, none⟩ (.slice a3 (rn + 1) c3)) sb v (.slice a3 (rn + 1) c3)) := HU2.out.trans (Upd.stored hs2 y2 hne2 hbg (fun x hx => by
        rcases hob with h | h
        · exact .inl (h ▸ hx)
        · rw [h] at hx; simp at hx; exact .inr (by omega)))
      have HR3 : Hid (World.ownsRow (w3.setCell ⟨sb, 2, none⟩ (.slice a3 (rn + 1) c3)) base 162 3 (.slice a3 (rn + 1) c3) (rn + 1) ((rmF Gp.n num l).flatMap cellsG ++ cellsG ⟨num, la, tr⟩)) := rowA_chg (T := fun x => x = sb) ((Chg.refl (fun x => x = sb) _).setCell ⟨sb, 2, none⟩ (.inl rfl) _) hown' (fun x hx e => by
        subst e
        have h := hown'.lt x hx
        rcases hob with h' | h'
        · exact hne2 (h' ▸ hx)
        · rw [h'] at hx; simp at hx; omega)
      refine hK.out _ _ trivial (fun hHeld => ?_)
      clear hK K hown' hgrow hob hbg hc3 y2 yf
      try simp only [Act.put]
      try simp only [List.getElem_toArray]
      try simp only [List.getElem_cons_succ]
      try simp only [List.getElem_cons_zero]
      try simp only [List.setIfInBounds_toArray]
      try simp only [List.set_cons_succ]
      try simp only [List.set_cons_zero]
      refine tkH 10 ?_ hHeld ?_ ?_; rotate_left
      · ((intro W hSw; go_simp) <;> with_reducible rfl)
      refine tkH 11 ?_ hHeld ?_ ?_; rotate_left
      · ((intro W hSw; go_simp) <;> with_reducible rfl)
      refine wpAnyH_ready (rs := [12]) (by kernel_rfl) (by simp) ?_
      refine AllReadyH.cons rfl (fun K hK => ?_) AllReadyH.nil
      go_simp
      refine hK.out _ _ trivial (fun hHeld => ?_)
      clear hK K
      refine wpAnyH_done (by kernel_rfl) ?_ _
      refine NoPanic.normal ?_
      go_wp2
      go_end0
      rw [List.length_append, Hrn.out, List.flatMap_append]
      exact ⟨rfl, _, HU3.out, by simpa using HR3.out⟩

end Go.Proofs.YtdjhhnolcafkiaaGreat

/- A sender: giveUp, goOn, lookBack, Take. -/
namespace Go.Proofs.YtdjhhnolcafkiaaGreat
open Go.RowKit
namespace Pk

structure Sd where
  src : Int
  begun : Bool
  gaps : List Gp
  newest : Nat
/-- a sender lies in the block sb -/
structure SdAt (W : World) (base sb : Nat) (v : Value) (s : Sd) : Prop where
  c0 : W.cell? ⟨sb, 0, none⟩ = some (.int .i64 s.src)
  c1 : W.cell? ⟨sb, 1, none⟩ = some (.bool s.begun)
  c2 : W.cell? ⟨sb, 2, none⟩ = some v
  c3 : W.cell? ⟨sb, 3, none⟩ = some (.int .u16 s.newest)
  fz : ∀ o, W.frozen? ⟨sb, o, none⟩ = false
  row : W.ownsRow base 162 3 v s.gaps.length (s.gaps.flatMap cellsG)
  sb : sb < base
theorem SdAt.ne {W : World} {base sb : Nat} {v : Value} {s : Sd} (h : SdAt W base sb v s) : v.ownBlock ≠ some sb := fun e => by have := (h.row.lt sb e).1; have := h.sb; omega
theorem SdAt.lt {W : World} {base sb : Nat} {v : Value} {s : Sd} (h : SdAt W base sb v s) : sb < W.heap.size := lt_of_cell h.c0
theorem SdAt.chg {T : Nat → Prop} {W W' : World} {base sb : Nat} {v : Value} {s : Sd} (h : SdAt W base sb v s) (hc : Chg T W W') (h1 : ¬ T sb) (h2 : ∀ b, v.ownBlock = some b → ¬ T b) : SdAt W' base sb v s :=
  ⟨hc.cell h.c0 h1, hc.cell h.c1 h1, hc.cell h.c2 h1, hc.cell h.c3 h1, fun o => (hc.frozen (p := ⟨sb, o, none⟩) h.lt h1).trans (h.fz o), rowA_chg hc h.row h2, h.sb⟩
theorem SdAt.below {W W' : World} {base sb : Nat} {v : Value} {s : Sd} (h : SdAt W base sb v s) (hb : Below W.heap.size W W') : SdAt W' base sb v s := h.chg (T := fun _ => False) (Chg.ofBelow hb) (fun e => e) (fun _ _ e => e)
/-- what an operation on a sender may turn -/
structure SdUp (w w' : World) (sb : Nat) (v v' : Value) : Prop where
  chg : Chg (fun b => b = sb ∨ v.ownBlock = some b) w w'
  own : ∀ b, v'.ownBlock = some b → v.ownBlock = some b ∨ w.heap.size ≤ b
theorem SdUp.refl (w : World) (sb : Nat) (v : Value) : SdUp w w sb v v := ⟨Chg.refl _ _, fun _ h => .inl h⟩
theorem SdUp.trans {a b c : World} {sb : Nat} {v v1 v2 : Value} (h : SdUp a b sb v v1) (k : SdUp b c sb v1 v2) : SdUp a c sb v v2 :=
  ⟨h.chg.trans k.chg (fun x hx e => by
      rcases e with e | e
      · exact .inl e
      · rcases h.own x e with e | e
        · exact .inr e
        · omega), fun x hx => by
      rcases k.own x hx with e | e
      · exact h.own x e
      · exact .inr (Nat.le_trans h.chg.size e)⟩
theorem SdUp.before {a b c : World} {sb : Nat} {v v1 : Value} (h : Below a.heap.size a b) (k : SdUp b c sb v v1) : SdUp a c sb v v1 :=
  ⟨(Chg.ofBelow h).trans k.chg (fun _ _ e => e), fun x hx => (k.own x hx).imp id (fun e => Nat.le_trans h.size e)⟩
theorem SdUp.ofUpd {a b : World} {sb : Nat} {v v1 : Value} (h : Upd a b sb v v1) : SdUp a b sb v v1 := ⟨h.chg, h.own⟩
theorem SdAt.upd {a b : World} {base sb : Nat} {v v1 : Value} {s : Sd} {l : List Gp} (h : SdAt a base sb v s) (hu : Upd a b sb v v1) (hr : b.ownsRow base 162 3 v1 l.length (l.flatMap cellsG)) : SdAt b base sb v1 { s with gaps := l } :=
  ⟨(hu.oth 0 (by omega)).trans h.c0, (hu.oth 1 (by omega)).trans h.c1, hu.c2, (hu.oth 3 (by omega)).trans h.c3, fun o => (hu.fz o).trans (h.fz o), hr, h.sb⟩
theorem SdAt.set3 {W : World} {base sb : Nat} {v : Value} {s : Sd} (h : SdAt W base sb v s) (n : Nat) : SdAt (W.setCell ⟨sb, 3, none⟩ (.int .u16 n)) base sb v { s with newest := n } ∧ SdUp W (W.setCell ⟨sb, 3, none⟩ (.int .u16 n)) sb v v := by
  have o : ∀ i u, i ≠ 3 → W.cell? ⟨sb, i, none⟩ = some u → (W.setCell ⟨sb, 3, none⟩ (.int .u16 n)).cell? ⟨sb, i, none⟩ = some u := fun i u hi hu => (World.cell?_setCell_other _ _ _ _ (fun e => hi (by injection e with _ e2 _; exact e2.symm))).trans hu
  refine ⟨⟨o 0 _ (by omega) h.c0, o 1 _ (by omega) h.c1, o 2 _ (by omega) h.c2, World.cell?_setCell_same _ _ _ h.c3, fun o => by rw [World.frozen?_setCell]; exact h.fz o, ?_, h.sb⟩, (Chg.refl _ _).setCell ⟨sb, 3, none⟩ (.inl (.inl rfl)) _, fun _ h => .inl h⟩
  exact rowA_chg (T := fun x => x = sb) ((Chg.refl (fun x => x = sb) _).setCell ⟨sb, 3, none⟩ (.inl rfl) _) h.row (fun x hx e => h.ne (e ▸ hx))
theorem SdAt.set1 {W : World} {base sb : Nat} {v : Value} {s : Sd} (h : SdAt W base sb v s) (b : Bool) : SdAt (W.setCell ⟨sb, 1, none⟩ (.bool b)) base sb v { s with begun := b } ∧ SdUp W (W.setCell ⟨sb, 1, none⟩ (.bool b)) sb v v := by
  have o : ∀ i u, i ≠ 1 → W.cell? ⟨sb, i, none⟩ = some u → (W.setCell ⟨sb, 1, none⟩ (.bool b)).cell? ⟨sb, i, none⟩ = some u := fun i u hi hu => (World.cell?_setCell_other _ _ _ _ (fun e => hi (by injection e with _ e2 _; exact e2.symm))).trans hu
  refine ⟨⟨o 0 _ (by omega) h.c0, World.cell?_setCell_same _ _ _ h.c1, o 2 _ (by omega) h.c2, o 3 _ (by omega) h.c3, fun o => by rw [World.frozen?_setCell]; exact h.fz o, ?_, h.sb⟩, (Chg.refl _ _).setCell ⟨sb, 1, none⟩ (.inl (.inl rfl)) _, fun _ h => .inl h⟩
  exact rowA_chg (T := fun x => x = sb) ((Chg.refl (fun x => x = sb) _).setCell ⟨sb, 1, none⟩ (.inl rfl) _) h.row (fun x hx e => h.ne (e ▸ hx))

/-- numbers of two bytes -/
def In16G (l : List Gp) : Prop := ∀ x ∈ l, x.n < 65536
/-- how many are given up -/
def guN (newest window : Nat) : List Gp → Nat
  | [] => 0
  | x :: r => if window ≤ stepsTo newest x.n then guN newest window r + 1 else 0
theorem guN_le (newest window : Nat) : ∀ l, guN newest window l ≤ l.length
  | [] => Nat.le_refl _
  | x :: r => by
    have := guN_le newest window r
    rw [guN]
    split <;> simp <;> omega
theorem guN_at (newest window : Nat) : ∀ (l : List Gp) (k : Nat), k ≤ l.length → (∀ m (hm : m < l.length), m < k → window ≤ stepsTo newest (l[m]).n) → (∀ (hk : k < l.length), ¬ window ≤ stepsTo newest (l[k]).n) → guN newest window l = k
  | [], 0, _, _, _ => rfl
  | x :: r, 0, _, _, h2 => by rw [guN, if_neg (show ¬ window ≤ stepsTo newest x.n from h2 (by simp))]
  | x :: r, k + 1, hk, h1, h2 => by
    rw [guN, if_pos (show window ≤ stepsTo newest x.n from h1 0 (by simp) (by omega)), guN_at newest window r k (by simpa using hk) (fun m hm hmk => h1 (m + 1) (by simpa using hm) (by omega)) (fun hk' => h2 (by simpa using hk'))]

end Pk
open Pk

set_option maxRecDepth 20000 in
set_option maxHeartbeats 4000000 in
theorem giveUp_any (base sb : Nat) (v : Value) (s : Sd) (window : Nat) (w : World) (h : SdAt w base sb v s) (h16 : In16G s.gaps) (hn16 : s.newest < 65536) (hn : s.gaps.length ≤ 99000) (_hw : window ≤ 1000) :
    Calls Tryz.prog 105 #[.pointer (some ⟨sb, 0, none⟩), .int .i64 window] w fun e w' => e = .returned (.int .i64 (guN s.newest window s.gaps)) ∧ ∃ v', SdAt w' base sb v' { s with gaps := s.gaps.drop (guN s.newest window s.gaps) } ∧ SdUp w w' sb v v' := by
  obtain ⟨ao, cap, rfl⟩ := rowA_shape h.row
  have H := Pk.hid h
  have H16 := Pk.hid h16
  have y2 := h.c2
  have y3 := h.c3
  obtain ⟨n, hnn⟩ : ∃ n, s.gaps.length = n := ⟨_, rfl⟩
  have Hnn := Pk.hid hnn
  obtain ⟨nw, hnw⟩ : ∃ nw, s.newest = nw := ⟨_, rfl⟩
  have Hnw := Pk.hid hnw
  rw [hnn] at y2 hn
  rw [hnw] at y3 hn16
  clear h h16 hnn hnw
  go_enter Tryz.func105, Tryz.ntmps105
  go_wp2
  go_loopw [5] (fun s5 wr => ∃ (k q : Nat), k ≤ n ∧ s5 = .int .i64 k ∧ (∀ m (hm : m < s.gaps.length), m < k → window ≤ stepsTo nw (s.gaps[m]).n) ∧ wr = w.drewN q) (fun s5 _ => n - (intOf s5).toNat)
  case atStart => exact ⟨0, 0, Nat.zero_le _, rfl, fun m _ hm => by omega, rfl⟩
  case round =>
    obtain ⟨k, q, hk, rfl, hall, rfl⟩ := hrel
    have Hall := Pk.hid hall
    clear hall
    by_cases hlt : k < n
    · have hlt' : (k : Int) < n := by omega
      have hkl : k < s.gaps.length := by rw [Hnn.out]; exact hlt
      obtain ⟨g, rfl⟩ := rowA_some H.out.row (by omega)
      have d0 : w.cell? ⟨g, k * 3, none⟩ = some (.int .u16 (s.gaps[k]).n) := by
        have h := H.out.row.cellAt (k * 3 + 0) (by rw [Hnn.out]; omega)
        rw [flat_at cellsG_len s.gaps k 0 hkl (by omega)] at h
        exact h
      have hx16 := H16.out (s.gaps[k]) (List.getElem_mem hkl)
      obtain ⟨x, hx⟩ : ∃ x, (s.gaps[k]).n = x := ⟨_, rfl⟩
      have Hx := Pk.hid hx
      rw [hx] at d0 hx16
      clear hx
      have hsw := steps_wrap nw x hx16 hn16
      have hsl := steps_lt nw x
      obtain ⟨d, hd⟩ : ∃ d, stepsTo nw x = d := ⟨_, rfl⟩
      have Hd := Pk.hid hd
      rw [hd] at hsw hsl
      clear hd
      by_cases hge : window ≤ d
      · have hge' : (window : Int) ≤ d := by omega
        go_wp2
        go_quiet (fail)
        go_wp2
        go_roundw
        case rel => exact ⟨k + 1, _, by omega, by go_num, fun m hm hmk => by
          rcases Nat.lt_or_ge m k with h | h
          · exact Hall.out m hm h
          · obtain rfl : m = k := by omega
            rw [Hx.out, Hd.out]; exact hge, rfl⟩
        case measure => simp [intOf]; omega
      · have hge' : ¬ (window : Int) ≤ d := by omega
        have Hge := Pk.hid hge
        go_wp2
        go_quiet (fail)
        have Hg : Hid (guN s.newest window s.gaps = k) := by
          refine guN_at _ _ _ k (by rw [Hnn.out]; omega) (by rw [Hnw.out]; exact Hall.out) (fun hk' => ?_)
          rw [Hnw.out, Hx.out, Hd.out]; exact Hge.out
        have Hdr : Hid (SdAt (w.drewN (q + nq)) base sb (.slice (some ⟨g, 0, none⟩) n cap) s) := by
          have h := H.out.below (below_drewN (Below.refl _ _) (q + nq))
          rw [Hnn.out] at h
          exact h
        go_wp2_with fail
        refine (removeFirstG_any base sb _ s.gaps k _ Hdr.out.c2 Hdr.out.fz Hdr.out.ne Hdr.out.row (by rw [Hnn.out]; omega) (by rw [Hnn.out]; omega)).mono ?_
        rintro e w2 ⟨rfl, v2, hU, hr⟩
        have HU : Hid (SdUp w w2 sb (.slice (some ⟨g, 0, none⟩) s.gaps.length cap) v2) := by
          rw [Hnn.out]
          exact SdUp.before (below_drewN (Below.refl _ _) (q + nq)) (SdUp.ofUpd hU)
        have HS : Hid (SdAt w2 base sb v2 { s with gaps := s.gaps.drop k }) := Hdr.out.upd hU hr
        clear hU hr
        go_wp2
        go_ret
        rw [Hg.out]
        exact ⟨rfl, _, HS.out, HU.out⟩
    · have hlt' : ¬ (k : Int) < n := by omega
      · go_wp2
        go_quiet (fail)
        have Hg : Hid (guN s.newest window s.gaps = k) := by
          refine guN_at _ _ _ k (by rw [Hnn.out]; omega) (by rw [Hnw.out]; exact Hall.out) (fun hk' => ?_)
          exact absurd hk' (by rw [Hnn.out]; exact hlt)
        have Hdr : Hid (SdAt (w.drewN (q + nq)) base sb (.slice ao n cap) s) := by
          have h := H.out.below (below_drewN (Below.refl _ _) (q + nq))
          rw [Hnn.out] at h
          exact h
        go_wp2_with fail
        refine (removeFirstG_any base sb _ s.gaps k _ Hdr.out.c2 Hdr.out.fz Hdr.out.ne Hdr.out.row (by rw [Hnn.out]; omega) (by rw [Hnn.out]; omega)).mono ?_
        rintro e w2 ⟨rfl, v2, hU, hr⟩
        have HU : Hid (SdUp w w2 sb (.slice ao s.gaps.length cap) v2) := by
          rw [Hnn.out]
          exact SdUp.before (below_drewN (Below.refl _ _) (q + nq)) (SdUp.ofUpd hU)
        have HS : Hid (SdAt w2 base sb v2 { s with gaps := s.gaps.drop k }) := Hdr.out.upd hU hr
        clear hU hr
        go_wp2
        go_ret
        rw [Hg.out]
        exact ⟨rfl, _, HS.out, HU.out⟩

end Go.Proofs.YtdjhhnolcafkiaaGreat

/- A sender: goOn, lookBack, Take. -/
namespace Go.Proofs.YtdjhhnolcafkiaaGreat
open Go.RowKit
namespace Pk

/-- c numbers from n on are missing -/
def addsF (now : Int) : Nat → Nat → List Gp → List Gp
  | 0, _, l => l
  | c + 1, n, l => addsF now c ((n + 1) % 65536) (rmF Gp.n n l ++ [⟨n, now, 0⟩])
def gapsOn (s : Sd) (number : Nat) (now : Int) (window : Nat) : List Gp := if stepsTo number s.newest ≤ window then addsF now (stepsTo number s.newest - 1) ((s.newest + 1) % 65536) s.gaps else s.gaps
def goOnF (s : Sd) (number : Nat) (now : Int) (window : Nat) : Sd := { s with newest := number, gaps := (gapsOn s number now window).drop (guN number window (gapsOn s number now window)) }
def lookBackF (s : Sd) (number window : Nat) : Sd × Nat :=
  if window ≤ stepsTo s.newest number then (s, 1) else if 0 ≤ posF number (s.gaps.map Gp.n) then ({ s with gaps := rmF Gp.n number s.gaps }, 0) else (s, 2)
/-- what comes of a packet: the sender, its fate, how many are given up -/
def takeF (s : Sd) (number : Nat) (now : Int) (window : Nat) : Sd × Nat × Nat :=
  if s.begun = false then ({ s with begun := true, newest := number }, 0, 0)
  else if 1 ≤ stepsTo number s.newest ∧ stepsTo number s.newest ≤ 32767 then (goOnF s number now window, 0, guN number window (gapsOn s number now window))
  else ((lookBackF s number window).1, (lookBackF s number window).2, 0)

theorem rmF_mem {α : Type} {nf : α → Nat} {num : Nat} {l : List α} {x : α} (h : x ∈ rmF nf num l) : x ∈ l := by
  unfold rmF at h
  split at h
  · exact h
  · rcases List.mem_append.1 h with h | h
    · exact List.mem_of_mem_take h
    · exact List.mem_of_mem_drop h
theorem In16G.rm {l : List Gp} (h : In16G l) (n : Nat) : In16G (rmF Gp.n n l) := fun x hx => h x (rmF_mem hx)
theorem In16G.add {l : List Gp} (h : In16G l) (n : Nat) (hn : n < 65536) (a b : Int) : In16G (rmF Gp.n n l ++ [⟨n, a, b⟩]) := fun x hx => by
  rcases List.mem_append.1 hx with hx | hx
  · exact h.rm n x hx
  · simp at hx; subst hx; exact hn
theorem steps_zero (a b : Nat) (ha : a < 65536) (hb : b < 65536) : stepsTo a b = 0 ↔ b = a := by unfold stepsTo; omega
theorem steps_next (a b c : Nat) (ha : a < 65536) (_hb : b < 65536) (h : stepsTo a b = c + 1) : stepsTo a ((b + 1) % 65536) = c := by unfold stepsTo at *; omega
theorem u16_next (n : Nat) : IntKind.u16.wrap ((n : Int) + 1) = (((n + 1) % 65536 : Nat) : Int) := by simp [IntKind.wrap, IntKind.signed, IntKind.bits]

end Pk
open Pk

set_option maxRecDepth 20000 in
set_option maxHeartbeats 4000000 in
theorem goOn_any (base sb : Nat) (v : Value) (s : Sd) (number window : Nat) (now : Int) (w : World) (h : SdAt w base sb v s) (h16 : In16G s.gaps) (hn16 : s.newest < 65536) (hnum : number < 65536) (hd1 : 1 ≤ stepsTo number s.newest) (hn : s.gaps.length ≤ 90000) (hw : window ≤ 1000) (hb : base ≤ w.heap.size) :
    Calls Tryz.prog 90 #[.pointer (some ⟨sb, 0, none⟩), .int .u16 number, .int .i64 now, .int .i64 window] w fun e w' => e = .returned (.int .i64 (guN number window (gapsOn s number now window))) ∧ ∃ v', SdAt w' base sb v' (goOnF s number now window) ∧ SdUp w w' sb v v' := by
  have H := Pk.hid h
  have H16 := Pk.hid h16
  have y3 := h.c3
  have hsb := h.lt
  obtain ⟨nw, hnw⟩ : ∃ nw, s.newest = nw := ⟨_, rfl⟩
  have Hnw := Pk.hid hnw
  rw [hnw] at y3 hn16 hd1
  have hsw := steps_wrap number nw hn16 hnum
  have hsl := steps_lt number nw
  obtain ⟨d, hd⟩ : ∃ d, stepsTo number nw = d := ⟨_, rfl⟩
  have Hd := Pk.hid hd
  rw [hd] at hsw hsl hd1
  have hun := u16_next nw
  have hn1 : (nw + 1) % 65536 < 65536 := Nat.mod_lt _ (by decide)
  have HG : Hid (gapsOn s number now window = if d ≤ window then addsF now (d - 1) ((nw + 1) % 65536) s.gaps else s.gaps) := by
    show _ = _
    unfold gapsOn
    rw [hnw, hd]
  have Hs1 : Hid (stepsTo number ((nw + 1) % 65536) = d - 1) := steps_next number nw (d - 1) hnum hn16 (by omega)
  generalize hn1e : (nw + 1) % 65536 = n1 at *
  clear h h16 hnw hd hn1e
  by_cases hle : d ≤ window
  · have hle' : (d : Int) ≤ window := by omega
    rw [if_pos hle] at HG
    go_enter Tryz.func90, Tryz.ntmps90
    go_wp2
    clear y3
    go_loopw [9] (fun s9 wr => ∃ (c n : Nat) (l : List Gp) (v' : Value), s9 = .int .u16 n ∧ n < 65536 ∧ stepsTo number n = c ∧ c < d ∧ addsF now c n l = gapsOn s number now window ∧ In16G l ∧ l.length + c ≤ s.gaps.length + d ∧ SdAt wr base sb v' { s with gaps := l } ∧ SdUp w wr sb v v') (fun s9 _ => stepsTo number (intOf s9).toNat)
    case atStart => exact ⟨d - 1, n1, s.gaps, v, rfl, hn1, Hs1.out, by omega, HG.out.symm, H16.out, by omega, H.out, SdUp.refl _ _ _⟩
    case round =>
      obtain ⟨c, n, l, v', rfl, hnl, hc, hcd, hadd, hl16, hlen, hS, hU⟩ := hrel
      have HS := Pk.hid hS
      have HU := Pk.hid hU
      have Hadd := Pk.hid hadd
      have Hl16 := Pk.hid hl16
      have Hc := Pk.hid hc
      have hwr := hU.chg.size
      have hsbw := hS.lt
      clear hadd hl16 hS hU
      by_cases hne : n = number
      · have hne' : ((n : Int) != (number : Int)) = false := by simp [hne]
        have hc0 : c = 0 := by have := (steps_zero number n hnum hnl).2 hne; omega
        have HGl : Hid (gapsOn s number now window = l) := by
          have h := Hadd.out
          rw [hc0] at h
          exact h.symm
        have yf := HS.out.fz
        have y3 := HS.out.c3
        simp only [Hnw.out] at y3
        obtain ⟨S3, U3⟩ := HS.out.set3 number
        have HS3 := Pk.hid S3
        have HU3 : Hid (SdUp w (wr.setCell ⟨sb, 3, none⟩ (.int .u16 number)) sb v v') := HU.out.trans U3
        clear hne S3 U3 hc
        go_wp2_with fail
        refine (giveUp_any base sb v' _ window _ HS3.out Hl16.out hnum (by simp only; omega) hw).mono ?_
        rintro e w2 ⟨rfl, v2, hS2, hU2⟩
        have HS2 : Hid (SdAt w2 base sb v2 (goOnF s number now window)) := by
          show SdAt _ _ _ _ _
          unfold goOnF
          rw [HGl.out]
          exact hS2
        have HU2 : Hid (SdUp w w2 sb v v2) := HU3.out.trans hU2
        clear hS2 hU2 yf y3
        simp only
        generalize hgn : guN number window l = gn
        have Hgn := Pk.hid hgn
        clear hgn
        go_wp2
        go_ret
        rw [HGl.out, Hgn.out]
        exact ⟨rfl, _, HS2.out, HU2.out⟩
      · have hne' : ((n : Int) != (number : Int)) = true := by simp; omega
        obtain ⟨c', hc'⟩ : ∃ c', c = c' + 1 := ⟨c - 1, by have : ¬ stepsTo number n = 0 := fun e => hne ((steps_zero number n hnum hnl).1 e); omega⟩
        have Hnx : Hid (stepsTo number ((n + 1) % 65536) = c') := steps_next number n c' hnum hnl (by omega)
        have hun2 := u16_next n
        have hnl2 : (n + 1) % 65536 < 65536 := Nat.mod_lt _ (by decide)
        have Hadd2 : Hid (addsF now c' ((n + 1) % 65536) (rmF Gp.n n l ++ [⟨n, now, 0⟩]) = gapsOn s number now window) := by
          have h := Hadd.out
          rw [hc'] at h
          exact h
        have hrl := rmF_length Gp.n n l
        generalize hn2e : (n + 1) % 65536 = n2 at *
        have Hn2e := Pk.hid hn2e
        clear hn2e
        have Hc' : Hid (c = c' + 1) := hc'
        have hcc : c' < c := by omega
        clear hc hc' hne
        go_wp2_with fail
        refine (addG_any base sb v' l n now 0 _ HS.out.c2 HS.out.fz HS.out.ne HS.out.row (by omega) (by omega) HS.out.sb).mono ?_
        rintro e w2 ⟨rfl, v2, hU2, hr2⟩
        have HS2 : Hid (SdAt w2 base sb v2 { s with gaps := rmF Gp.n n l ++ [⟨n, now, 0⟩] }) := HS.out.upd hU2 hr2
        have HU2 : Hid (SdUp w w2 sb v v2) := HU.out.trans (SdUp.ofUpd hU2)
        clear hU2 hr2
        go_wp2
        go_roundw
        case rel => exact ⟨c', n2, _, v2, rfl, hnl2, Hnx.out, by omega, Hadd2.out, Hl16.out.add n hnl _ _, by simp; omega, HS2.out, HU2.out⟩
        case measure => simp only [intOf, Int.toNat_natCast]; rw [Hnx.out, Hc.out]; omega
  · have hle' : ¬ (d : Int) ≤ window := by omega
    rw [if_neg hle] at HG
    have yf := H.out.fz
    obtain ⟨S3, U3⟩ := H.out.set3 number
    have HS3 := Pk.hid S3
    have HU3 := Pk.hid U3
    clear S3 U3
    go_enter Tryz.func90, Tryz.ntmps90
    go_wp2_with fail
    refine (giveUp_any base sb v _ window _ HS3.out H16.out hnum (by simp only; omega) hw).mono ?_
    rintro e w2 ⟨rfl, v2, hS2, hU2⟩
    have HS2 : Hid (SdAt w2 base sb v2 (goOnF s number now window)) := by
      show SdAt _ _ _ _ _
      unfold goOnF
      rw [HG.out]
      exact hS2
    have HU2 : Hid (SdUp w w2 sb v v2) := HU3.out.trans hU2
    clear hS2 hU2 yf y3
    simp only
    generalize hgn : guN number window s.gaps = gn
    have Hgn := Pk.hid hgn
    clear hgn
    go_wp2
    go_ret
    rw [HG.out, Hgn.out]
    exact ⟨rfl, _, HS2.out, HU2.out⟩

set_option maxRecDepth 20000 in
set_option maxHeartbeats 4000000 in
theorem lookBack_any (base sb : Nat) (v : Value) (s : Sd) (number window : Nat) (w : World) (h : SdAt w base sb v s) (hn16 : s.newest < 65536) (hnum : number < 65536) (hn : s.gaps.length ≤ 90000) (_hw : window ≤ 1000) :
    Calls Tryz.prog 91 #[.pointer (some ⟨sb, 0, none⟩), .int .u16 number, .int .i64 window] w fun e w' => e = .returned (.int .i64 (lookBackF s number window).2) ∧ ∃ v', SdAt w' base sb v' (lookBackF s number window).1 ∧ SdUp w w' sb v v' := by
  have H := Pk.hid h
  have y3 := h.c3
  have hsb := h.lt
  obtain ⟨nw, hnw⟩ : ∃ nw, s.newest = nw := ⟨_, rfl⟩
  have Hnw := Pk.hid hnw
  rw [hnw] at y3 hn16
  have hsw := steps_wrap nw number hnum hn16
  have hsl := steps_lt nw number
  obtain ⟨d, hd⟩ : ∃ d, stepsTo nw number = d := ⟨_, rfl⟩
  have HL : Hid (lookBackF s number window = if window ≤ d then (s, 1) else if 0 ≤ posF number (s.gaps.map Gp.n) then ({ s with gaps := rmF Gp.n number s.gaps }, 0) else (s, 2)) := by
    show _ = _
    unfold lookBackF
    rw [hnw, hd]
  rw [hd] at hsw hsl
  clear h hnw hd
  by_cases hge : window ≤ d
  · have hge' : (window : Int) ≤ d := by omega
    rw [if_pos hge] at HL
    go_enter Tryz.func91, Tryz.ntmps91
    go_wp2
    go_ret
    rw [HL.out]
    exact ⟨rfl, _, H.out, SdUp.refl _ _ _⟩
  · have hge' : ¬ (window : Int) ≤ d := by omega
    rw [if_neg hge] at HL
    go_enter Tryz.func91, Tryz.ntmps91
    go_wp2_with fail
    refine (removeG_any base sb v s.gaps number _ H.out.c2 H.out.fz H.out.ne H.out.row (by omega)).mono ?_
    rintro e w2 ⟨rfl, v2, hU2, hr2⟩
    have HS2 : Hid (SdAt w2 base sb v2 { s with gaps := rmF Gp.n number s.gaps }) := H.out.upd hU2 hr2
    have HU2 : Hid (SdUp w w2 sb v v2) := SdUp.ofUpd hU2
    clear hU2 hr2 y3
    by_cases hp : 0 ≤ posF number (s.gaps.map Gp.n)
    · rw [decide_eq_true hp]
      rw [if_pos hp] at HL
      clear hp
      go_wp2
      go_ret
      rw [HL.out]
      exact ⟨rfl, _, HS2.out, HU2.out⟩
    · rw [decide_eq_false hp]
      rw [if_neg hp] at HL
      have hrm : rmF Gp.n number s.gaps = s.gaps := by unfold rmF; rw [if_pos (by omega)]
      rw [hrm] at HS2
      clear hp hrm
      go_wp2
      go_ret
      rw [HL.out]
      exact ⟨rfl, _, HS2.out, HU2.out⟩

set_option maxRecDepth 20000 in
set_option maxHeartbeats 4000000 in
theorem take_any (base sb : Nat) (v : Value) (s : Sd) (number window : Nat) (now : Int) (w : World) (h : SdAt w base sb v s) (h16 : In16G s.gaps) (hn16 : s.newest < 65536) (hnum : number < 65536) (hn : s.gaps.length ≤ 90000) (hw : window ≤ 1000) (hb : base ≤ w.heap.size) :
    Calls Tryz.prog 73 #[.pointer (some ⟨sb, 0, none⟩), .int .u16 number, .int .i64 now, .int .i64 window] w fun e w' => e = .returned (.tuple #[.int .i64 (takeF s number now window).2.1, .int .i64 (takeF s number now window).2.2]) ∧ ∃ v', SdAt w' base sb v' (takeF s number now window).1 ∧ SdUp w w' sb v v' := by
  have H := Pk.hid h
  have H16 := Pk.hid h16
  have y1 := h.c1
  have y3 := h.c3
  have yf := h.fz
  have hsb := h.lt
  obtain ⟨nw, hnw⟩ : ∃ nw, s.newest = nw := ⟨_, rfl⟩
  have Hnw := Pk.hid hnw
  have Hn16 := Pk.hid hn16
  rw [hnw] at y3 hn16
  have hsw := steps_wrap number nw hn16 hnum
  have hsl := steps_lt number nw
  obtain ⟨d, hd⟩ : ∃ d, stepsTo number nw = d := ⟨_, rfl⟩
  have Hd := Pk.hid hd
  rw [hd] at hsw hsl
  clear h h16 hnw hd
  by_cases hbg : s.begun = true
  case neg =>
    have hbf : s.begun = false := by simpa using hbg
    have HT : Hid (takeF s number now window = ({ s with begun := true, newest := number }, 0, 0)) := by show _ = _; unfold takeF; rw [if_pos hbf]
    rw [hbf] at y1
    obtain ⟨S1, U1⟩ := H.out.set1 true
    obtain ⟨S3, U3⟩ := S1.set3 number
    have HS3 := Pk.hid S3
    have HU3 : Hid (SdUp w ((w.setCell ⟨sb, 1, none⟩ (.bool true)).setCell ⟨sb, 3, none⟩ (.int .u16 number)) sb v v) := U1.trans U3
    clear S1 U1 S3 U3 hbg hbf
    go_enter Tryz.func73, Tryz.ntmps73
    go_wp2
    go_ret2
    rw [HT.out]
    exact ⟨rfl, _, HS3.out, HU3.out⟩
  rw [hbg] at y1
  by_cases hah : 1 ≤ d ∧ d ≤ 32767
  · have HT : Hid (takeF s number now window = (goOnF s number now window, 0, guN number window (gapsOn s number now window))) := by
      show _ = _
      unfold takeF
      rw [if_neg (by rw [hbg]; simp), if_pos (by rw [Hnw.out, Hd.out]; exact hah)]
    obtain ⟨ha1, ha2⟩ := hah
    have ha1' : (1 : Int) ≤ d := by omega
    have ha2' : (d : Int) ≤ 32767 := by omega
    clear hbg
    go_enter Tryz.func73, Tryz.ntmps73
    go_wp2_with fail
    refine (goOn_any base sb v s number window now _ H.out H16.out Hn16.out hnum (by rw [Hnw.out, Hd.out]; exact ha1) hn hw hb).mono ?_
    rintro e w2 ⟨rfl, v2, hS2, hU2⟩
    have HS2 := Pk.hid hS2
    have HU2 := Pk.hid hU2
    clear hS2 hU2 y1 y3 yf
    generalize guN number window (gapsOn s number now window) = gn at *
    go_wp2
    go_ret2
    rw [HT.out]
    exact ⟨rfl, _, HS2.out, HU2.out⟩
  · have HT : Hid (takeF s number now window = ((lookBackF s number window).1, (lookBackF s number window).2, 0)) := by
      show _ = _
      unfold takeF
      rw [if_neg (by rw [hbg]; simp), if_neg (by rw [Hnw.out, Hd.out]; exact hah)]
    clear hbg
    by_cases ha1 : 1 ≤ d
    · have ha1' : (1 : Int) ≤ d := by omega
      have ha2' : ¬ (d : Int) ≤ 32767 := by omega
      clear hah
      go_enter Tryz.func73, Tryz.ntmps73
      go_wp2_with fail
      refine (lookBack_any base sb v s number window _ H.out Hn16.out hnum hn hw).mono ?_
      rintro e w2 ⟨rfl, v2, hS2, hU2⟩
      have HS2 := Pk.hid hS2
      have HU2 := Pk.hid hU2
      clear hS2 hU2 y1 y3 yf
      generalize lookBackF s number window = lb at *
      go_wp2
      go_ret2
      rw [HT.out]
      exact ⟨rfl, _, HS2.out, HU2.out⟩
    · have ha1' : ¬ (1 : Int) ≤ d := by omega
      clear hah
      go_enter Tryz.func73, Tryz.ntmps73
      go_wp2_with fail
      refine (lookBack_any base sb v s number window _ H.out Hn16.out hnum hn hw).mono ?_
      rintro e w2 ⟨rfl, v2, hS2, hU2⟩
      have HS2 := Pk.hid hS2
      have HU2 := Pk.hid hU2
      clear hS2 hU2 y1 y3 yf
      generalize lookBackF s number window = lb at *
      go_wp2
      go_ret2
      rw [HT.out]
      exact ⟨rfl, _, HS2.out, HU2.out⟩

end Go.Proofs.YtdjhhnolcafkiaaGreat

/- A want: plain facts. -/
namespace Go.Proofs.YtdjhhnolcafkiaaGreat
open Go.RowKit
namespace Pk

/-- a list of numbers in blocks of the kind C, which nobody writes -/
def IsC (C : Nat → Prop) (W : World) (v : Value) (l : List Int) : Prop :=
  ∃ ao cap, v = .slice ao l.length cap ∧ ∀ j, j < l.length → ∃ b off, ao = some ⟨b, off, none⟩ ∧ C b ∧ W.cell? ⟨b, off + j, none⟩ = some (.int .i64 (l.getD j 0))
theorem IsC.chg {C T : Nat → Prop} {W W' : World} {v : Value} {l : List Int} (h : IsC C W v l) (hc : Chg T W W') (hT : ∀ b, C b → ¬ T b) : IsC C W' v l := by
  obtain ⟨ao, cap, rfl, hj⟩ := h
  refine ⟨ao, cap, rfl, fun j hjl => ?_⟩
  obtain ⟨b, off, e, hC, hcell⟩ := hj j hjl
  exact ⟨b, off, e, hC, hc.cell hcell (hT b hC)⟩
theorem IsC.mono {C C' : Nat → Prop} {W : World} {v : Value} {l : List Int} (h : IsC C W v l) (hC : ∀ b, b < W.heap.size → C b → C' b) : IsC C' W v l := by
  obtain ⟨ao, cap, rfl, hj⟩ := h
  refine ⟨ao, cap, rfl, fun j hjl => ?_⟩
  obtain ⟨b, off, e, hb, hcell⟩ := hj j hjl
  exact ⟨b, off, e, hC b (lt_of_cell hcell) hb, hcell⟩
theorem IsC.isInts {C : Nat → Prop} {W : World} {v : Value} {l : List Int} (h : IsC C W v l) : IsInts W.heap.size W v l := by
  obtain ⟨ao, cap, rfl, hj⟩ := h
  refine ⟨ao, cap, rfl, fun j hjl => ?_⟩
  obtain ⟨b, off, e, hb, hcell⟩ := hj j hjl
  exact ⟨b, off, e, lt_of_cell hcell, hcell⟩
theorem IsC.one {C : Nat → Prop} {W : World} {v : Value} {l : List Int} (h : IsC C W v l) : v.oneCell' = true := by
  obtain ⟨ao, cap, rfl, _⟩ := h
  rfl

structure Plan where
  source : Int
  second : Int
  ty : Int
  secondTy : Int
  first : Int
  secondFirst : Int
structure Wn where
  src : Int
  begun : Bool
  kept : List Kp
  id : Int
  of_ : Int
  pl : Plan
  shift : Nat
  second : Nat
structure WnAt (C : Nat → Prop) (W : World) (base wb : Nat) (v : Value) (x : Wn) : Prop where
  c0 : W.cell? ⟨wb, 0, none⟩ = some (.int .i64 x.src)
  c1 : W.cell? ⟨wb, 1, none⟩ = some (.bool x.begun)
  c2 : W.cell? ⟨wb, 2, none⟩ = some v
  c3 : W.cell? ⟨wb, 3, none⟩ = some (.int .i64 x.id)
  c4 : W.cell? ⟨wb, 4, none⟩ = some (.int .i64 x.of_)
  c5 : W.cell? ⟨wb, 5, none⟩ = some (.int .i64 x.pl.source)
  c6 : W.cell? ⟨wb, 6, none⟩ = some (.int .i64 x.pl.second)
  c7 : W.cell? ⟨wb, 7, none⟩ = some (.int .i64 x.pl.ty)
  c8 : W.cell? ⟨wb, 8, none⟩ = some (.int .i64 x.pl.secondTy)
  c9 : W.cell? ⟨wb, 9, none⟩ = some (.int .i64 x.pl.first)
  c10 : W.cell? ⟨wb, 10, none⟩ = some (.int .i64 x.pl.secondFirst)
  c11 : W.cell? ⟨wb, 11, none⟩ = some (.int .u16 x.shift)
  c12 : W.cell? ⟨wb, 12, none⟩ = some (.int .u16 x.second)
  fz : ∀ o, W.frozen? ⟨wb, o, none⟩ = false
  row : W.ownsRow base 194 13 v x.kept.length (x.kept.flatMap cellsK)
  sb : wb < base
  con : ∀ k ∈ x.kept, IsC C W k.cv k.x.cl
  n1 : ¬ C wb
  n2 : ∀ b, v.ownBlock = some b → ¬ C b
theorem WnAt.ne {C : Nat → Prop} {W : World} {base wb : Nat} {v : Value} {x : Wn} (h : WnAt C W base wb v x) : v.ownBlock ≠ some wb := fun e => by have := (h.row.lt wb e).1; have := h.sb; omega
theorem WnAt.lt {C : Nat → Prop} {W : World} {base wb : Nat} {v : Value} {x : Wn} (h : WnAt C W base wb v x) : wb < W.heap.size := lt_of_cell h.c0
theorem WnAt.one {C : Nat → Prop} {W : World} {base wb : Nat} {v : Value} {x : Wn} (h : WnAt C W base wb v x) : OneK x.kept := fun k hk => (h.con k hk).one
theorem WnAt.chg {C T : Nat → Prop} {W W' : World} {base wb : Nat} {v : Value} {x : Wn} (h : WnAt C W base wb v x) (hc : Chg T W W') (h1 : ¬ T wb) (h2 : ∀ b, v.ownBlock = some b → ¬ T b) (h3 : ∀ b, C b → ¬ T b) : WnAt C W' base wb v x :=
  ⟨hc.cell h.c0 h1, hc.cell h.c1 h1, hc.cell h.c2 h1, hc.cell h.c3 h1, hc.cell h.c4 h1, hc.cell h.c5 h1, hc.cell h.c6 h1, hc.cell h.c7 h1, hc.cell h.c8 h1, hc.cell h.c9 h1, hc.cell h.c10 h1, hc.cell h.c11 h1, hc.cell h.c12 h1,
    fun o => (hc.frozen (p := ⟨wb, o, none⟩) h.lt h1).trans (h.fz o), rowA_chg hc h.row h2, h.sb, fun k hk => (h.con k hk).chg hc h3, h.n1, h.n2⟩
theorem WnAt.below {C : Nat → Prop} {W W' : World} {base wb : Nat} {v : Value} {x : Wn} (h : WnAt C W base wb v x) (hb : Below W.heap.size W W') : WnAt C W' base wb v x := h.chg (T := fun _ => False) (Chg.ofBelow hb) (fun e => e) (fun _ _ e => e) (fun _ _ e => e)
theorem WnAt.mono {C C' : Nat → Prop} {W : World} {base wb : Nat} {v : Value} {x : Wn} (h : WnAt C W base wb v x) (hC : ∀ b, b < W.heap.size → (C b ↔ C' b)) : WnAt C' W base wb v x :=
  ⟨h.c0, h.c1, h.c2, h.c3, h.c4, h.c5, h.c6, h.c7, h.c8, h.c9, h.c10, h.c11, h.c12, h.fz, h.row, h.sb, fun k hk => (h.con k hk).mono (fun b hb hc => (hC b hb).1 hc), fun e => h.n1 ((hC wb h.lt).2 e), fun b hb e => h.n2 b hb ((hC b (h.row.lt b hb).2).2 e)⟩
theorem WnAt.upd {C : Nat → Prop} {a b : World} {base wb : Nat} {v v1 : Value} {x : Wn} {l : List Kp} (h : WnAt C a base wb v x) (hu : Upd a b wb v v1) (hr : b.ownsRow base 194 13 v1 l.length (l.flatMap cellsK)) (hl : ∀ k ∈ l, IsC C a k.cv k.x.cl) (hC : ∀ b, C b → b < a.heap.size) : WnAt C b base wb v1 { x with kept := l } :=
  ⟨(hu.oth 0 (by omega)).trans h.c0, (hu.oth 1 (by omega)).trans h.c1, hu.c2, (hu.oth 3 (by omega)).trans h.c3, (hu.oth 4 (by omega)).trans h.c4, (hu.oth 5 (by omega)).trans h.c5, (hu.oth 6 (by omega)).trans h.c6, (hu.oth 7 (by omega)).trans h.c7, (hu.oth 8 (by omega)).trans h.c8,
    (hu.oth 9 (by omega)).trans h.c9, (hu.oth 10 (by omega)).trans h.c10, (hu.oth 11 (by omega)).trans h.c11, (hu.oth 12 (by omega)).trans h.c12, fun o => (hu.fz o).trans (h.fz o), hr, h.sb, fun k hk => (hl k hk).chg hu.chg (fun y hy e => by
      rcases e with e | e
      · exact h.n1 (e ▸ hy)
      · exact h.n2 y e hy), h.n1, fun y hy e => by
      rcases hu.own y hy with e' | e'
      · exact h.n2 y e' e
      · have := hC y e; omega⟩
/-- one cell of the want's block is stored -/
theorem WnAt.set {C : Nat → Prop} {W : World} {base wb : Nat} {v : Value} {x : Wn} (h : WnAt C W base wb v x) (i : Nat) (u : Value) (_h2 : i ≠ 2) : SdUp W (W.setCell ⟨wb, i, none⟩ u) wb v v ∧ (W.setCell ⟨wb, i, none⟩ u).ownsRow base 194 13 v x.kept.length (x.kept.flatMap cellsK) ∧ (∀ k ∈ x.kept, IsC C (W.setCell ⟨wb, i, none⟩ u) k.cv k.x.cl) ∧ (∀ j y, j ≠ i → W.cell? ⟨wb, j, none⟩ = some y → (W.setCell ⟨wb, i, none⟩ u).cell? ⟨wb, j, none⟩ = some y) ∧ ∀ o, (W.setCell ⟨wb, i, none⟩ u).frozen? ⟨wb, o, none⟩ = false := by
  have hc : Chg (fun x => x = wb) W (W.setCell ⟨wb, i, none⟩ u) := (Chg.refl (fun x => x = wb) _).setCell ⟨wb, i, none⟩ (.inl rfl) _
  refine ⟨⟨hc.mono (fun _ _ e => .inl e), fun _ h => .inl h⟩, rowA_chg hc h.row (fun y hy e => h.ne (e ▸ hy)), fun k hk => (h.con k hk).chg hc (fun y hy e => h.n1 (e ▸ hy)), fun j y hj hy => ?_, fun o => ?_⟩
  · exact (World.cell?_setCell_other _ _ _ _ (fun e => hj (by injection e with _ e2 _; exact e2.symm))).trans hy
  · rw [World.frozen?_setCell]; exact h.fz o
theorem WnAt.set1 {C : Nat → Prop} {W : World} {base wb : Nat} {v : Value} {x : Wn} (h : WnAt C W base wb v x) (b : Bool) : WnAt C (W.setCell ⟨wb, 1, none⟩ (.bool b)) base wb v { x with begun := b } ∧ SdUp W (W.setCell ⟨wb, 1, none⟩ (.bool b)) wb v v := by
  obtain ⟨u, r, c, o, f⟩ := h.set 1 (.bool b) (by omega)
  exact ⟨⟨o 0 _ (by omega) h.c0, World.cell?_setCell_same _ _ _ h.c1, o 2 _ (by omega) h.c2, o 3 _ (by omega) h.c3, o 4 _ (by omega) h.c4, o 5 _ (by omega) h.c5, o 6 _ (by omega) h.c6, o 7 _ (by omega) h.c7, o 8 _ (by omega) h.c8, o 9 _ (by omega) h.c9, o 10 _ (by omega) h.c10, o 11 _ (by omega) h.c11, o 12 _ (by omega) h.c12, f, r, h.sb, c, h.n1, h.n2⟩, u⟩
theorem WnAt.set11 {C : Nat → Prop} {W : World} {base wb : Nat} {v : Value} {x : Wn} (h : WnAt C W base wb v x) (n : Nat) : WnAt C (W.setCell ⟨wb, 11, none⟩ (.int .u16 n)) base wb v { x with shift := n } ∧ SdUp W (W.setCell ⟨wb, 11, none⟩ (.int .u16 n)) wb v v := by
  obtain ⟨u, r, c, o, f⟩ := h.set 11 (.int .u16 n) (by omega)
  exact ⟨⟨o 0 _ (by omega) h.c0, o 1 _ (by omega) h.c1, o 2 _ (by omega) h.c2, o 3 _ (by omega) h.c3, o 4 _ (by omega) h.c4, o 5 _ (by omega) h.c5, o 6 _ (by omega) h.c6, o 7 _ (by omega) h.c7, o 8 _ (by omega) h.c8, o 9 _ (by omega) h.c9, o 10 _ (by omega) h.c10, World.cell?_setCell_same _ _ _ h.c11, o 12 _ (by omega) h.c12, f, r, h.sb, c, h.n1, h.n2⟩, u⟩
/-- a packet as it goes to a want, and what the want then is -/
def shiftOf (x : Wn) (nu : Nat) : Nat := if x.begun then x.shift else (x.pl.first.toNat + 65536 - nu) % 65536
def numOf (x : Wn) (nu : Nat) : Nat := (nu + shiftOf x nu) % 65536
def passP (x : Wn) (p : PP) : PP := { p with so := x.src, ty := x.pl.ty, nu := (numOf x p.nu.toNat : Nat) }
def keepsF (x : Wn) (p : PP) (cv : Value) (ring : Nat) : List Kp :=
  if ring < (rmF Kp.n (numOf x p.nu.toNat) x.kept ++ [(⟨numOf x p.nu.toNat, passP x p, cv, 0⟩ : Kp)]).length then (rmF Kp.n (numOf x p.nu.toNat) x.kept ++ [(⟨numOf x p.nu.toNat, passP x p, cv, 0⟩ : Kp)]).drop 1
  else rmF Kp.n (numOf x p.nu.toNat) x.kept ++ [(⟨numOf x p.nu.toNat, passP x p, cv, 0⟩ : Kp)]
def passW (x : Wn) (p : PP) (cv : Value) (ring : Nat) : Wn := { x with begun := true, shift := shiftOf x p.nu.toNat, kept := keepsF x p cv ring }

end Pk
end Go.Proofs.YtdjhhnolcafkiaaGreat
