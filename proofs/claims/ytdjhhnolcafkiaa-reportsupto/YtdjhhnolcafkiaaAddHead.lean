/- The writer of a packet's head. -/
import Derived.Test.YtdjhhnolcafkiaaAdd
namespace Go.Proofs.Ytdjhhnolcafkiaa
open Go.RowKit Pk

theorem box_kept {w w' : World} {g : Nat} (h : w.grownBy w' (some g)) (b : Nat) (hb : b < w.heap.size) (hne : b ≠ g) : ∀ o, w'.cell? ⟨b, o, none⟩ = w.cell? ⟨b, o, none⟩ :=
  fun o => World.cell?_of_block (a := ⟨b, o, none⟩) (h.block b hb (by simpa using hne))

set_option maxHeartbeats 4000000 in
theorem addHead_any (base g n cap : Nat) (l : List UInt8) (mk ex pd : Bool) (ty nu ti so pa : Nat) (pr : Int) (cv : Value) (cl : List Int) (en py : ByteArray) (w : World)
    (hty : ty ≤ 127) (hnu : nu ≤ 65535) (hti : ti ≤ 4294967295) (hso : so ≤ 4294967295) (hcl : cl.length ≤ 15) (hci : allIn cl 4294967295 = true) (hv : IsInts base w cv cl)
    (hroom : n + (12 + 4 * cl.length) ≤ cap) (hpd0 : pd = decide (0 < pa)) (hB : Buf w base g n cap l) :
    Calls Try.prog 71 #[.slice (some ⟨g, 0, none⟩) n cap, .agg #[.bool mk, .int .i64 ty, .int .i64 nu, .int .i64 ti, .int .i64 so, cv, .bool ex, .int .i64 pr, .string en, .string py, .int .i64 pa]] w fun e w' =>
      e = .returned (.slice (some ⟨g, 0, none⟩) (n + (12 + 4 * cl.length)) cap) ∧ Buf w' base g (n + (12 + 4 * cl.length)) cap (l ++ headB cl.length mk pd ex ty nu ti so ++ conB cl) ∧ w.grownBy w' (some g) := by
  have hne : w.heap.size ≠ g := by have := hB.lt; omega
  have hbg : base ≤ g := hB.at.2.1
  have hBw : base ≤ w.heap.size := by have := hB.lt; omega
  obtain ⟨ao, cap2, rfl, hc⟩ := hv
  have Hc : Hid (∀ j, j < cl.length → ∃ b off, ao = some ⟨b, off, none⟩ ∧ b < base ∧ w.cell? ⟨b, off + j, none⟩ = some (.int .i64 (cl.getD j 0))) := hc
  have Hi : Hid (allIn cl 4294967295 = true) := hci
  have HB : Hid (Buf w base g n cap l) := hB
  clear hc hci
  have e1 := or_n cl.length hcl
  have e2 := or_32 cl.length hcl
  have e3 := or_16 cl.length hcl
  have e4 := or_48 cl.length hcl
  have e5 := or_128 ty hty
  clear hB
  have hcase : (pd = true ∧ 0 < pa) ∨ (pd = false ∧ pa = 0) := by
    cases pd
    · exact .inr ⟨rfl, by have := of_decide_eq_false hpd0.symm; omega⟩
    · exact .inl ⟨rfl, of_decide_eq_true hpd0.symm⟩
  clear hpd0
  rcases Bool.eq_false_or_eq_true ex with hex | hex <;> rcases Bool.eq_false_or_eq_true mk with hmk | hmk <;> rcases hcase with ⟨hpd, hpa⟩ | ⟨hpd, hpa⟩
  all_goals
    go_enter Try.func71, Try.ntmps71
    go_wp2_with (at_builtin; refine wl_bytes rfl (.tmp 28) (.tmp 33) rfl rfl (HB.out.alloc _ |>.alloc _) _ 2 2 [hdB cl.length pd ex, tyB ty mk] rfl rfl (new_two _ _ (by simp) _ _ _ _ _ ?_ ?_) (by omega) ?_; exact hd_val (pad := pd) (ex := ex) hcl (by simp [hpd, hex] <;> omega); exact ty_val (mk := mk) hty (by simp [hmk]); intro w1 hB1 hg1; have hc1 := box_kept (g := g) (grown_trans (World.grownBy_alloc _ _ _) hg1) w.heap.size (by simp) hne; clear e1 e2 e3 e4 e5)
    have hs1 : w.heap.size < w1.heap.size := by have := hg1.size; simp at this; omega
    refine (addNumber_any base g (n + 2) cap _ nu 2 _ (by omega) (by omega) (by omega) hB1).mono ?_
    rintro e w2 ⟨rfl, hB2, hg2⟩
    have hs2 : w.heap.size < w2.heap.size := Nat.lt_of_lt_of_le hs1 hg2.size
    have hc2 := box_kept hg2 w.heap.size hs1 hne
    go_wp2_with fail
    refine (addNumber_any base g (n + 2 + 2) cap _ ti 4 _ (by omega) (by omega) (by omega) hB2).mono ?_
    rintro e w3 ⟨rfl, hB3, hg3⟩
    have hs3 : w.heap.size < w3.heap.size := Nat.lt_of_lt_of_le hs2 hg3.size
    have hc3 := box_kept hg3 w.heap.size hs2 hne
    go_wp2_with fail
    refine (addNumber_any base g (n + 2 + 2 + 4) cap _ so 4 _ (by omega) (by omega) (by omega) hB3).mono ?_
    rintro e w4 ⟨rfl, hB4, hg4⟩
    have hc4 := box_kept hg4 w.heap.size hs3 hne
    have hg : w.grownBy w4 (some g) := grown_trans (World.grownBy_alloc _ _ _) (grown_trans (World.grownBy_alloc _ _ _) (grown_trans hg1 (grown_trans hg2 (grown_trans hg3 hg4))))
    have HB4 : Hid (Buf w4 base g (n + 12 + 4 * 0) cap (l ++ headB cl.length mk pd ex ty nu ti so ++ conB (cl.take 0))) := by
      have h := hB4
      simp only [Nat.add_assoc, List.append_assoc] at h
      simpa [Hid, headB, conB, Nat.add_assoc, List.append_assoc] using h
    go_wp2
    clear hc1 hc2 hc3 hc4 hg1 hg2 hg3 hg4 hB1 hB2 hB3 hB4 hs1 hs2 hs3
    go_loopw [0, 50] (fun v i wr => ∃ j : Nat, j ≤ cl.length ∧ i = .int .i64 j ∧ v = .slice (some ⟨g, 0, none⟩) (n + 12 + 4 * j) cap ∧ Buf wr base g (n + 12 + 4 * j) cap (l ++ headB cl.length mk pd ex ty nu ti so ++ conB (cl.take j)) ∧ w.grownBy wr (some g)) (fun _ i _ => cl.length - (intOf i).toNat)
    case atStart => exact ⟨0, Nat.zero_le _, rfl, rfl, HB4.out, hg⟩
    case round =>
      obtain ⟨j, hj, rfl, rfl, hBr, hgr⟩ := hrel
      by_cases hlt : j < cl.length
      · obtain ⟨b, off, rfl, hb, hcell⟩ := Hc.out j hlt
        have hcr : wr.cell? ⟨b, off + j, none⟩ = some (.int .i64 (cl.getD j 0)) := (box_kept hgr b (by omega) (by omega) (off + j)).trans hcell
        clear hcell
        have Hq := allIn_at cl j _ hlt Hi.out
        have Ht : Hid (conB (cl.take (j + 1)) = conB (cl.take j) ++ told (cl.getD j 0).toNat 4) := conB_take cl j hlt
        generalize cl.getD j 0 = q at *
        go_wp2_with fail
        refine (addNumber_int base g (n + 12 + 4 * j) cap _ q 4 _ (by omega) (by omega) (by omega) (by omega) hBr).mono ?_
        rintro e w5 ⟨rfl, hB5, hg5⟩
        go_wp2
        go_roundw
        case rel => exact ⟨j + 1, by omega, by go_num, rfl, by rw [Ht.out, ← List.append_assoc]; exact hB5, grown_trans hgr hg5⟩
        case measure => simp [intOf]; omega
      · have e : j = cl.length := by omega
        subst e
        go_wp2
        go_ret
        rw [List.take_length] at hBr
        exact ⟨ret_slice (by omega), by rw [← Nat.add_assoc]; exact hBr, hgr⟩

end Go.Proofs.Ytdjhhnolcafkiaa
