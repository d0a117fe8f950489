/- The document's answer: TellPacket, without an extension. -/
import Derived.Test.YtdjhhnolcafkiaaRefTellH
namespace Go.Proofs.Ytdjhhnolcafkiaa
open Go.RowKit Pk

set_option maxRecDepth 100000 in
set_option maxHeartbeats 4000000 in
theorem refTell_none (mk : Bool) (ty nu ti so pr pa : Int) (cv : Value) (cl : List Int) (en py : ByteArray) (w : World) (B : Nat) (hBw : B ≤ w.heap.size) (hv : IsInts B w cv cl)
    (hen : en.size ≤ 140737488355328) (hpy : py.size ≤ 140737488355328) (hok : firstOk false ty nu ti so pr pa cl.length en) :
    Calls Try.prog 36 #[.agg #[.bool mk, .int .i64 ty, .int .i64 nu, .int .i64 ti, .int .i64 so, cv, .bool false, .int .i64 pr, .string en, .string py, .int .i64 pa]] w
      fun e w' => e = .returned (.tuple #[.string (tellR mk false ty nu ti so pr pa cl en py).1, .int .i64 (tellR mk false ty nu ti so pr pa cl en py).2]) ∧ Below w.heap.size w w' := by
  have Hok : Hid (firstOk false ty nu ti so pr pa cl.length en) := hok
  obtain ⟨h1, h2, h3, h4, h5, h6, h7, h8, h9⟩ := hok
  have d1 : Hid (decide (0 ≤ ty ∧ ty ≤ 127) = true) := decide_eq_true h1
  have d2 : Hid (decide (0 ≤ nu ∧ nu ≤ 65535) = true) := decide_eq_true h2
  have d3 : Hid (decide (0 ≤ ti ∧ ti ≤ 4294967295) = true) := decide_eq_true h3
  have d4 : Hid (decide (0 ≤ so ∧ so ≤ 4294967295) = true) := decide_eq_true h4
  have d5 : Hid (decide (0 ≤ pr ∧ pr ≤ 65535) = true) := decide_eq_true h5
  have d6 : Hid (decide (0 ≤ pa ∧ pa ≤ 255) = true) := decide_eq_true h6
  have e7 : (cl.length : Int) ≤ 15 := by omega
  have e8 : ((en.size : Int) % 4 != 0) = false := by rw [bne_eq_false_iff_eq]; omega
  have H9 : Hid (false = false → pr = 0 ∧ en.size = 0) := h9
  obtain ⟨ao, cap, rfl, hc⟩ := hv
  have Hc : Hid (∀ j, j < cl.length → ∃ b off, ao = some ⟨b, off, none⟩ ∧ b < B ∧ w.cell? ⟨b, off + j, none⟩ = some (.int .i64 (cl.getD j 0))) := hc
  clear hc h9
  obtain ⟨a1, a2⟩ := H9.out rfl
  have hg1 : (pr != 0) = false := by simp [a1]
  have hg2 : (!en.toList.isEmpty) = false := by rw [isEmpty_size, a2]; rfl
  clear a1 a2
  go_enter Try.func36, Try.ntmps36
  go_wp2_with fail
  refine (refIn_any _ _ _).mono ?_; rintro e w' ⟨rfl, rfl⟩; rw [d1.out]
  go_wp2_with fail
  refine (refIn_any _ _ _).mono ?_; rintro e w' ⟨rfl, rfl⟩; rw [d2.out]
  go_wp2_with fail
  refine (refIn_any _ _ _).mono ?_; rintro e w' ⟨rfl, rfl⟩; rw [d3.out]
  go_wp2_with fail
  refine (refIn_any _ _ _).mono ?_; rintro e w' ⟨rfl, rfl⟩; rw [d4.out]
  go_wp2_with fail
  refine (refIn_any _ _ _).mono ?_; rintro e w' ⟨rfl, rfl⟩; rw [d5.out]
  go_wp2_with fail
  refine (refIn_any _ _ _).mono ?_; rintro e w' ⟨rfl, rfl⟩; rw [d6.out]
  go_wp2
  go_loopw [10, 11] (fun v i wr => ∃ (k : Nat) (t : ByteArray), k ≤ cl.length ∧ i = .int .i64 k ∧ v = .string t ∧ t.data.toList = conB (cl.take k) ∧ allIn (cl.take k) 4294967295 = true ∧ Below (w.heap.size + 1) (w.alloc (.cells #[.bool mk, .int .i64 ty, .int .i64 nu, .int .i64 ti, .int .i64 so, .slice ao cl.length cap, .bool false, .int .i64 pr, .string en, .string py, .int .i64 pa] 33)) wr) (fun _ i _ => cl.length - (intOf i).toNat)
  case atStart => exact ⟨0, ⟨#[]⟩, Nat.zero_le _, rfl, rfl, rfl, rfl, Below.refl _ _⟩
  case round =>
    obtain ⟨k, t, hk, rfl, rfl, ht, hin, hbx⟩ := hrel
    have Ht : Hid (t.data.toList = conB (cl.take k)) := ht
    have Hin : Hid (allIn (cl.take k) 4294967295 = true) := hin
    have hts : t.size ≤ 60 := by rw [Lib.size_eq, ht, conB_length, List.length_take]; omega
    have hcb := box_below hbx w.heap.size (by omega)
    have Hbx : Hid (Below (w.heap.size + 1) (w.alloc (.cells #[.bool mk, .int .i64 ty, .int .i64 nu, .int .i64 ti, .int .i64 so, .slice ao cl.length cap, .bool false, .int .i64 pr, .string en, .string py, .int .i64 pa] 33)) wr) := hbx
    have hbs : w.heap.size < wr.heap.size := by have := hbx.size; simp at this; omega
    clear ht hin hbx
    by_cases hlt : k < cl.length
    · obtain ⟨b, off, rfl, hbb, hcell⟩ := Hc.out k hlt
      have hcr : wr.cell? ⟨b, off + k, none⟩ = some (.int .i64 (cl.getD k 0)) := (Hbx.out.cell (p := ⟨b, off + k, none⟩) (by show b < _; omega)).trans ((World.cell?_alloc_lt _ _ _ (by show b < _; omega)).trans hcell)
      have Hs : Hid (allIn (cl.take (k + 1)) 4294967295 = decide (0 ≤ cl.getD k 0 ∧ cl.getD k 0 ≤ 4294967295)) := by
        show _ = _
        rw [allIn_take_succ cl k _ hlt, Hin.out, Bool.true_and]
      have Hct : Hid (conB (cl.take (k + 1)) = conB (cl.take k) ++ told (cl.getD k 0).toNat 4) := conB_take cl k hlt
      have hlt' : (k : Int) < cl.length := by omega
      clear hcell
      generalize cl.getD k 0 = q at *
      go_wp2_with fail
      refine (refIn_any _ _ _).mono ?_
      rintro e w' ⟨rfl, rfl⟩
      by_cases hq : 0 ≤ q ∧ q ≤ 4294967295
      · rw [decide_eq_true hq]
        go_wp2_with fail
        refine (refTold_int 4 q _ (by omega) (by omega) (by omega)).mono ?_
        rintro e w2 ⟨⟨t2, rfl, ht2, hs2⟩, hb2⟩
        have Ht2 : Hid (t2.data.toList = told q.toNat 4) := ht2
        have hcat : ¬ 9223372036854775807 < t.size + t2.size := by omega
        have Hb2 : Hid (Below w'.heap.size w' w2) := hb2
        clear ht2 hb2 hs2
        go_wp2
        go_roundw
        case rel => exact ⟨k + 1, t ++ t2, by omega, by go_num, rfl, by rw [append_list, Ht.out, Ht2.out, Hct.out], by rw [Hs.out]; exact decide_eq_true hq, Hbx.out.trans (Hb2.out.mono (by omega))⟩
        case measure => simp [intOf]; omega
      · rw [decide_eq_false hq]
        have HR : Hid (tellR mk false ty nu ti so pr pa cl en py = (⟨#[]⟩, 2)) := tellR_no (by
          cases e : tellOk false ty nu ti so pr pa cl en with
          | false => rfl
          | true =>
            simp only [tellOk, headOk, Bool.and_eq_true] at e
            have h := allIn_false cl (k + 1) 4294967295 (by rw [Hs.out]; exact decide_eq_false hq)
            rw [e.1.1.2] at h; cases h)
        go_wp2
        go_ret2
        refine ⟨by rw [HR.out]; rfl, ?_⟩
        exact ((Below.refl _ _).alloc (Nat.le_refl _) _).trans (Hbx.out.mono (by omega))
    · have hall : Hid (allIn cl 4294967295 = true) := by
        have h := Hin.out
        rw [List.take_of_length_le (by omega)] at h
        exact h
      have htl : Hid (t.data.toList = conB cl) := by
        have h := Ht.out
        rw [List.take_of_length_le (by omega)] at h
        exact h
      have hlt' : ¬ (k : Int) < cl.length := by omega
      have bswr : w.heap.size < wr.heap.size := hbs
      have Blwr : Hid (Below (w.heap.size + 1) (w.alloc (.cells #[.bool mk, .int .i64 ty, .int .i64 nu, .int .i64 ti, .int .i64 so, .slice ao cl.length cap, .bool false, .int .i64 pr, .string en, .string py, .int .i64 pa] 33)) wr) := Hbx
      have catw : ¬ 9223372036854775807 < t.size + py.size := by omega
      cases mk
      · by_cases hp0 : 0 < pa
        · have hnp : 0 < pa := hp0
          have Hnp : Hid (0 < pa) := hp0
          go_wp2
          have hcb : ∀ o, wr.cell? ⟨w.heap.size, o, none⟩ = (w.alloc (.cells #[.bool false, .int .i64 ty, .int .i64 nu, .int .i64 ti, .int .i64 so, .slice ao cl.length cap, .bool false, .int .i64 pr, .string en, .string py, .int .i64 pa] 33)).cell? ⟨w.heap.size, o, none⟩ := fun o => Blwr.out.cell (p := ⟨w.heap.size, o, none⟩) (Nat.lt_succ_self _)
          have Bdwr : Hid (Below (w.heap.size + 1) (w.alloc (.cells #[.bool false, .int .i64 ty, .int .i64 nu, .int .i64 ti, .int .i64 so, .slice ao cl.length cap, .bool false, .int .i64 pr, .string en, .string py, .int .i64 pa] 33)) wr.drew) := Blwr.out.drew
          have bdwr : w.heap.size < wr.drew.heap.size := bswr
          have hwp : IntKind.i64.wrap (pa - 1) = pa - 1 := wrapI64 _ (by omega) (by omega)
          refine wp_region_noPanic ?_
          refine wp_region_held_drew (S := fun W => ∀ o, W.cell? ⟨w.heap.size, o, none⟩ = (w.alloc (.cells #[.bool false, .int .i64 ty, .int .i64 nu, .int .i64 ti, .int .i64 so, .slice ao cl.length cap, .bool false, .int .i64 pr, .string en, .string py, .int .i64 pa] 33)).cell? ⟨w.heap.size, o, none⟩) (by kernel_rfl) hcb (fun hHeld => ?_)
          refine wpAnyH_take (i := 0) (v := ?v3092) rfl (by kernel_rfl) (by kernel_rfl) (by kernel_rfl) (fun _ _ _ h => h) (Or.inl ⟨by rfl, ?y3092⟩) hHeld ?r3092
          case y3092 => ((intro W hSw; go_simp) <;> with_reducible rfl)
          try simp only [Act.put]
          try simp only [List.getElem_toArray]
          try simp only [List.getElem_cons_succ]
          try simp only [List.getElem_cons_zero]
          try simp only [List.setIfInBounds_toArray]
          try simp only [List.set_cons_succ]
          try simp only [List.set_cons_zero]
          refine wpAnyH_take (i := 1) (v := ?v3093) rfl (by kernel_rfl) (by kernel_rfl) (by kernel_rfl) (fun _ _ _ h => h) (Or.inl ⟨by rfl, ?y3093⟩) hHeld ?r3093
          case y3093 => ((intro W hSw; go_simp) <;> with_reducible rfl)
          try simp only [Act.put]
          try simp only [List.getElem_toArray]
          try simp only [List.getElem_cons_succ]
          try simp only [List.getElem_cons_zero]
          try simp only [List.setIfInBounds_toArray]
          try simp only [List.set_cons_succ]
          try simp only [List.set_cons_zero]
          refine wpAnyH_take (i := 2) (v := ?v3094) rfl (by kernel_rfl) (by kernel_rfl) (by kernel_rfl) (fun _ _ _ h => h) (Or.inl ⟨by rfl, ?y3094⟩) hHeld ?r3094
          case y3094 => ((intro W hSw; go_simp) <;> with_reducible rfl)
          try simp only [Act.put]
          try simp only [List.getElem_toArray]
          try simp only [List.getElem_cons_succ]
          try simp only [List.getElem_cons_zero]
          try simp only [List.setIfInBounds_toArray]
          try simp only [List.set_cons_succ]
          try simp only [List.set_cons_zero]
          refine wpAnyH_take (i := 3) (v := ?v3095) rfl (by kernel_rfl) (by kernel_rfl) (by kernel_rfl) (fun _ _ _ h => h) (Or.inl ⟨by rfl, ?y3095⟩) hHeld ?r3095
          case y3095 => ((intro W hSw; go_simp) <;> with_reducible rfl)
          try simp only [Act.put]
          try simp only [List.getElem_toArray]
          try simp only [List.getElem_cons_succ]
          try simp only [List.getElem_cons_zero]
          try simp only [List.setIfInBounds_toArray]
          try simp only [List.set_cons_succ]
          try simp only [List.set_cons_zero]
          refine wpAnyH_take (i := 6) (v := ?v3096) rfl (by kernel_rfl) (by kernel_rfl) (by kernel_rfl) (fun _ _ _ h => h) (Or.inl ⟨by rfl, ?y3096⟩) hHeld ?r3096
          case y3096 => ((intro W hSw; go_simp) <;> with_reducible rfl)
          try simp only [Act.put]
          try simp only [List.getElem_toArray]
          try simp only [List.getElem_cons_succ]
          try simp only [List.getElem_cons_zero]
          try simp only [List.setIfInBounds_toArray]
          try simp only [List.set_cons_succ]
          try simp only [List.set_cons_zero]
          refine wpAnyH_take (i := 7) (v := ?v3097) rfl (by kernel_rfl) (by kernel_rfl) (by kernel_rfl) (fun _ _ _ h => h) (Or.inl ⟨by rfl, ?y3097⟩) hHeld ?r3097
          case y3097 => ((intro W hSw; go_simp) <;> with_reducible rfl)
          try simp only [Act.put]
          try simp only [List.getElem_toArray]
          try simp only [List.getElem_cons_succ]
          try simp only [List.getElem_cons_zero]
          try simp only [List.setIfInBounds_toArray]
          try simp only [List.set_cons_succ]
          try simp only [List.set_cons_zero]
          refine wpAnyH_ready (rs := [4]) (by kernel_rfl) (by simp) ?_
          refine AllReadyH.cons rfl (fun K hK => ?_) AllReadyH.nil
          go_simp
          refine (refNoughts_int (pa - 1) _ (by omega) (by omega)).mono ?_
          rintro e wz ⟨⟨tz, rfl, htz, stz⟩, rfl⟩
          have Htz : Hid (tz.data.toList = List.replicate (pa - 1).toNat 0) := htz
          have catz0 : ¬ 9223372036854775807 < t.size + py.size + tz.size := by omega
          go_wp2_with fail
          refine hK.out _ _ (fun o => hHeld o) (fun hHeld => ?_)
          clear hK K htz
          refine wpAnyH_take (i := 5) (v := ?v3098) rfl (by kernel_rfl) (by kernel_rfl) (by kernel_rfl) (fun _ _ _ h => h) (Or.inl ⟨by rfl, ?y3098⟩) hHeld ?r3098
          case y3098 => ((intro W hSw; go_simp) <;> with_reducible rfl)
          try simp only [Act.put]
          try simp only [List.getElem_toArray]
          try simp only [List.getElem_cons_succ]
          try simp only [List.getElem_cons_zero]
          try simp only [List.setIfInBounds_toArray]
          try simp only [List.set_cons_succ]
          try simp only [List.set_cons_zero]
          refine wpAnyH_ready (rs := [8]) (by kernel_rfl) (by simp) ?_
          refine AllReadyH.cons rfl (fun K hK => ?_) AllReadyH.nil
          go_simp
          refine (refTold_int 1 pa _ (by omega) (by omega) (by omega)).mono ?_
          rintro e wp ⟨⟨tp, rfl, htp, stp⟩, hbtp⟩
          have Htp : Hid (tp.data.toList = told (pa : Int).toNat 1) := htp
          have ztp : tp.size ≤ 1 := by omega
          have bswp : w.heap.size < wp.heap.size := Nat.lt_of_lt_of_le bswr hbtp.size
          have Blwp : Hid (Below (w.heap.size + 1) (w.alloc (.cells #[.bool false, .int .i64 ty, .int .i64 nu, .int .i64 ti, .int .i64 so, .slice ao cl.length cap, .bool false, .int .i64 pr, .string en, .string py, .int .i64 pa] 33)) wp) := Bdwr.out.trans (hbtp.mono (Nat.succ_le_of_lt bswr))
          have catp0 : ¬ 9223372036854775807 < t.size + py.size + tz.size + tp.size := by omega
          go_wp2_with fail
          refine hK.out _ _ (fun o => (hbtp.cell (p := ⟨w.heap.size, o, none⟩) bswr).trans (hHeld o)) (fun hHeld => ?_)
          clear hK K htp stp hbtp
          refine wpAnyH_take (i := 9) (v := ?v3099) rfl (by kernel_rfl) (by kernel_rfl) (by kernel_rfl) (fun _ _ _ h => h) (Or.inl ⟨by rfl, ?y3099⟩) hHeld ?r3099
          case y3099 => ((intro W hSw; go_simp) <;> with_reducible rfl)
          try simp only [Act.put]
          try simp only [List.getElem_toArray]
          try simp only [List.getElem_cons_succ]
          try simp only [List.getElem_cons_zero]
          try simp only [List.setIfInBounds_toArray]
          try simp only [List.set_cons_succ]
          try simp only [List.set_cons_zero]
          refine wpAnyH_take (i := 10) (v := ?v3100) rfl (by kernel_rfl) (by kernel_rfl) (by kernel_rfl) (fun _ _ _ h => h) (Or.inl ⟨by rfl, ?y3100⟩) hHeld ?r3100
          case y3100 => ((intro W hSw; go_simp) <;> with_reducible rfl)
          try simp only [Act.put]
          try simp only [List.getElem_toArray]
          try simp only [List.getElem_cons_succ]
          try simp only [List.getElem_cons_zero]
          try simp only [List.setIfInBounds_toArray]
          try simp only [List.set_cons_succ]
          try simp only [List.set_cons_zero]
          refine wpAnyH_done (by kernel_rfl) ?_ _
          refine NoPanic.normal ?_
          clear hcb
          go_wp2
          have hcb : ∀ o, wp.cell? ⟨w.heap.size, o, none⟩ = (w.alloc (.cells #[.bool false, .int .i64 ty, .int .i64 nu, .int .i64 ti, .int .i64 so, .slice ao cl.length cap, .bool false, .int .i64 pr, .string en, .string py, .int .i64 pa] 33)).cell? ⟨w.heap.size, o, none⟩ := fun o => Blwp.out.cell (p := ⟨w.heap.size, o, none⟩) (Nat.lt_succ_self _)
          have Bdwp : Hid (Below (w.heap.size + 1) (w.alloc (.cells #[.bool false, .int .i64 ty, .int .i64 nu, .int .i64 ti, .int .i64 so, .slice ao cl.length cap, .bool false, .int .i64 pr, .string en, .string py, .int .i64 pa] 33)) wp.drew) := Blwp.out.drew
          have bdwp : w.heap.size < wp.drew.heap.size := bswp
          refine wp_region_noPanic ?_
          refine wp_region_held_drew (S := fun W => ∀ o, W.cell? ⟨w.heap.size, o, none⟩ = (w.alloc (.cells #[.bool false, .int .i64 ty, .int .i64 nu, .int .i64 ti, .int .i64 so, .slice ao cl.length cap, .bool false, .int .i64 pr, .string en, .string py, .int .i64 pa] 33)).cell? ⟨w.heap.size, o, none⟩) (by kernel_rfl) hcb (fun hHeld => ?_)
          refine wpAnyH_take (i := 0) (v := ?v3101) rfl (by kernel_rfl) (by kernel_rfl) (by kernel_rfl) (fun _ _ _ h => h) (Or.inl ⟨by rfl, ?y3101⟩) hHeld ?r3101
          case y3101 => ((intro W hSw; go_simp) <;> with_reducible rfl)
          try simp only [Act.put]
          try simp only [List.getElem_toArray]
          try simp only [List.getElem_cons_succ]
          try simp only [List.getElem_cons_zero]
          try simp only [List.setIfInBounds_toArray]
          try simp only [List.set_cons_succ]
          try simp only [List.set_cons_zero]
          refine wpAnyH_take (i := 2) (v := ?v3102) rfl (by kernel_rfl) (by kernel_rfl) (by kernel_rfl) (fun _ _ _ h => h) (Or.inl ⟨by rfl, ?y3102⟩) hHeld ?r3102
          case y3102 => ((intro W hSw; go_simp) <;> with_reducible rfl)
          try simp only [Act.put]
          try simp only [List.getElem_toArray]
          try simp only [List.getElem_cons_succ]
          try simp only [List.getElem_cons_zero]
          try simp only [List.setIfInBounds_toArray]
          try simp only [List.set_cons_succ]
          try simp only [List.set_cons_zero]
          refine wpAnyH_take (i := 5) (v := ?v3103) rfl (by kernel_rfl) (by kernel_rfl) (by kernel_rfl) (fun _ _ _ h => h) (Or.inl ⟨by rfl, ?y3103⟩) hHeld ?r3103
          case y3103 => ((intro W hSw; go_simp) <;> with_reducible rfl)
          try simp only [Act.put]
          try simp only [List.getElem_toArray]
          try simp only [List.getElem_cons_succ]
          try simp only [List.getElem_cons_zero]
          try simp only [List.setIfInBounds_toArray]
          try simp only [List.set_cons_succ]
          try simp only [List.set_cons_zero]
          refine wpAnyH_take (i := 6) (v := ?v3104) rfl (by kernel_rfl) (by kernel_rfl) (by kernel_rfl) (fun _ _ _ h => h) (Or.inl ⟨by rfl, ?y3104⟩) hHeld ?r3104
          case y3104 => ((intro W hSw; go_simp) <;> with_reducible rfl)
          try simp only [Act.put]
          try simp only [List.getElem_toArray]
          try simp only [List.getElem_cons_succ]
          try simp only [List.getElem_cons_zero]
          try simp only [List.setIfInBounds_toArray]
          try simp only [List.set_cons_succ]
          try simp only [List.set_cons_zero]
          refine wpAnyH_take (i := 9) (v := ?v3105) rfl (by kernel_rfl) (by kernel_rfl) (by kernel_rfl) (fun _ _ _ h => h) (Or.inl ⟨by rfl, ?y3105⟩) hHeld ?r3105
          case y3105 => ((intro W hSw; go_simp) <;> with_reducible rfl)
          try simp only [Act.put]
          try simp only [List.getElem_toArray]
          try simp only [List.getElem_cons_succ]
          try simp only [List.getElem_cons_zero]
          try simp only [List.setIfInBounds_toArray]
          try simp only [List.set_cons_succ]
          try simp only [List.set_cons_zero]
          refine wpAnyH_take (i := 10) (v := ?v3106) rfl (by kernel_rfl) (by kernel_rfl) (by kernel_rfl) (fun _ _ _ h => h) (Or.inl ⟨by rfl, ?y3106⟩) hHeld ?r3106
          case y3106 => ((intro W hSw; go_simp) <;> with_reducible rfl)
          try simp only [Act.put]
          try simp only [List.getElem_toArray]
          try simp only [List.getElem_cons_succ]
          try simp only [List.getElem_cons_zero]
          try simp only [List.setIfInBounds_toArray]
          try simp only [List.set_cons_succ]
          try simp only [List.set_cons_zero]
          refine wpAnyH_take (i := 13) (v := ?v3107) rfl (by kernel_rfl) (by kernel_rfl) (by kernel_rfl) (fun _ _ _ h => h) (Or.inl ⟨by rfl, ?y3107⟩) hHeld ?r3107
          case y3107 => ((intro W hSw; go_simp) <;> with_reducible rfl)
          try simp only [Act.put]
          try simp only [List.getElem_toArray]
          try simp only [List.getElem_cons_succ]
          try simp only [List.getElem_cons_zero]
          try simp only [List.setIfInBounds_toArray]
          try simp only [List.set_cons_succ]
          try simp only [List.set_cons_zero]
          refine wpAnyH_take (i := 14) (v := ?v3108) rfl (by kernel_rfl) (by kernel_rfl) (by kernel_rfl) (fun _ _ _ h => h) (Or.inl ⟨by rfl, ?y3108⟩) hHeld ?r3108
          case y3108 => ((intro W hSw; go_simp) <;> with_reducible rfl)
          try simp only [Act.put]
          try simp only [List.getElem_toArray]
          try simp only [List.getElem_cons_succ]
          try simp only [List.getElem_cons_zero]
          try simp only [List.setIfInBounds_toArray]
          try simp only [List.set_cons_succ]
          try simp only [List.set_cons_zero]
          refine wpAnyH_take (i := 17) (v := ?v3109) rfl (by kernel_rfl) (by kernel_rfl) (by kernel_rfl) (fun _ _ _ h => h) (Or.inl ⟨by rfl, ?y3109⟩) hHeld ?r3109
          case y3109 => ((intro W hSw; go_simp) <;> with_reducible rfl)
          try simp only [Act.put]
          try simp only [List.getElem_toArray]
          try simp only [List.getElem_cons_succ]
          try simp only [List.getElem_cons_zero]
          try simp only [List.setIfInBounds_toArray]
          try simp only [List.set_cons_succ]
          try simp only [List.set_cons_zero]
          refine wpAnyH_ready (rs := [1]) (by kernel_rfl) (by simp) ?_
          refine AllReadyH.cons rfl (fun K hK => ?_) AllReadyH.nil
          go_simp
          refine (refTold_int 1 (128 + (cl.length : Int) + 32) _ (by omega) (by omega) (by omega)).mono ?_
          rintro e wd ⟨⟨td, rfl, htd, std⟩, hbtd⟩
          have Htd : Hid (td.data.toList = told ((128 + (cl.length : Int) + 32) : Int).toNat 1) := htd
          have ztd : td.size ≤ 1 := by omega
          have bswd : w.heap.size < wd.heap.size := Nat.lt_of_lt_of_le bswp hbtd.size
          have Blwd : Hid (Below (w.heap.size + 1) (w.alloc (.cells #[.bool false, .int .i64 ty, .int .i64 nu, .int .i64 ti, .int .i64 so, .slice ao cl.length cap, .bool false, .int .i64 pr, .string en, .string py, .int .i64 pa] 33)) wd) := Bdwp.out.trans (hbtd.mono (Nat.succ_le_of_lt bswp))

          go_wp2_with fail
          refine hK.out _ _ (fun o => (hbtd.cell (p := ⟨w.heap.size, o, none⟩) bswp).trans (hHeld o)) (fun hHeld => ?_)
          clear hK K htd std hbtd
          refine wpAnyH_ready (rs := [3]) (by kernel_rfl) (by simp) ?_
          refine AllReadyH.cons rfl (fun K hK => ?_) AllReadyH.nil
          go_simp
          refine (refTold_int 1 ty _ (by omega) (by omega) (by omega)).mono ?_
          rintro e we ⟨⟨te, rfl, hte, ste⟩, hbte⟩
          have Hte : Hid (te.data.toList = told (ty : Int).toNat 1) := hte
          have zte : te.size ≤ 1 := by omega
          have bswe : w.heap.size < we.heap.size := Nat.lt_of_lt_of_le bswd hbte.size
          have Blwe : Hid (Below (w.heap.size + 1) (w.alloc (.cells #[.bool false, .int .i64 ty, .int .i64 nu, .int .i64 ti, .int .i64 so, .slice ao cl.length cap, .bool false, .int .i64 pr, .string en, .string py, .int .i64 pa] 33)) we) := Blwd.out.trans (hbte.mono (Nat.succ_le_of_lt bswd))
          have cate0 : ¬ 9223372036854775807 < td.size + te.size := by omega
          go_wp2_with fail
          refine hK.out _ _ (fun o => (hbte.cell (p := ⟨w.heap.size, o, none⟩) bswd).trans (hHeld o)) (fun hHeld => ?_)
          clear hK K hte ste hbte
          refine wpAnyH_take (i := 4) (v := ?v3110) rfl (by kernel_rfl) (by kernel_rfl) (by kernel_rfl) (fun _ _ _ h => h) (Or.inl ⟨by rfl, ?y3110⟩) hHeld ?r3110
          case y3110 => ((intro W hSw; go_simp) <;> with_reducible rfl)
          try simp only [Act.put]
          try simp only [List.getElem_toArray]
          try simp only [List.getElem_cons_succ]
          try simp only [List.getElem_cons_zero]
          try simp only [List.setIfInBounds_toArray]
          try simp only [List.set_cons_succ]
          try simp only [List.set_cons_zero]
          refine wpAnyH_ready (rs := [7]) (by kernel_rfl) (by simp) ?_
          refine AllReadyH.cons rfl (fun K hK => ?_) AllReadyH.nil
          go_simp
          refine (refTold_int 2 nu _ (by omega) (by omega) (by omega)).mono ?_
          rintro e wf ⟨⟨tf, rfl, htf, stf⟩, hbtf⟩
          have Htf : Hid (tf.data.toList = told (nu : Int).toNat 2) := htf
          have ztf : tf.size ≤ 2 := by omega
          have bswf : w.heap.size < wf.heap.size := Nat.lt_of_lt_of_le bswe hbtf.size
          have Blwf : Hid (Below (w.heap.size + 1) (w.alloc (.cells #[.bool false, .int .i64 ty, .int .i64 nu, .int .i64 ti, .int .i64 so, .slice ao cl.length cap, .bool false, .int .i64 pr, .string en, .string py, .int .i64 pa] 33)) wf) := Blwe.out.trans (hbtf.mono (Nat.succ_le_of_lt bswe))
          have catf0 : ¬ 9223372036854775807 < td.size + te.size + tf.size := by omega
          go_wp2_with fail
          refine hK.out _ _ (fun o => (hbtf.cell (p := ⟨w.heap.size, o, none⟩) bswe).trans (hHeld o)) (fun hHeld => ?_)
          clear hK K htf stf hbtf
          refine wpAnyH_take (i := 8) (v := ?v3111) rfl (by kernel_rfl) (by kernel_rfl) (by kernel_rfl) (fun _ _ _ h => h) (Or.inl ⟨by rfl, ?y3111⟩) hHeld ?r3111
          case y3111 => ((intro W hSw; go_simp) <;> with_reducible rfl)
          try simp only [Act.put]
          try simp only [List.getElem_toArray]
          try simp only [List.getElem_cons_succ]
          try simp only [List.getElem_cons_zero]
          try simp only [List.setIfInBounds_toArray]
          try simp only [List.set_cons_succ]
          try simp only [List.set_cons_zero]
          refine wpAnyH_ready (rs := [11]) (by kernel_rfl) (by simp) ?_
          refine AllReadyH.cons rfl (fun K hK => ?_) AllReadyH.nil
          go_simp
          refine (refTold_int 4 ti _ (by omega) (by omega) (by omega)).mono ?_
          rintro e wg ⟨⟨tg, rfl, htg, stg⟩, hbtg⟩
          have Htg : Hid (tg.data.toList = told (ti : Int).toNat 4) := htg
          have ztg : tg.size ≤ 4 := by omega
          have bswg : w.heap.size < wg.heap.size := Nat.lt_of_lt_of_le bswf hbtg.size
          have Blwg : Hid (Below (w.heap.size + 1) (w.alloc (.cells #[.bool false, .int .i64 ty, .int .i64 nu, .int .i64 ti, .int .i64 so, .slice ao cl.length cap, .bool false, .int .i64 pr, .string en, .string py, .int .i64 pa] 33)) wg) := Blwf.out.trans (hbtg.mono (Nat.succ_le_of_lt bswf))
          have catg0 : ¬ 9223372036854775807 < td.size + te.size + tf.size + tg.size := by omega
          go_wp2_with fail
          refine hK.out _ _ (fun o => (hbtg.cell (p := ⟨w.heap.size, o, none⟩) bswf).trans (hHeld o)) (fun hHeld => ?_)
          clear hK K htg stg hbtg
          refine wpAnyH_take (i := 12) (v := ?v3112) rfl (by kernel_rfl) (by kernel_rfl) (by kernel_rfl) (fun _ _ _ h => h) (Or.inl ⟨by rfl, ?y3112⟩) hHeld ?r3112
          case y3112 => ((intro W hSw; go_simp) <;> with_reducible rfl)
          try simp only [Act.put]
          try simp only [List.getElem_toArray]
          try simp only [List.getElem_cons_succ]
          try simp only [List.getElem_cons_zero]
          try simp only [List.setIfInBounds_toArray]
          try simp only [List.set_cons_succ]
          try simp only [List.set_cons_zero]
          refine wpAnyH_ready (rs := [15]) (by kernel_rfl) (by simp) ?_
          refine AllReadyH.cons rfl (fun K hK => ?_) AllReadyH.nil
          go_simp
          refine (refTold_int 4 so _ (by omega) (by omega) (by omega)).mono ?_
          rintro e wh ⟨⟨th, rfl, hth, sth⟩, hbth⟩
          have Hth : Hid (th.data.toList = told (so : Int).toNat 4) := hth
          have zth : th.size ≤ 4 := by omega
          have bswh : w.heap.size < wh.heap.size := Nat.lt_of_lt_of_le bswg hbth.size
          have Blwh : Hid (Below (w.heap.size + 1) (w.alloc (.cells #[.bool false, .int .i64 ty, .int .i64 nu, .int .i64 ti, .int .i64 so, .slice ao cl.length cap, .bool false, .int .i64 pr, .string en, .string py, .int .i64 pa] 33)) wh) := Blwg.out.trans (hbth.mono (Nat.succ_le_of_lt bswg))
          have cath0 : ¬ 9223372036854775807 < td.size + te.size + tf.size + tg.size + th.size := by omega
          have cath1 : ¬ 9223372036854775807 < td.size + te.size + tf.size + tg.size + th.size + (t.size + py.size + tz.size + tp.size) := by omega
          go_wp2_with fail
          refine hK.out _ _ (fun o => (hbth.cell (p := ⟨w.heap.size, o, none⟩) bswg).trans (hHeld o)) (fun hHeld => ?_)
          clear hK K hth sth hbth
          refine wpAnyH_take (i := 16) (v := ?v3113) rfl (by kernel_rfl) (by kernel_rfl) (by kernel_rfl) (fun _ _ _ h => h) (Or.inl ⟨by rfl, ?y3113⟩) hHeld ?r3113
          case y3113 => ((intro W hSw; go_simp) <;> with_reducible rfl)
          try simp only [Act.put]
          try simp only [List.getElem_toArray]
          try simp only [List.getElem_cons_succ]
          try simp only [List.getElem_cons_zero]
          try simp only [List.setIfInBounds_toArray]
          try simp only [List.set_cons_succ]
          try simp only [List.set_cons_zero]
          refine wpAnyH_take (i := 18) (v := ?v3114) rfl (by kernel_rfl) (by kernel_rfl) (by kernel_rfl) (fun _ _ _ h => h) (Or.inl ⟨by rfl, ?y3114⟩) hHeld ?r3114
          case y3114 => ((intro W hSw; go_simp) <;> with_reducible rfl)
          try simp only [Act.put]
          try simp only [List.getElem_toArray]
          try simp only [List.getElem_cons_succ]
          try simp only [List.getElem_cons_zero]
          try simp only [List.setIfInBounds_toArray]
          try simp only [List.set_cons_succ]
          try simp only [List.set_cons_zero]
          refine wpAnyH_take (i := 19) (v := ?v3115) rfl (by kernel_rfl) (by kernel_rfl) (by kernel_rfl) (fun _ _ _ h => h) (Or.inl ⟨by rfl, ?y3115⟩) hHeld ?r3115
          case y3115 => ((intro W hSw; go_simp) <;> with_reducible rfl)
          try simp only [Act.put]
          try simp only [List.getElem_toArray]
          try simp only [List.getElem_cons_succ]
          try simp only [List.getElem_cons_zero]
          try simp only [List.setIfInBounds_toArray]
          try simp only [List.set_cons_succ]
          try simp only [List.set_cons_zero]
          refine wpAnyH_done (by kernel_rfl) ?_ _
          refine NoPanic.normal ?_
          clear hcb
          have Hd : Hid (tellR false false ty nu ti so pr pa cl en py = if 1500 < (td ++ te ++ tf ++ tg ++ th ++ (t ++ py ++ tz ++ tp)).size then (⟨#[]⟩, 1) else (td ++ te ++ tf ++ tg ++ th ++ (t ++ py ++ tz ++ tp), 0)) := by
            refine tell_done _ (tellOk_of Hok.out hall.out) ?_
            simp only [append_list, Htd.out, Hte.out, Htf.out, Htg.out, Hth.out, htl.out, Htz.out, Htp.out]
            have hn : 0 < pa := by have := Hnp.out; omega
            have h := tells (mk := false) (py := py) Hok.out (128 + (cl.length : Int) + 32) ty [] (List.replicate (pa - 1).toNat 0 ++ told pa.toNat 1) (by simp [hn]) (by simp) (by simp [extB]) (by unfold padB; rw [if_neg (by have := Hnp.out; omega), told_one _ (by omega), show (pa - 1).toNat = pa.toNat - 1 by omega])
            simpa only [List.append_assoc, List.append_nil, List.nil_append] using h
          have Bf : Hid (Below w.heap.size w wh) := ((Below.refl _ _).alloc (Nat.le_refl _) _).trans (Blwh.out.mono (by omega))
          by_cases hL : 1500 < td.size + te.size + tf.size + tg.size + th.size + (t.size + py.size + tz.size + tp.size)
          · have hL' : (1500 : Int) < td.size + te.size + tf.size + tg.size + th.size + (t.size + py.size + tz.size + tp.size) := by omega
            go_wp2
            go_ret2
            refine ⟨?_, Bf.out⟩
            rw [Hd.out, if_pos (by simpa [ByteArray.size_append] using hL)]
            rfl
          · have hL' : ¬ (1500 : Int) < td.size + te.size + tf.size + tg.size + th.size + (t.size + py.size + tz.size + tp.size) := by omega
            go_wp2
            go_ret2
            refine ⟨?_, Bf.out⟩
            rw [Hd.out, if_neg (by simpa [ByteArray.size_append] using hL)]
            rfl
        · have hnp : ¬ 0 < pa := hp0
          have Hnp : Hid (¬ 0 < pa) := hp0
          go_wp2
          have hcb : ∀ o, wr.cell? ⟨w.heap.size, o, none⟩ = (w.alloc (.cells #[.bool false, .int .i64 ty, .int .i64 nu, .int .i64 ti, .int .i64 so, .slice ao cl.length cap, .bool false, .int .i64 pr, .string en, .string py, .int .i64 pa] 33)).cell? ⟨w.heap.size, o, none⟩ := fun o => Blwr.out.cell (p := ⟨w.heap.size, o, none⟩) (Nat.lt_succ_self _)
          have Bdwr : Hid (Below (w.heap.size + 1) (w.alloc (.cells #[.bool false, .int .i64 ty, .int .i64 nu, .int .i64 ti, .int .i64 so, .slice ao cl.length cap, .bool false, .int .i64 pr, .string en, .string py, .int .i64 pa] 33)) wr.drew) := Blwr.out.drew
          have bdwr : w.heap.size < wr.drew.heap.size := bswr
          refine wp_region_noPanic ?_
          refine wp_region_held_drew (S := fun W => ∀ o, W.cell? ⟨w.heap.size, o, none⟩ = (w.alloc (.cells #[.bool false, .int .i64 ty, .int .i64 nu, .int .i64 ti, .int .i64 so, .slice ao cl.length cap, .bool false, .int .i64 pr, .string en, .string py, .int .i64 pa] 33)).cell? ⟨w.heap.size, o, none⟩) (by kernel_rfl) hcb (fun hHeld => ?_)
          refine wpAnyH_take (i := 0) (v := ?v3116) rfl (by kernel_rfl) (by kernel_rfl) (by kernel_rfl) (fun _ _ _ h => h) (Or.inl ⟨by rfl, ?y3116⟩) hHeld ?r3116
          case y3116 => ((intro W hSw; go_simp) <;> with_reducible rfl)
          try simp only [Act.put]
          try simp only [List.getElem_toArray]
          try simp only [List.getElem_cons_succ]
          try simp only [List.getElem_cons_zero]
          try simp only [List.setIfInBounds_toArray]
          try simp only [List.set_cons_succ]
          try simp only [List.set_cons_zero]
          refine wpAnyH_take (i := 2) (v := ?v3117) rfl (by kernel_rfl) (by kernel_rfl) (by kernel_rfl) (fun _ _ _ h => h) (Or.inl ⟨by rfl, ?y3117⟩) hHeld ?r3117
          case y3117 => ((intro W hSw; go_simp) <;> with_reducible rfl)
          try simp only [Act.put]
          try simp only [List.getElem_toArray]
          try simp only [List.getElem_cons_succ]
          try simp only [List.getElem_cons_zero]
          try simp only [List.setIfInBounds_toArray]
          try simp only [List.set_cons_succ]
          try simp only [List.set_cons_zero]
          refine wpAnyH_take (i := 5) (v := ?v3118) rfl (by kernel_rfl) (by kernel_rfl) (by kernel_rfl) (fun _ _ _ h => h) (Or.inl ⟨by rfl, ?y3118⟩) hHeld ?r3118
          case y3118 => ((intro W hSw; go_simp) <;> with_reducible rfl)
          try simp only [Act.put]
          try simp only [List.getElem_toArray]
          try simp only [List.getElem_cons_succ]
          try simp only [List.getElem_cons_zero]
          try simp only [List.setIfInBounds_toArray]
          try simp only [List.set_cons_succ]
          try simp only [List.set_cons_zero]
          refine wpAnyH_take (i := 6) (v := ?v3119) rfl (by kernel_rfl) (by kernel_rfl) (by kernel_rfl) (fun _ _ _ h => h) (Or.inl ⟨by rfl, ?y3119⟩) hHeld ?r3119
          case y3119 => ((intro W hSw; go_simp) <;> with_reducible rfl)
          try simp only [Act.put]
          try simp only [List.getElem_toArray]
          try simp only [List.getElem_cons_succ]
          try simp only [List.getElem_cons_zero]
          try simp only [List.setIfInBounds_toArray]
          try simp only [List.set_cons_succ]
          try simp only [List.set_cons_zero]
          refine wpAnyH_take (i := 9) (v := ?v3120) rfl (by kernel_rfl) (by kernel_rfl) (by kernel_rfl) (fun _ _ _ h => h) (Or.inl ⟨by rfl, ?y3120⟩) hHeld ?r3120
          case y3120 => ((intro W hSw; go_simp) <;> with_reducible rfl)
          try simp only [Act.put]
          try simp only [List.getElem_toArray]
          try simp only [List.getElem_cons_succ]
          try simp only [List.getElem_cons_zero]
          try simp only [List.setIfInBounds_toArray]
          try simp only [List.set_cons_succ]
          try simp only [List.set_cons_zero]
          refine wpAnyH_take (i := 10) (v := ?v3121) rfl (by kernel_rfl) (by kernel_rfl) (by kernel_rfl) (fun _ _ _ h => h) (Or.inl ⟨by rfl, ?y3121⟩) hHeld ?r3121
          case y3121 => ((intro W hSw; go_simp) <;> with_reducible rfl)
          try simp only [Act.put]
          try simp only [List.getElem_toArray]
          try simp only [List.getElem_cons_succ]
          try simp only [List.getElem_cons_zero]
          try simp only [List.setIfInBounds_toArray]
          try simp only [List.set_cons_succ]
          try simp only [List.set_cons_zero]
          refine wpAnyH_take (i := 13) (v := ?v3122) rfl (by kernel_rfl) (by kernel_rfl) (by kernel_rfl) (fun _ _ _ h => h) (Or.inl ⟨by rfl, ?y3122⟩) hHeld ?r3122
          case y3122 => ((intro W hSw; go_simp) <;> with_reducible rfl)
          try simp only [Act.put]
          try simp only [List.getElem_toArray]
          try simp only [List.getElem_cons_succ]
          try simp only [List.getElem_cons_zero]
          try simp only [List.setIfInBounds_toArray]
          try simp only [List.set_cons_succ]
          try simp only [List.set_cons_zero]
          refine wpAnyH_take (i := 14) (v := ?v3123) rfl (by kernel_rfl) (by kernel_rfl) (by kernel_rfl) (fun _ _ _ h => h) (Or.inl ⟨by rfl, ?y3123⟩) hHeld ?r3123
          case y3123 => ((intro W hSw; go_simp) <;> with_reducible rfl)
          try simp only [Act.put]
          try simp only [List.getElem_toArray]
          try simp only [List.getElem_cons_succ]
          try simp only [List.getElem_cons_zero]
          try simp only [List.setIfInBounds_toArray]
          try simp only [List.set_cons_succ]
          try simp only [List.set_cons_zero]
          refine wpAnyH_take (i := 17) (v := ?v3124) rfl (by kernel_rfl) (by kernel_rfl) (by kernel_rfl) (fun _ _ _ h => h) (Or.inl ⟨by rfl, ?y3124⟩) hHeld ?r3124
          case y3124 => ((intro W hSw; go_simp) <;> with_reducible rfl)
          try simp only [Act.put]
          try simp only [List.getElem_toArray]
          try simp only [List.getElem_cons_succ]
          try simp only [List.getElem_cons_zero]
          try simp only [List.setIfInBounds_toArray]
          try simp only [List.set_cons_succ]
          try simp only [List.set_cons_zero]
          refine wpAnyH_ready (rs := [1]) (by kernel_rfl) (by simp) ?_
          refine AllReadyH.cons rfl (fun K hK => ?_) AllReadyH.nil
          go_simp
          refine (refTold_int 1 (128 + (cl.length : Int)) _ (by omega) (by omega) (by omega)).mono ?_
          rintro e wd ⟨⟨td, rfl, htd, std⟩, hbtd⟩
          have Htd : Hid (td.data.toList = told ((128 + (cl.length : Int)) : Int).toNat 1) := htd
          have ztd : td.size ≤ 1 := by omega
          have bswd : w.heap.size < wd.heap.size := Nat.lt_of_lt_of_le bswr hbtd.size
          have Blwd : Hid (Below (w.heap.size + 1) (w.alloc (.cells #[.bool false, .int .i64 ty, .int .i64 nu, .int .i64 ti, .int .i64 so, .slice ao cl.length cap, .bool false, .int .i64 pr, .string en, .string py, .int .i64 pa] 33)) wd) := Bdwr.out.trans (hbtd.mono (Nat.succ_le_of_lt bswr))

          go_wp2_with fail
          refine hK.out _ _ (fun o => (hbtd.cell (p := ⟨w.heap.size, o, none⟩) bswr).trans (hHeld o)) (fun hHeld => ?_)
          clear hK K htd std hbtd
          refine wpAnyH_ready (rs := [3]) (by kernel_rfl) (by simp) ?_
          refine AllReadyH.cons rfl (fun K hK => ?_) AllReadyH.nil
          go_simp
          refine (refTold_int 1 ty _ (by omega) (by omega) (by omega)).mono ?_
          rintro e we ⟨⟨te, rfl, hte, ste⟩, hbte⟩
          have Hte : Hid (te.data.toList = told (ty : Int).toNat 1) := hte
          have zte : te.size ≤ 1 := by omega
          have bswe : w.heap.size < we.heap.size := Nat.lt_of_lt_of_le bswd hbte.size
          have Blwe : Hid (Below (w.heap.size + 1) (w.alloc (.cells #[.bool false, .int .i64 ty, .int .i64 nu, .int .i64 ti, .int .i64 so, .slice ao cl.length cap, .bool false, .int .i64 pr, .string en, .string py, .int .i64 pa] 33)) we) := Blwd.out.trans (hbte.mono (Nat.succ_le_of_lt bswd))
          have cate0 : ¬ 9223372036854775807 < td.size + te.size := by omega
          go_wp2_with fail
          refine hK.out _ _ (fun o => (hbte.cell (p := ⟨w.heap.size, o, none⟩) bswd).trans (hHeld o)) (fun hHeld => ?_)
          clear hK K hte ste hbte
          refine wpAnyH_take (i := 4) (v := ?v3125) rfl (by kernel_rfl) (by kernel_rfl) (by kernel_rfl) (fun _ _ _ h => h) (Or.inl ⟨by rfl, ?y3125⟩) hHeld ?r3125
          case y3125 => ((intro W hSw; go_simp) <;> with_reducible rfl)
          try simp only [Act.put]
          try simp only [List.getElem_toArray]
          try simp only [List.getElem_cons_succ]
          try simp only [List.getElem_cons_zero]
          try simp only [List.setIfInBounds_toArray]
          try simp only [List.set_cons_succ]
          try simp only [List.set_cons_zero]
          refine wpAnyH_ready (rs := [7]) (by kernel_rfl) (by simp) ?_
          refine AllReadyH.cons rfl (fun K hK => ?_) AllReadyH.nil
          go_simp
          refine (refTold_int 2 nu _ (by omega) (by omega) (by omega)).mono ?_
          rintro e wf ⟨⟨tf, rfl, htf, stf⟩, hbtf⟩
          have Htf : Hid (tf.data.toList = told (nu : Int).toNat 2) := htf
          have ztf : tf.size ≤ 2 := by omega
          have bswf : w.heap.size < wf.heap.size := Nat.lt_of_lt_of_le bswe hbtf.size
          have Blwf : Hid (Below (w.heap.size + 1) (w.alloc (.cells #[.bool false, .int .i64 ty, .int .i64 nu, .int .i64 ti, .int .i64 so, .slice ao cl.length cap, .bool false, .int .i64 pr, .string en, .string py, .int .i64 pa] 33)) wf) := Blwe.out.trans (hbtf.mono (Nat.succ_le_of_lt bswe))
          have catf0 : ¬ 9223372036854775807 < td.size + te.size + tf.size := by omega
          go_wp2_with fail
          refine hK.out _ _ (fun o => (hbtf.cell (p := ⟨w.heap.size, o, none⟩) bswe).trans (hHeld o)) (fun hHeld => ?_)
          clear hK K htf stf hbtf
          refine wpAnyH_take (i := 8) (v := ?v3126) rfl (by kernel_rfl) (by kernel_rfl) (by kernel_rfl) (fun _ _ _ h => h) (Or.inl ⟨by rfl, ?y3126⟩) hHeld ?r3126
          case y3126 => ((intro W hSw; go_simp) <;> with_reducible rfl)
          try simp only [Act.put]
          try simp only [List.getElem_toArray]
          try simp only [List.getElem_cons_succ]
          try simp only [List.getElem_cons_zero]
          try simp only [List.setIfInBounds_toArray]
          try simp only [List.set_cons_succ]
          try simp only [List.set_cons_zero]
          refine wpAnyH_ready (rs := [11]) (by kernel_rfl) (by simp) ?_
          refine AllReadyH.cons rfl (fun K hK => ?_) AllReadyH.nil
          go_simp
          refine (refTold_int 4 ti _ (by omega) (by omega) (by omega)).mono ?_
          rintro e wg ⟨⟨tg, rfl, htg, stg⟩, hbtg⟩
          have Htg : Hid (tg.data.toList = told (ti : Int).toNat 4) := htg
          have ztg : tg.size ≤ 4 := by omega
          have bswg : w.heap.size < wg.heap.size := Nat.lt_of_lt_of_le bswf hbtg.size
          have Blwg : Hid (Below (w.heap.size + 1) (w.alloc (.cells #[.bool false, .int .i64 ty, .int .i64 nu, .int .i64 ti, .int .i64 so, .slice ao cl.length cap, .bool false, .int .i64 pr, .string en, .string py, .int .i64 pa] 33)) wg) := Blwf.out.trans (hbtg.mono (Nat.succ_le_of_lt bswf))
          have catg0 : ¬ 9223372036854775807 < td.size + te.size + tf.size + tg.size := by omega
          go_wp2_with fail
          refine hK.out _ _ (fun o => (hbtg.cell (p := ⟨w.heap.size, o, none⟩) bswf).trans (hHeld o)) (fun hHeld => ?_)
          clear hK K htg stg hbtg
          refine wpAnyH_take (i := 12) (v := ?v3127) rfl (by kernel_rfl) (by kernel_rfl) (by kernel_rfl) (fun _ _ _ h => h) (Or.inl ⟨by rfl, ?y3127⟩) hHeld ?r3127
          case y3127 => ((intro W hSw; go_simp) <;> with_reducible rfl)
          try simp only [Act.put]
          try simp only [List.getElem_toArray]
          try simp only [List.getElem_cons_succ]
          try simp only [List.getElem_cons_zero]
          try simp only [List.setIfInBounds_toArray]
          try simp only [List.set_cons_succ]
          try simp only [List.set_cons_zero]
          refine wpAnyH_ready (rs := [15]) (by kernel_rfl) (by simp) ?_
          refine AllReadyH.cons rfl (fun K hK => ?_) AllReadyH.nil
          go_simp
          refine (refTold_int 4 so _ (by omega) (by omega) (by omega)).mono ?_
          rintro e wh ⟨⟨th, rfl, hth, sth⟩, hbth⟩
          have Hth : Hid (th.data.toList = told (so : Int).toNat 4) := hth
          have zth : th.size ≤ 4 := by omega
          have bswh : w.heap.size < wh.heap.size := Nat.lt_of_lt_of_le bswg hbth.size
          have Blwh : Hid (Below (w.heap.size + 1) (w.alloc (.cells #[.bool false, .int .i64 ty, .int .i64 nu, .int .i64 ti, .int .i64 so, .slice ao cl.length cap, .bool false, .int .i64 pr, .string en, .string py, .int .i64 pa] 33)) wh) := Blwg.out.trans (hbth.mono (Nat.succ_le_of_lt bswg))
          have cath0 : ¬ 9223372036854775807 < td.size + te.size + tf.size + tg.size + th.size := by omega
          have cath1 : ¬ 9223372036854775807 < td.size + te.size + tf.size + tg.size + th.size + (t.size + py.size) := by omega
          go_wp2_with fail
          refine hK.out _ _ (fun o => (hbth.cell (p := ⟨w.heap.size, o, none⟩) bswg).trans (hHeld o)) (fun hHeld => ?_)
          clear hK K hth sth hbth
          refine wpAnyH_take (i := 16) (v := ?v3128) rfl (by kernel_rfl) (by kernel_rfl) (by kernel_rfl) (fun _ _ _ h => h) (Or.inl ⟨by rfl, ?y3128⟩) hHeld ?r3128
          case y3128 => ((intro W hSw; go_simp) <;> with_reducible rfl)
          try simp only [Act.put]
          try simp only [List.getElem_toArray]
          try simp only [List.getElem_cons_succ]
          try simp only [List.getElem_cons_zero]
          try simp only [List.setIfInBounds_toArray]
          try simp only [List.set_cons_succ]
          try simp only [List.set_cons_zero]
          refine wpAnyH_take (i := 18) (v := ?v3129) rfl (by kernel_rfl) (by kernel_rfl) (by kernel_rfl) (fun _ _ _ h => h) (Or.inl ⟨by rfl, ?y3129⟩) hHeld ?r3129
          case y3129 => ((intro W hSw; go_simp) <;> with_reducible rfl)
          try simp only [Act.put]
          try simp only [List.getElem_toArray]
          try simp only [List.getElem_cons_succ]
          try simp only [List.getElem_cons_zero]
          try simp only [List.setIfInBounds_toArray]
          try simp only [List.set_cons_succ]
          try simp only [List.set_cons_zero]
          refine wpAnyH_take (i := 19) (v := ?v3130) rfl (by kernel_rfl) (by kernel_rfl) (by kernel_rfl) (fun _ _ _ h => h) (Or.inl ⟨by rfl, ?y3130⟩) hHeld ?r3130
          case y3130 => ((intro W hSw; go_simp) <;> with_reducible rfl)
          try simp only [Act.put]
          try simp only [List.getElem_toArray]
          try simp only [List.getElem_cons_succ]
          try simp only [List.getElem_cons_zero]
          try simp only [List.setIfInBounds_toArray]
          try simp only [List.set_cons_succ]
          try simp only [List.set_cons_zero]
          refine wpAnyH_done (by kernel_rfl) ?_ _
          refine NoPanic.normal ?_
          clear hcb
          have Hd : Hid (tellR false false ty nu ti so pr pa cl en py = if 1500 < (td ++ te ++ tf ++ tg ++ th ++ (t ++ py)).size then (⟨#[]⟩, 1) else (td ++ te ++ tf ++ tg ++ th ++ (t ++ py), 0)) := by
            refine tell_done _ (tellOk_of Hok.out hall.out) ?_
            simp only [append_list, Htd.out, Hte.out, Htf.out, Htg.out, Hth.out, htl.out]
            have hn : ¬ 0 < pa := by have := Hnp.out; omega
            have h := tells (mk := false) (py := py) Hok.out (128 + (cl.length : Int)) ty [] [] (by simp [hn]) (by simp) (by simp [extB]) (by rw [show pa.toNat = 0 by have := Hnp.out; omega]; rfl)
            simpa only [List.append_assoc, List.append_nil, List.nil_append] using h
          have Bf : Hid (Below w.heap.size w wh) := ((Below.refl _ _).alloc (Nat.le_refl _) _).trans (Blwh.out.mono (by omega))
          by_cases hL : 1500 < td.size + te.size + tf.size + tg.size + th.size + (t.size + py.size)
          · have hL' : (1500 : Int) < td.size + te.size + tf.size + tg.size + th.size + (t.size + py.size) := by omega
            go_wp2
            go_ret2
            refine ⟨?_, Bf.out⟩
            rw [Hd.out, if_pos (by simpa [ByteArray.size_append] using hL)]
            rfl
          · have hL' : ¬ (1500 : Int) < td.size + te.size + tf.size + tg.size + th.size + (t.size + py.size) := by omega
            go_wp2
            go_ret2
            refine ⟨?_, Bf.out⟩
            rw [Hd.out, if_neg (by simpa [ByteArray.size_append] using hL)]
            rfl
      · by_cases hp0 : 0 < pa
        · have hnp : 0 < pa := hp0
          have Hnp : Hid (0 < pa) := hp0
          go_wp2
          have hcb : ∀ o, wr.cell? ⟨w.heap.size, o, none⟩ = (w.alloc (.cells #[.bool true, .int .i64 ty, .int .i64 nu, .int .i64 ti, .int .i64 so, .slice ao cl.length cap, .bool false, .int .i64 pr, .string en, .string py, .int .i64 pa] 33)).cell? ⟨w.heap.size, o, none⟩ := fun o => Blwr.out.cell (p := ⟨w.heap.size, o, none⟩) (Nat.lt_succ_self _)
          have Bdwr : Hid (Below (w.heap.size + 1) (w.alloc (.cells #[.bool true, .int .i64 ty, .int .i64 nu, .int .i64 ti, .int .i64 so, .slice ao cl.length cap, .bool false, .int .i64 pr, .string en, .string py, .int .i64 pa] 33)) wr.drew) := Blwr.out.drew
          have bdwr : w.heap.size < wr.drew.heap.size := bswr
          have hwp : IntKind.i64.wrap (pa - 1) = pa - 1 := wrapI64 _ (by omega) (by omega)
          refine wp_region_noPanic ?_
          refine wp_region_held_drew (S := fun W => ∀ o, W.cell? ⟨w.heap.size, o, none⟩ = (w.alloc (.cells #[.bool true, .int .i64 ty, .int .i64 nu, .int .i64 ti, .int .i64 so, .slice ao cl.length cap, .bool false, .int .i64 pr, .string en, .string py, .int .i64 pa] 33)).cell? ⟨w.heap.size, o, none⟩) (by kernel_rfl) hcb (fun hHeld => ?_)
          refine wpAnyH_take (i := 0) (v := ?v3131) rfl (by kernel_rfl) (by kernel_rfl) (by kernel_rfl) (fun _ _ _ h => h) (Or.inl ⟨by rfl, ?y3131⟩) hHeld ?r3131
          case y3131 => ((intro W hSw; go_simp) <;> with_reducible rfl)
          try simp only [Act.put]
          try simp only [List.getElem_toArray]
          try simp only [List.getElem_cons_succ]
          try simp only [List.getElem_cons_zero]
          try simp only [List.setIfInBounds_toArray]
          try simp only [List.set_cons_succ]
          try simp only [List.set_cons_zero]
          refine wpAnyH_take (i := 1) (v := ?v3132) rfl (by kernel_rfl) (by kernel_rfl) (by kernel_rfl) (fun _ _ _ h => h) (Or.inl ⟨by rfl, ?y3132⟩) hHeld ?r3132
          case y3132 => ((intro W hSw; go_simp) <;> with_reducible rfl)
          try simp only [Act.put]
          try simp only [List.getElem_toArray]
          try simp only [List.getElem_cons_succ]
          try simp only [List.getElem_cons_zero]
          try simp only [List.setIfInBounds_toArray]
          try simp only [List.set_cons_succ]
          try simp only [List.set_cons_zero]
          refine wpAnyH_take (i := 2) (v := ?v3133) rfl (by kernel_rfl) (by kernel_rfl) (by kernel_rfl) (fun _ _ _ h => h) (Or.inl ⟨by rfl, ?y3133⟩) hHeld ?r3133
          case y3133 => ((intro W hSw; go_simp) <;> with_reducible rfl)
          try simp only [Act.put]
          try simp only [List.getElem_toArray]
          try simp only [List.getElem_cons_succ]
          try simp only [List.getElem_cons_zero]
          try simp only [List.setIfInBounds_toArray]
          try simp only [List.set_cons_succ]
          try simp only [List.set_cons_zero]
          refine wpAnyH_take (i := 3) (v := ?v3134) rfl (by kernel_rfl) (by kernel_rfl) (by kernel_rfl) (fun _ _ _ h => h) (Or.inl ⟨by rfl, ?y3134⟩) hHeld ?r3134
          case y3134 => ((intro W hSw; go_simp) <;> with_reducible rfl)
          try simp only [Act.put]
          try simp only [List.getElem_toArray]
          try simp only [List.getElem_cons_succ]
          try simp only [List.getElem_cons_zero]
          try simp only [List.setIfInBounds_toArray]
          try simp only [List.set_cons_succ]
          try simp only [List.set_cons_zero]
          refine wpAnyH_take (i := 6) (v := ?v3135) rfl (by kernel_rfl) (by kernel_rfl) (by kernel_rfl) (fun _ _ _ h => h) (Or.inl ⟨by rfl, ?y3135⟩) hHeld ?r3135
          case y3135 => ((intro W hSw; go_simp) <;> with_reducible rfl)
          try simp only [Act.put]
          try simp only [List.getElem_toArray]
          try simp only [List.getElem_cons_succ]
          try simp only [List.getElem_cons_zero]
          try simp only [List.setIfInBounds_toArray]
          try simp only [List.set_cons_succ]
          try simp only [List.set_cons_zero]
          refine wpAnyH_take (i := 7) (v := ?v3136) rfl (by kernel_rfl) (by kernel_rfl) (by kernel_rfl) (fun _ _ _ h => h) (Or.inl ⟨by rfl, ?y3136⟩) hHeld ?r3136
          case y3136 => ((intro W hSw; go_simp) <;> with_reducible rfl)
          try simp only [Act.put]
          try simp only [List.getElem_toArray]
          try simp only [List.getElem_cons_succ]
          try simp only [List.getElem_cons_zero]
          try simp only [List.setIfInBounds_toArray]
          try simp only [List.set_cons_succ]
          try simp only [List.set_cons_zero]
          refine wpAnyH_ready (rs := [4]) (by kernel_rfl) (by simp) ?_
          refine AllReadyH.cons rfl (fun K hK => ?_) AllReadyH.nil
          go_simp
          refine (refNoughts_int (pa - 1) _ (by omega) (by omega)).mono ?_
          rintro e wz ⟨⟨tz, rfl, htz, stz⟩, rfl⟩
          have Htz : Hid (tz.data.toList = List.replicate (pa - 1).toNat 0) := htz
          have catz0 : ¬ 9223372036854775807 < t.size + py.size + tz.size := by omega
          go_wp2_with fail
          refine hK.out _ _ (fun o => hHeld o) (fun hHeld => ?_)
          clear hK K htz
          refine wpAnyH_take (i := 5) (v := ?v3137) rfl (by kernel_rfl) (by kernel_rfl) (by kernel_rfl) (fun _ _ _ h => h) (Or.inl ⟨by rfl, ?y3137⟩) hHeld ?r3137
          case y3137 => ((intro W hSw; go_simp) <;> with_reducible rfl)
          try simp only [Act.put]
          try simp only [List.getElem_toArray]
          try simp only [List.getElem_cons_succ]
          try simp only [List.getElem_cons_zero]
          try simp only [List.setIfInBounds_toArray]
          try simp only [List.set_cons_succ]
          try simp only [List.set_cons_zero]
          refine wpAnyH_ready (rs := [8]) (by kernel_rfl) (by simp) ?_
          refine AllReadyH.cons rfl (fun K hK => ?_) AllReadyH.nil
          go_simp
          refine (refTold_int 1 pa _ (by omega) (by omega) (by omega)).mono ?_
          rintro e wp ⟨⟨tp, rfl, htp, stp⟩, hbtp⟩
          have Htp : Hid (tp.data.toList = told (pa : Int).toNat 1) := htp
          have ztp : tp.size ≤ 1 := by omega
          have bswp : w.heap.size < wp.heap.size := Nat.lt_of_lt_of_le bswr hbtp.size
          have Blwp : Hid (Below (w.heap.size + 1) (w.alloc (.cells #[.bool true, .int .i64 ty, .int .i64 nu, .int .i64 ti, .int .i64 so, .slice ao cl.length cap, .bool false, .int .i64 pr, .string en, .string py, .int .i64 pa] 33)) wp) := Bdwr.out.trans (hbtp.mono (Nat.succ_le_of_lt bswr))
          have catp0 : ¬ 9223372036854775807 < t.size + py.size + tz.size + tp.size := by omega
          go_wp2_with fail
          refine hK.out _ _ (fun o => (hbtp.cell (p := ⟨w.heap.size, o, none⟩) bswr).trans (hHeld o)) (fun hHeld => ?_)
          clear hK K htp stp hbtp
          refine wpAnyH_take (i := 9) (v := ?v3138) rfl (by kernel_rfl) (by kernel_rfl) (by kernel_rfl) (fun _ _ _ h => h) (Or.inl ⟨by rfl, ?y3138⟩) hHeld ?r3138
          case y3138 => ((intro W hSw; go_simp) <;> with_reducible rfl)
          try simp only [Act.put]
          try simp only [List.getElem_toArray]
          try simp only [List.getElem_cons_succ]
          try simp only [List.getElem_cons_zero]
          try simp only [List.setIfInBounds_toArray]
          try simp only [List.set_cons_succ]
          try simp only [List.set_cons_zero]
          refine wpAnyH_take (i := 10) (v := ?v3139) rfl (by kernel_rfl) (by kernel_rfl) (by kernel_rfl) (fun _ _ _ h => h) (Or.inl ⟨by rfl, ?y3139⟩) hHeld ?r3139
          case y3139 => ((intro W hSw; go_simp) <;> with_reducible rfl)
          try simp only [Act.put]
          try simp only [List.getElem_toArray]
          try simp only [List.getElem_cons_succ]
          try simp only [List.getElem_cons_zero]
          try simp only [List.setIfInBounds_toArray]
          try simp only [List.set_cons_succ]
          try simp only [List.set_cons_zero]
          refine wpAnyH_done (by kernel_rfl) ?_ _
          refine NoPanic.normal ?_
          clear hcb
          go_wp2
          have hcb : ∀ o, wp.cell? ⟨w.heap.size, o, none⟩ = (w.alloc (.cells #[.bool true, .int .i64 ty, .int .i64 nu, .int .i64 ti, .int .i64 so, .slice ao cl.length cap, .bool false, .int .i64 pr, .string en, .string py, .int .i64 pa] 33)).cell? ⟨w.heap.size, o, none⟩ := fun o => Blwp.out.cell (p := ⟨w.heap.size, o, none⟩) (Nat.lt_succ_self _)
          have Bdwp : Hid (Below (w.heap.size + 1) (w.alloc (.cells #[.bool true, .int .i64 ty, .int .i64 nu, .int .i64 ti, .int .i64 so, .slice ao cl.length cap, .bool false, .int .i64 pr, .string en, .string py, .int .i64 pa] 33)) wp.drew) := Blwp.out.drew
          have bdwp : w.heap.size < wp.drew.heap.size := bswp
          refine wp_region_noPanic ?_
          refine wp_region_held_drew (S := fun W => ∀ o, W.cell? ⟨w.heap.size, o, none⟩ = (w.alloc (.cells #[.bool true, .int .i64 ty, .int .i64 nu, .int .i64 ti, .int .i64 so, .slice ao cl.length cap, .bool false, .int .i64 pr, .string en, .string py, .int .i64 pa] 33)).cell? ⟨w.heap.size, o, none⟩) (by kernel_rfl) hcb (fun hHeld => ?_)
          refine wpAnyH_take (i := 0) (v := ?v3140) rfl (by kernel_rfl) (by kernel_rfl) (by kernel_rfl) (fun _ _ _ h => h) (Or.inl ⟨by rfl, ?y3140⟩) hHeld ?r3140
          case y3140 => ((intro W hSw; go_simp) <;> with_reducible rfl)
          try simp only [Act.put]
          try simp only [List.getElem_toArray]
          try simp only [List.getElem_cons_succ]
          try simp only [List.getElem_cons_zero]
          try simp only [List.setIfInBounds_toArray]
          try simp only [List.set_cons_succ]
          try simp only [List.set_cons_zero]
          refine wpAnyH_take (i := 2) (v := ?v3141) rfl (by kernel_rfl) (by kernel_rfl) (by kernel_rfl) (fun _ _ _ h => h) (Or.inl ⟨by rfl, ?y3141⟩) hHeld ?r3141
          case y3141 => ((intro W hSw; go_simp) <;> with_reducible rfl)
          try simp only [Act.put]
          try simp only [List.getElem_toArray]
          try simp only [List.getElem_cons_succ]
          try simp only [List.getElem_cons_zero]
          try simp only [List.setIfInBounds_toArray]
          try simp only [List.set_cons_succ]
          try simp only [List.set_cons_zero]
          refine wpAnyH_take (i := 5) (v := ?v3142) rfl (by kernel_rfl) (by kernel_rfl) (by kernel_rfl) (fun _ _ _ h => h) (Or.inl ⟨by rfl, ?y3142⟩) hHeld ?r3142
          case y3142 => ((intro W hSw; go_simp) <;> with_reducible rfl)
          try simp only [Act.put]
          try simp only [List.getElem_toArray]
          try simp only [List.getElem_cons_succ]
          try simp only [List.getElem_cons_zero]
          try simp only [List.setIfInBounds_toArray]
          try simp only [List.set_cons_succ]
          try simp only [List.set_cons_zero]
          refine wpAnyH_take (i := 6) (v := ?v3143) rfl (by kernel_rfl) (by kernel_rfl) (by kernel_rfl) (fun _ _ _ h => h) (Or.inl ⟨by rfl, ?y3143⟩) hHeld ?r3143
          case y3143 => ((intro W hSw; go_simp) <;> with_reducible rfl)
          try simp only [Act.put]
          try simp only [List.getElem_toArray]
          try simp only [List.getElem_cons_succ]
          try simp only [List.getElem_cons_zero]
          try simp only [List.setIfInBounds_toArray]
          try simp only [List.set_cons_succ]
          try simp only [List.set_cons_zero]
          refine wpAnyH_take (i := 9) (v := ?v3144) rfl (by kernel_rfl) (by kernel_rfl) (by kernel_rfl) (fun _ _ _ h => h) (Or.inl ⟨by rfl, ?y3144⟩) hHeld ?r3144
          case y3144 => ((intro W hSw; go_simp) <;> with_reducible rfl)
          try simp only [Act.put]
          try simp only [List.getElem_toArray]
          try simp only [List.getElem_cons_succ]
          try simp only [List.getElem_cons_zero]
          try simp only [List.setIfInBounds_toArray]
          try simp only [List.set_cons_succ]
          try simp only [List.set_cons_zero]
          refine wpAnyH_take (i := 10) (v := ?v3145) rfl (by kernel_rfl) (by kernel_rfl) (by kernel_rfl) (fun _ _ _ h => h) (Or.inl ⟨by rfl, ?y3145⟩) hHeld ?r3145
          case y3145 => ((intro W hSw; go_simp) <;> with_reducible rfl)
          try simp only [Act.put]
          try simp only [List.getElem_toArray]
          try simp only [List.getElem_cons_succ]
          try simp only [List.getElem_cons_zero]
          try simp only [List.setIfInBounds_toArray]
          try simp only [List.set_cons_succ]
          try simp only [List.set_cons_zero]
          refine wpAnyH_take (i := 13) (v := ?v3146) rfl (by kernel_rfl) (by kernel_rfl) (by kernel_rfl) (fun _ _ _ h => h) (Or.inl ⟨by rfl, ?y3146⟩) hHeld ?r3146
          case y3146 => ((intro W hSw; go_simp) <;> with_reducible rfl)
          try simp only [Act.put]
          try simp only [List.getElem_toArray]
          try simp only [List.getElem_cons_succ]
          try simp only [List.getElem_cons_zero]
          try simp only [List.setIfInBounds_toArray]
          try simp only [List.set_cons_succ]
          try simp only [List.set_cons_zero]
          refine wpAnyH_take (i := 14) (v := ?v3147) rfl (by kernel_rfl) (by kernel_rfl) (by kernel_rfl) (fun _ _ _ h => h) (Or.inl ⟨by rfl, ?y3147⟩) hHeld ?r3147
          case y3147 => ((intro W hSw; go_simp) <;> with_reducible rfl)
          try simp only [Act.put]
          try simp only [List.getElem_toArray]
          try simp only [List.getElem_cons_succ]
          try simp only [List.getElem_cons_zero]
          try simp only [List.setIfInBounds_toArray]
          try simp only [List.set_cons_succ]
          try simp only [List.set_cons_zero]
          refine wpAnyH_take (i := 17) (v := ?v3148) rfl (by kernel_rfl) (by kernel_rfl) (by kernel_rfl) (fun _ _ _ h => h) (Or.inl ⟨by rfl, ?y3148⟩) hHeld ?r3148
          case y3148 => ((intro W hSw; go_simp) <;> with_reducible rfl)
          try simp only [Act.put]
          try simp only [List.getElem_toArray]
          try simp only [List.getElem_cons_succ]
          try simp only [List.getElem_cons_zero]
          try simp only [List.setIfInBounds_toArray]
          try simp only [List.set_cons_succ]
          try simp only [List.set_cons_zero]
          refine wpAnyH_ready (rs := [1]) (by kernel_rfl) (by simp) ?_
          refine AllReadyH.cons rfl (fun K hK => ?_) AllReadyH.nil
          go_simp
          refine (refTold_int 1 (128 + (cl.length : Int) + 32) _ (by omega) (by omega) (by omega)).mono ?_
          rintro e wd ⟨⟨td, rfl, htd, std⟩, hbtd⟩
          have Htd : Hid (td.data.toList = told ((128 + (cl.length : Int) + 32) : Int).toNat 1) := htd
          have ztd : td.size ≤ 1 := by omega
          have bswd : w.heap.size < wd.heap.size := Nat.lt_of_lt_of_le bswp hbtd.size
          have Blwd : Hid (Below (w.heap.size + 1) (w.alloc (.cells #[.bool true, .int .i64 ty, .int .i64 nu, .int .i64 ti, .int .i64 so, .slice ao cl.length cap, .bool false, .int .i64 pr, .string en, .string py, .int .i64 pa] 33)) wd) := Bdwp.out.trans (hbtd.mono (Nat.succ_le_of_lt bswp))

          go_wp2_with fail
          refine hK.out _ _ (fun o => (hbtd.cell (p := ⟨w.heap.size, o, none⟩) bswp).trans (hHeld o)) (fun hHeld => ?_)
          clear hK K htd std hbtd
          refine wpAnyH_ready (rs := [3]) (by kernel_rfl) (by simp) ?_
          refine AllReadyH.cons rfl (fun K hK => ?_) AllReadyH.nil
          go_simp
          refine (refTold_int 1 (ty + 128) _ (by omega) (by omega) (by omega)).mono ?_
          rintro e we ⟨⟨te, rfl, hte, ste⟩, hbte⟩
          have Hte : Hid (te.data.toList = told ((ty + 128) : Int).toNat 1) := hte
          have zte : te.size ≤ 1 := by omega
          have bswe : w.heap.size < we.heap.size := Nat.lt_of_lt_of_le bswd hbte.size
          have Blwe : Hid (Below (w.heap.size + 1) (w.alloc (.cells #[.bool true, .int .i64 ty, .int .i64 nu, .int .i64 ti, .int .i64 so, .slice ao cl.length cap, .bool false, .int .i64 pr, .string en, .string py, .int .i64 pa] 33)) we) := Blwd.out.trans (hbte.mono (Nat.succ_le_of_lt bswd))
          have cate0 : ¬ 9223372036854775807 < td.size + te.size := by omega
          go_wp2_with fail
          refine hK.out _ _ (fun o => (hbte.cell (p := ⟨w.heap.size, o, none⟩) bswd).trans (hHeld o)) (fun hHeld => ?_)
          clear hK K hte ste hbte
          refine wpAnyH_take (i := 4) (v := ?v3149) rfl (by kernel_rfl) (by kernel_rfl) (by kernel_rfl) (fun _ _ _ h => h) (Or.inl ⟨by rfl, ?y3149⟩) hHeld ?r3149
          case y3149 => ((intro W hSw; go_simp) <;> with_reducible rfl)
          try simp only [Act.put]
          try simp only [List.getElem_toArray]
          try simp only [List.getElem_cons_succ]
          try simp only [List.getElem_cons_zero]
          try simp only [List.setIfInBounds_toArray]
          try simp only [List.set_cons_succ]
          try simp only [List.set_cons_zero]
          refine wpAnyH_ready (rs := [7]) (by kernel_rfl) (by simp) ?_
          refine AllReadyH.cons rfl (fun K hK => ?_) AllReadyH.nil
          go_simp
          refine (refTold_int 2 nu _ (by omega) (by omega) (by omega)).mono ?_
          rintro e wf ⟨⟨tf, rfl, htf, stf⟩, hbtf⟩
          have Htf : Hid (tf.data.toList = told (nu : Int).toNat 2) := htf
          have ztf : tf.size ≤ 2 := by omega
          have bswf : w.heap.size < wf.heap.size := Nat.lt_of_lt_of_le bswe hbtf.size
          have Blwf : Hid (Below (w.heap.size + 1) (w.alloc (.cells #[.bool true, .int .i64 ty, .int .i64 nu, .int .i64 ti, .int .i64 so, .slice ao cl.length cap, .bool false, .int .i64 pr, .string en, .string py, .int .i64 pa] 33)) wf) := Blwe.out.trans (hbtf.mono (Nat.succ_le_of_lt bswe))
          have catf0 : ¬ 9223372036854775807 < td.size + te.size + tf.size := by omega
          go_wp2_with fail
          refine hK.out _ _ (fun o => (hbtf.cell (p := ⟨w.heap.size, o, none⟩) bswe).trans (hHeld o)) (fun hHeld => ?_)
          clear hK K htf stf hbtf
          refine wpAnyH_take (i := 8) (v := ?v3150) rfl (by kernel_rfl) (by kernel_rfl) (by kernel_rfl) (fun _ _ _ h => h) (Or.inl ⟨by rfl, ?y3150⟩) hHeld ?r3150
          case y3150 => ((intro W hSw; go_simp) <;> with_reducible rfl)
          try simp only [Act.put]
          try simp only [List.getElem_toArray]
          try simp only [List.getElem_cons_succ]
          try simp only [List.getElem_cons_zero]
          try simp only [List.setIfInBounds_toArray]
          try simp only [List.set_cons_succ]
          try simp only [List.set_cons_zero]
          refine wpAnyH_ready (rs := [11]) (by kernel_rfl) (by simp) ?_
          refine AllReadyH.cons rfl (fun K hK => ?_) AllReadyH.nil
          go_simp
          refine (refTold_int 4 ti _ (by omega) (by omega) (by omega)).mono ?_
          rintro e wg ⟨⟨tg, rfl, htg, stg⟩, hbtg⟩
          have Htg : Hid (tg.data.toList = told (ti : Int).toNat 4) := htg
          have ztg : tg.size ≤ 4 := by omega
          have bswg : w.heap.size < wg.heap.size := Nat.lt_of_lt_of_le bswf hbtg.size
          have Blwg : Hid (Below (w.heap.size + 1) (w.alloc (.cells #[.bool true, .int .i64 ty, .int .i64 nu, .int .i64 ti, .int .i64 so, .slice ao cl.length cap, .bool false, .int .i64 pr, .string en, .string py, .int .i64 pa] 33)) wg) := Blwf.out.trans (hbtg.mono (Nat.succ_le_of_lt bswf))
          have catg0 : ¬ 9223372036854775807 < td.size + te.size + tf.size + tg.size := by omega
          go_wp2_with fail
          refine hK.out _ _ (fun o => (hbtg.cell (p := ⟨w.heap.size, o, none⟩) bswf).trans (hHeld o)) (fun hHeld => ?_)
          clear hK K htg stg hbtg
          refine wpAnyH_take (i := 12) (v := ?v3151) rfl (by kernel_rfl) (by kernel_rfl) (by kernel_rfl) (fun _ _ _ h => h) (Or.inl ⟨by rfl, ?y3151⟩) hHeld ?r3151
          case y3151 => ((intro W hSw; go_simp) <;> with_reducible rfl)
          try simp only [Act.put]
          try simp only [List.getElem_toArray]
          try simp only [List.getElem_cons_succ]
          try simp only [List.getElem_cons_zero]
          try simp only [List.setIfInBounds_toArray]
          try simp only [List.set_cons_succ]
          try simp only [List.set_cons_zero]
          refine wpAnyH_ready (rs := [15]) (by kernel_rfl) (by simp) ?_
          refine AllReadyH.cons rfl (fun K hK => ?_) AllReadyH.nil
          go_simp
          refine (refTold_int 4 so _ (by omega) (by omega) (by omega)).mono ?_
          rintro e wh ⟨⟨th, rfl, hth, sth⟩, hbth⟩
          have Hth : Hid (th.data.toList = told (so : Int).toNat 4) := hth
          have zth : th.size ≤ 4 := by omega
          have bswh : w.heap.size < wh.heap.size := Nat.lt_of_lt_of_le bswg hbth.size
          have Blwh : Hid (Below (w.heap.size + 1) (w.alloc (.cells #[.bool true, .int .i64 ty, .int .i64 nu, .int .i64 ti, .int .i64 so, .slice ao cl.length cap, .bool false, .int .i64 pr, .string en, .string py, .int .i64 pa] 33)) wh) := Blwg.out.trans (hbth.mono (Nat.succ_le_of_lt bswg))
          have cath0 : ¬ 9223372036854775807 < td.size + te.size + tf.size + tg.size + th.size := by omega
          have cath1 : ¬ 9223372036854775807 < td.size + te.size + tf.size + tg.size + th.size + (t.size + py.size + tz.size + tp.size) := by omega
          go_wp2_with fail
          refine hK.out _ _ (fun o => (hbth.cell (p := ⟨w.heap.size, o, none⟩) bswg).trans (hHeld o)) (fun hHeld => ?_)
          clear hK K hth sth hbth
          refine wpAnyH_take (i := 16) (v := ?v3152) rfl (by kernel_rfl) (by kernel_rfl) (by kernel_rfl) (fun _ _ _ h => h) (Or.inl ⟨by rfl, ?y3152⟩) hHeld ?r3152
          case y3152 => ((intro W hSw; go_simp) <;> with_reducible rfl)
          try simp only [Act.put]
          try simp only [List.getElem_toArray]
          try simp only [List.getElem_cons_succ]
          try simp only [List.getElem_cons_zero]
          try simp only [List.setIfInBounds_toArray]
          try simp only [List.set_cons_succ]
          try simp only [List.set_cons_zero]
          refine wpAnyH_take (i := 18) (v := ?v3153) rfl (by kernel_rfl) (by kernel_rfl) (by kernel_rfl) (fun _ _ _ h => h) (Or.inl ⟨by rfl, ?y3153⟩) hHeld ?r3153
          case y3153 => ((intro W hSw; go_simp) <;> with_reducible rfl)
          try simp only [Act.put]
          try simp only [List.getElem_toArray]
          try simp only [List.getElem_cons_succ]
          try simp only [List.getElem_cons_zero]
          try simp only [List.setIfInBounds_toArray]
          try simp only [List.set_cons_succ]
          try simp only [List.set_cons_zero]
          refine wpAnyH_take (i := 19) (v := ?v3154) rfl (by kernel_rfl) (by kernel_rfl) (by kernel_rfl) (fun _ _ _ h => h) (Or.inl ⟨by rfl, ?y3154⟩) hHeld ?r3154
          case y3154 => ((intro W hSw; go_simp) <;> with_reducible rfl)
          try simp only [Act.put]
          try simp only [List.getElem_toArray]
          try simp only [List.getElem_cons_succ]
          try simp only [List.getElem_cons_zero]
          try simp only [List.setIfInBounds_toArray]
          try simp only [List.set_cons_succ]
          try simp only [List.set_cons_zero]
          refine wpAnyH_done (by kernel_rfl) ?_ _
          refine NoPanic.normal ?_
          clear hcb
          have Hd : Hid (tellR true false ty nu ti so pr pa cl en py = if 1500 < (td ++ te ++ tf ++ tg ++ th ++ (t ++ py ++ tz ++ tp)).size then (⟨#[]⟩, 1) else (td ++ te ++ tf ++ tg ++ th ++ (t ++ py ++ tz ++ tp), 0)) := by
            refine tell_done _ (tellOk_of Hok.out hall.out) ?_
            simp only [append_list, Htd.out, Hte.out, Htf.out, Htg.out, Hth.out, htl.out, Htz.out, Htp.out]
            have hn : 0 < pa := by have := Hnp.out; omega
            have h := tells (mk := true) (py := py) Hok.out (128 + (cl.length : Int) + 32) (ty + 128) [] (List.replicate (pa - 1).toNat 0 ++ told pa.toNat 1) (by simp [hn]) (by simp) (by simp [extB]) (by unfold padB; rw [if_neg (by have := Hnp.out; omega), told_one _ (by omega), show (pa - 1).toNat = pa.toNat - 1 by omega])
            simpa only [List.append_assoc, List.append_nil, List.nil_append] using h
          have Bf : Hid (Below w.heap.size w wh) := ((Below.refl _ _).alloc (Nat.le_refl _) _).trans (Blwh.out.mono (by omega))
          by_cases hL : 1500 < td.size + te.size + tf.size + tg.size + th.size + (t.size + py.size + tz.size + tp.size)
          · have hL' : (1500 : Int) < td.size + te.size + tf.size + tg.size + th.size + (t.size + py.size + tz.size + tp.size) := by omega
            go_wp2
            go_ret2
            refine ⟨?_, Bf.out⟩
            rw [Hd.out, if_pos (by simpa [ByteArray.size_append] using hL)]
            rfl
          · have hL' : ¬ (1500 : Int) < td.size + te.size + tf.size + tg.size + th.size + (t.size + py.size + tz.size + tp.size) := by omega
            go_wp2
            go_ret2
            refine ⟨?_, Bf.out⟩
            rw [Hd.out, if_neg (by simpa [ByteArray.size_append] using hL)]
            rfl
        · have hnp : ¬ 0 < pa := hp0
          have Hnp : Hid (¬ 0 < pa) := hp0
          go_wp2
          have hcb : ∀ o, wr.cell? ⟨w.heap.size, o, none⟩ = (w.alloc (.cells #[.bool true, .int .i64 ty, .int .i64 nu, .int .i64 ti, .int .i64 so, .slice ao cl.length cap, .bool false, .int .i64 pr, .string en, .string py, .int .i64 pa] 33)).cell? ⟨w.heap.size, o, none⟩ := fun o => Blwr.out.cell (p := ⟨w.heap.size, o, none⟩) (Nat.lt_succ_self _)
          have Bdwr : Hid (Below (w.heap.size + 1) (w.alloc (.cells #[.bool true, .int .i64 ty, .int .i64 nu, .int .i64 ti, .int .i64 so, .slice ao cl.length cap, .bool false, .int .i64 pr, .string en, .string py, .int .i64 pa] 33)) wr.drew) := Blwr.out.drew
          have bdwr : w.heap.size < wr.drew.heap.size := bswr
          refine wp_region_noPanic ?_
          refine wp_region_held_drew (S := fun W => ∀ o, W.cell? ⟨w.heap.size, o, none⟩ = (w.alloc (.cells #[.bool true, .int .i64 ty, .int .i64 nu, .int .i64 ti, .int .i64 so, .slice ao cl.length cap, .bool false, .int .i64 pr, .string en, .string py, .int .i64 pa] 33)).cell? ⟨w.heap.size, o, none⟩) (by kernel_rfl) hcb (fun hHeld => ?_)
          refine wpAnyH_take (i := 0) (v := ?v3155) rfl (by kernel_rfl) (by kernel_rfl) (by kernel_rfl) (fun _ _ _ h => h) (Or.inl ⟨by rfl, ?y3155⟩) hHeld ?r3155
          case y3155 => ((intro W hSw; go_simp) <;> with_reducible rfl)
          try simp only [Act.put]
          try simp only [List.getElem_toArray]
          try simp only [List.getElem_cons_succ]
          try simp only [List.getElem_cons_zero]
          try simp only [List.setIfInBounds_toArray]
          try simp only [List.set_cons_succ]
          try simp only [List.set_cons_zero]
          refine wpAnyH_take (i := 2) (v := ?v3156) rfl (by kernel_rfl) (by kernel_rfl) (by kernel_rfl) (fun _ _ _ h => h) (Or.inl ⟨by rfl, ?y3156⟩) hHeld ?r3156
          case y3156 => ((intro W hSw; go_simp) <;> with_reducible rfl)
          try simp only [Act.put]
          try simp only [List.getElem_toArray]
          try simp only [List.getElem_cons_succ]
          try simp only [List.getElem_cons_zero]
          try simp only [List.setIfInBounds_toArray]
          try simp only [List.set_cons_succ]
          try simp only [List.set_cons_zero]
          refine wpAnyH_take (i := 5) (v := ?v3157) rfl (by kernel_rfl) (by kernel_rfl) (by kernel_rfl) (fun _ _ _ h => h) (Or.inl ⟨by rfl, ?y3157⟩) hHeld ?r3157
          case y3157 => ((intro W hSw; go_simp) <;> with_reducible rfl)
          try simp only [Act.put]
          try simp only [List.getElem_toArray]
          try simp only [List.getElem_cons_succ]
          try simp only [List.getElem_cons_zero]
          try simp only [List.setIfInBounds_toArray]
          try simp only [List.set_cons_succ]
          try simp only [List.set_cons_zero]
          refine wpAnyH_take (i := 6) (v := ?v3158) rfl (by kernel_rfl) (by kernel_rfl) (by kernel_rfl) (fun _ _ _ h => h) (Or.inl ⟨by rfl, ?y3158⟩) hHeld ?r3158
          case y3158 => ((intro W hSw; go_simp) <;> with_reducible rfl)
          try simp only [Act.put]
          try simp only [List.getElem_toArray]
          try simp only [List.getElem_cons_succ]
          try simp only [List.getElem_cons_zero]
          try simp only [List.setIfInBounds_toArray]
          try simp only [List.set_cons_succ]
          try simp only [List.set_cons_zero]
          refine wpAnyH_take (i := 9) (v := ?v3159) rfl (by kernel_rfl) (by kernel_rfl) (by kernel_rfl) (fun _ _ _ h => h) (Or.inl ⟨by rfl, ?y3159⟩) hHeld ?r3159
          case y3159 => ((intro W hSw; go_simp) <;> with_reducible rfl)
          try simp only [Act.put]
          try simp only [List.getElem_toArray]
          try simp only [List.getElem_cons_succ]
          try simp only [List.getElem_cons_zero]
          try simp only [List.setIfInBounds_toArray]
          try simp only [List.set_cons_succ]
          try simp only [List.set_cons_zero]
          refine wpAnyH_take (i := 10) (v := ?v3160) rfl (by kernel_rfl) (by kernel_rfl) (by kernel_rfl) (fun _ _ _ h => h) (Or.inl ⟨by rfl, ?y3160⟩) hHeld ?r3160
          case y3160 => ((intro W hSw; go_simp) <;> with_reducible rfl)
          try simp only [Act.put]
          try simp only [List.getElem_toArray]
          try simp only [List.getElem_cons_succ]
          try simp only [List.getElem_cons_zero]
          try simp only [List.setIfInBounds_toArray]
          try simp only [List.set_cons_succ]
          try simp only [List.set_cons_zero]
          refine wpAnyH_take (i := 13) (v := ?v3161) rfl (by kernel_rfl) (by kernel_rfl) (by kernel_rfl) (fun _ _ _ h => h) (Or.inl ⟨by rfl, ?y3161⟩) hHeld ?r3161
          case y3161 => ((intro W hSw; go_simp) <;> with_reducible rfl)
          try simp only [Act.put]
          try simp only [List.getElem_toArray]
          try simp only [List.getElem_cons_succ]
          try simp only [List.getElem_cons_zero]
          try simp only [List.setIfInBounds_toArray]
          try simp only [List.set_cons_succ]
          try simp only [List.set_cons_zero]
          refine wpAnyH_take (i := 14) (v := ?v3162) rfl (by kernel_rfl) (by kernel_rfl) (by kernel_rfl) (fun _ _ _ h => h) (Or.inl ⟨by rfl, ?y3162⟩) hHeld ?r3162
          case y3162 => ((intro W hSw; go_simp) <;> with_reducible rfl)
          try simp only [Act.put]
          try simp only [List.getElem_toArray]
          try simp only [List.getElem_cons_succ]
          try simp only [List.getElem_cons_zero]
          try simp only [List.setIfInBounds_toArray]
          try simp only [List.set_cons_succ]
          try simp only [List.set_cons_zero]
          refine wpAnyH_take (i := 17) (v := ?v3163) rfl (by kernel_rfl) (by kernel_rfl) (by kernel_rfl) (fun _ _ _ h => h) (Or.inl ⟨by rfl, ?y3163⟩) hHeld ?r3163
          case y3163 => ((intro W hSw; go_simp) <;> with_reducible rfl)
          try simp only [Act.put]
          try simp only [List.getElem_toArray]
          try simp only [List.getElem_cons_succ]
          try simp only [List.getElem_cons_zero]
          try simp only [List.setIfInBounds_toArray]
          try simp only [List.set_cons_succ]
          try simp only [List.set_cons_zero]
          refine wpAnyH_ready (rs := [1]) (by kernel_rfl) (by simp) ?_
          refine AllReadyH.cons rfl (fun K hK => ?_) AllReadyH.nil
          go_simp
          refine (refTold_int 1 (128 + (cl.length : Int)) _ (by omega) (by omega) (by omega)).mono ?_
          rintro e wd ⟨⟨td, rfl, htd, std⟩, hbtd⟩
          have Htd : Hid (td.data.toList = told ((128 + (cl.length : Int)) : Int).toNat 1) := htd
          have ztd : td.size ≤ 1 := by omega
          have bswd : w.heap.size < wd.heap.size := Nat.lt_of_lt_of_le bswr hbtd.size
          have Blwd : Hid (Below (w.heap.size + 1) (w.alloc (.cells #[.bool true, .int .i64 ty, .int .i64 nu, .int .i64 ti, .int .i64 so, .slice ao cl.length cap, .bool false, .int .i64 pr, .string en, .string py, .int .i64 pa] 33)) wd) := Bdwr.out.trans (hbtd.mono (Nat.succ_le_of_lt bswr))

          go_wp2_with fail
          refine hK.out _ _ (fun o => (hbtd.cell (p := ⟨w.heap.size, o, none⟩) bswr).trans (hHeld o)) (fun hHeld => ?_)
          clear hK K htd std hbtd
          refine wpAnyH_ready (rs := [3]) (by kernel_rfl) (by simp) ?_
          refine AllReadyH.cons rfl (fun K hK => ?_) AllReadyH.nil
          go_simp
          refine (refTold_int 1 (ty + 128) _ (by omega) (by omega) (by omega)).mono ?_
          rintro e we ⟨⟨te, rfl, hte, ste⟩, hbte⟩
          have Hte : Hid (te.data.toList = told ((ty + 128) : Int).toNat 1) := hte
          have zte : te.size ≤ 1 := by omega
          have bswe : w.heap.size < we.heap.size := Nat.lt_of_lt_of_le bswd hbte.size
          have Blwe : Hid (Below (w.heap.size + 1) (w.alloc (.cells #[.bool true, .int .i64 ty, .int .i64 nu, .int .i64 ti, .int .i64 so, .slice ao cl.length cap, .bool false, .int .i64 pr, .string en, .string py, .int .i64 pa] 33)) we) := Blwd.out.trans (hbte.mono (Nat.succ_le_of_lt bswd))
          have cate0 : ¬ 9223372036854775807 < td.size + te.size := by omega
          go_wp2_with fail
          refine hK.out _ _ (fun o => (hbte.cell (p := ⟨w.heap.size, o, none⟩) bswd).trans (hHeld o)) (fun hHeld => ?_)
          clear hK K hte ste hbte
          refine wpAnyH_take (i := 4) (v := ?v3164) rfl (by kernel_rfl) (by kernel_rfl) (by kernel_rfl) (fun _ _ _ h => h) (Or.inl ⟨by rfl, ?y3164⟩) hHeld ?r3164
          case y3164 => ((intro W hSw; go_simp) <;> with_reducible rfl)
          try simp only [Act.put]
          try simp only [List.getElem_toArray]
          try simp only [List.getElem_cons_succ]
          try simp only [List.getElem_cons_zero]
          try simp only [List.setIfInBounds_toArray]
          try simp only [List.set_cons_succ]
          try simp only [List.set_cons_zero]
          refine wpAnyH_ready (rs := [7]) (by kernel_rfl) (by simp) ?_
          refine AllReadyH.cons rfl (fun K hK => ?_) AllReadyH.nil
          go_simp
          refine (refTold_int 2 nu _ (by omega) (by omega) (by omega)).mono ?_
          rintro e wf ⟨⟨tf, rfl, htf, stf⟩, hbtf⟩
          have Htf : Hid (tf.data.toList = told (nu : Int).toNat 2) := htf
          have ztf : tf.size ≤ 2 := by omega
          have bswf : w.heap.size < wf.heap.size := Nat.lt_of_lt_of_le bswe hbtf.size
          have Blwf : Hid (Below (w.heap.size + 1) (w.alloc (.cells #[.bool true, .int .i64 ty, .int .i64 nu, .int .i64 ti, .int .i64 so, .slice ao cl.length cap, .bool false, .int .i64 pr, .string en, .string py, .int .i64 pa] 33)) wf) := Blwe.out.trans (hbtf.mono (Nat.succ_le_of_lt bswe))
          have catf0 : ¬ 9223372036854775807 < td.size + te.size + tf.size := by omega
          go_wp2_with fail
          refine hK.out _ _ (fun o => (hbtf.cell (p := ⟨w.heap.size, o, none⟩) bswe).trans (hHeld o)) (fun hHeld => ?_)
          clear hK K htf stf hbtf
          refine wpAnyH_take (i := 8) (v := ?v3165) rfl (by kernel_rfl) (by kernel_rfl) (by kernel_rfl) (fun _ _ _ h => h) (Or.inl ⟨by rfl, ?y3165⟩) hHeld ?r3165
          case y3165 => ((intro W hSw; go_simp) <;> with_reducible rfl)
          try simp only [Act.put]
          try simp only [List.getElem_toArray]
          try simp only [List.getElem_cons_succ]
          try simp only [List.getElem_cons_zero]
          try simp only [List.setIfInBounds_toArray]
          try simp only [List.set_cons_succ]
          try simp only [List.set_cons_zero]
          refine wpAnyH_ready (rs := [11]) (by kernel_rfl) (by simp) ?_
          refine AllReadyH.cons rfl (fun K hK => ?_) AllReadyH.nil
          go_simp
          refine (refTold_int 4 ti _ (by omega) (by omega) (by omega)).mono ?_
          rintro e wg ⟨⟨tg, rfl, htg, stg⟩, hbtg⟩
          have Htg : Hid (tg.data.toList = told (ti : Int).toNat 4) := htg
          have ztg : tg.size ≤ 4 := by omega
          have bswg : w.heap.size < wg.heap.size := Nat.lt_of_lt_of_le bswf hbtg.size
          have Blwg : Hid (Below (w.heap.size + 1) (w.alloc (.cells #[.bool true, .int .i64 ty, .int .i64 nu, .int .i64 ti, .int .i64 so, .slice ao cl.length cap, .bool false, .int .i64 pr, .string en, .string py, .int .i64 pa] 33)) wg) := Blwf.out.trans (hbtg.mono (Nat.succ_le_of_lt bswf))
          have catg0 : ¬ 9223372036854775807 < td.size + te.size + tf.size + tg.size := by omega
          go_wp2_with fail
          refine hK.out _ _ (fun o => (hbtg.cell (p := ⟨w.heap.size, o, none⟩) bswf).trans (hHeld o)) (fun hHeld => ?_)
          clear hK K htg stg hbtg
          refine wpAnyH_take (i := 12) (v := ?v3166) rfl (by kernel_rfl) (by kernel_rfl) (by kernel_rfl) (fun _ _ _ h => h) (Or.inl ⟨by rfl, ?y3166⟩) hHeld ?r3166
          case y3166 => ((intro W hSw; go_simp) <;> with_reducible rfl)
          try simp only [Act.put]
          try simp only [List.getElem_toArray]
          try simp only [List.getElem_cons_succ]
          try simp only [List.getElem_cons_zero]
          try simp only [List.setIfInBounds_toArray]
          try simp only [List.set_cons_succ]
          try simp only [List.set_cons_zero]
          refine wpAnyH_ready (rs := [15]) (by kernel_rfl) (by simp) ?_
          refine AllReadyH.cons rfl (fun K hK => ?_) AllReadyH.nil
          go_simp
          refine (refTold_int 4 so _ (by omega) (by omega) (by omega)).mono ?_
          rintro e wh ⟨⟨th, rfl, hth, sth⟩, hbth⟩
          have Hth : Hid (th.data.toList = told (so : Int).toNat 4) := hth
          have zth : th.size ≤ 4 := by omega
          have bswh : w.heap.size < wh.heap.size := Nat.lt_of_lt_of_le bswg hbth.size
          have Blwh : Hid (Below (w.heap.size + 1) (w.alloc (.cells #[.bool true, .int .i64 ty, .int .i64 nu, .int .i64 ti, .int .i64 so, .slice ao cl.length cap, .bool false, .int .i64 pr, .string en, .string py, .int .i64 pa] 33)) wh) := Blwg.out.trans (hbth.mono (Nat.succ_le_of_lt bswg))
          have cath0 : ¬ 9223372036854775807 < td.size + te.size + tf.size + tg.size + th.size := by omega
          have cath1 : ¬ 9223372036854775807 < td.size + te.size + tf.size + tg.size + th.size + (t.size + py.size) := by omega
          go_wp2_with fail
          refine hK.out _ _ (fun o => (hbth.cell (p := ⟨w.heap.size, o, none⟩) bswg).trans (hHeld o)) (fun hHeld => ?_)
          clear hK K hth sth hbth
          refine wpAnyH_take (i := 16) (v := ?v3167) rfl (by kernel_rfl) (by kernel_rfl) (by kernel_rfl) (fun _ _ _ h => h) (Or.inl ⟨by rfl, ?y3167⟩) hHeld ?r3167
          case y3167 => ((intro W hSw; go_simp) <;> with_reducible rfl)
          try simp only [Act.put]
          try simp only [List.getElem_toArray]
          try simp only [List.getElem_cons_succ]
          try simp only [List.getElem_cons_zero]
          try simp only [List.setIfInBounds_toArray]
          try simp only [List.set_cons_succ]
          try simp only [List.set_cons_zero]
          refine wpAnyH_take (i := 18) (v := ?v3168) rfl (by kernel_rfl) (by kernel_rfl) (by kernel_rfl) (fun _ _ _ h => h) (Or.inl ⟨by rfl, ?y3168⟩) hHeld ?r3168
          case y3168 => ((intro W hSw; go_simp) <;> with_reducible rfl)
          try simp only [Act.put]
          try simp only [List.getElem_toArray]
          try simp only [List.getElem_cons_succ]
          try simp only [List.getElem_cons_zero]
          try simp only [List.setIfInBounds_toArray]
          try simp only [List.set_cons_succ]
          try simp only [List.set_cons_zero]
          refine wpAnyH_take (i := 19) (v := ?v3169) rfl (by kernel_rfl) (by kernel_rfl) (by kernel_rfl) (fun _ _ _ h => h) (Or.inl ⟨by rfl, ?y3169⟩) hHeld ?r3169
          case y3169 => ((intro W hSw; go_simp) <;> with_reducible rfl)
          try simp only [Act.put]
          try simp only [List.getElem_toArray]
          try simp only [List.getElem_cons_succ]
          try simp only [List.getElem_cons_zero]
          try simp only [List.setIfInBounds_toArray]
          try simp only [List.set_cons_succ]
          try simp only [List.set_cons_zero]
          refine wpAnyH_done (by kernel_rfl) ?_ _
          refine NoPanic.normal ?_
          clear hcb
          have Hd : Hid (tellR true false ty nu ti so pr pa cl en py = if 1500 < (td ++ te ++ tf ++ tg ++ th ++ (t ++ py)).size then (⟨#[]⟩, 1) else (td ++ te ++ tf ++ tg ++ th ++ (t ++ py), 0)) := by
            refine tell_done _ (tellOk_of Hok.out hall.out) ?_
            simp only [append_list, Htd.out, Hte.out, Htf.out, Htg.out, Hth.out, htl.out]
            have hn : ¬ 0 < pa := by have := Hnp.out; omega
            have h := tells (mk := true) (py := py) Hok.out (128 + (cl.length : Int)) (ty + 128) [] [] (by simp [hn]) (by simp) (by simp [extB]) (by rw [show pa.toNat = 0 by have := Hnp.out; omega]; rfl)
            simpa only [List.append_assoc, List.append_nil, List.nil_append] using h
          have Bf : Hid (Below w.heap.size w wh) := ((Below.refl _ _).alloc (Nat.le_refl _) _).trans (Blwh.out.mono (by omega))
          by_cases hL : 1500 < td.size + te.size + tf.size + tg.size + th.size + (t.size + py.size)
          · have hL' : (1500 : Int) < td.size + te.size + tf.size + tg.size + th.size + (t.size + py.size) := by omega
            go_wp2
            go_ret2
            refine ⟨?_, Bf.out⟩
            rw [Hd.out, if_pos (by simpa [ByteArray.size_append] using hL)]
            rfl
          · have hL' : ¬ (1500 : Int) < td.size + te.size + tf.size + tg.size + th.size + (t.size + py.size) := by omega
            go_wp2
            go_ret2
            refine ⟨?_, Bf.out⟩
            rw [Hd.out, if_neg (by simpa [ByteArray.size_append] using hL)]
            rfl

end Go.Proofs.Ytdjhhnolcafkiaa
