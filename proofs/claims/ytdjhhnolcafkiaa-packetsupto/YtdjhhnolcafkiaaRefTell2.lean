/- The document's answer: TellPacket, with an extension. -/
import Derived.Test.YtdjhhnolcafkiaaRefTellH
namespace Go.Proofs.Ytdjhhnolcafkiaa
open Go.RowKit Pk

set_option maxRecDepth 100000 in
set_option maxHeartbeats 4000000 in
theorem refTell_ext (mk : Bool) (ty nu ti so pr pa : Int) (cv : Value) (cl : List Int) (en py : ByteArray) (w : World) (B : Nat) (hBw : B ≤ w.heap.size) (hv : IsInts B w cv cl)
    (hen : en.size ≤ 140737488355328) (hpy : py.size ≤ 140737488355328) (hok : firstOk true ty nu ti so pr pa cl.length en) :
    Calls Try.prog 36 #[.agg #[.bool mk, .int .i64 ty, .int .i64 nu, .int .i64 ti, .int .i64 so, cv, .bool true, .int .i64 pr, .string en, .string py, .int .i64 pa]] w
      fun e w' => e = .returned (.tuple #[.string (tellR mk true ty nu ti so pr pa cl en py).1, .int .i64 (tellR mk true ty nu ti so pr pa cl en py).2]) ∧ Below w.heap.size w w' := by
  have Hok : Hid (firstOk true ty nu ti so pr pa cl.length en) := hok
  obtain ⟨h1, h2, h3, h4, h5, h6, h7, h8, h9⟩ := hok
  have d1 : Hid (decide (0 ≤ ty ∧ ty ≤ 127) = true) := decide_eq_true h1
  have d2 : Hid (decide (0 ≤ nu ∧ nu ≤ 65535) = true) := decide_eq_true h2
  have d3 : Hid (decide (0 ≤ ti ∧ ti ≤ 4294967295) = true) := decide_eq_true h3
  have d4 : Hid (decide (0 ≤ so ∧ so ≤ 4294967295) = true) := decide_eq_true h4
  have d5 : Hid (decide (0 ≤ pr ∧ pr ≤ 65535) = true) := decide_eq_true h5
  have d6 : Hid (decide (0 ≤ pa ∧ pa ≤ 255) = true) := decide_eq_true h6
  have e7 : (cl.length : Int) ≤ 15 := by omega
  have e8 : ((en.size : Int) % 4 != 0) = false := by rw [bne_eq_false_iff_eq]; omega
  have H9 : Hid (true = false → pr = 0 ∧ en.size = 0) := h9
  obtain ⟨ao, cap, rfl, hc⟩ := hv
  have Hc : Hid (∀ j, j < cl.length → ∃ b off, ao = some ⟨b, off, none⟩ ∧ b < B ∧ w.cell? ⟨b, off + j, none⟩ = some (.int .i64 (cl.getD j 0))) := hc
  clear hc h9
  go_enter Try.func36, Try.ntmps36
  go_wp2_with fail
  refine (refIn_any _ _ _).mono ?_; rintro e w' ⟨rfl, rfl⟩; rw [d1.out]
  go_wp2_with fail
  refine (refIn_any _ _ _).mono ?_; rintro e w' ⟨rfl, rfl⟩; rw [d2.out]
  go_wp2_with fail
  refine (refIn_any _ _ _).mono ?_; rintro e w' ⟨rfl, rfl⟩; rw [d3.out]
  go_wp2_with fail
  refine (refIn_any _ _ _).mono ?_; rintro e w' ⟨rfl, rfl⟩; rw [d4.out]
  go_wp2_with fail
  refine (refIn_any _ _ _).mono ?_; rintro e w' ⟨rfl, rfl⟩; rw [d5.out]
  go_wp2_with fail
  refine (refIn_any _ _ _).mono ?_; rintro e w' ⟨rfl, rfl⟩; rw [d6.out]
  go_wp2
  go_loopw [10, 11] (fun v i wr => ∃ (k : Nat) (t : ByteArray), k ≤ cl.length ∧ i = .int .i64 k ∧ v = .string t ∧ t.data.toList = conB (cl.take k) ∧ allIn (cl.take k) 4294967295 = true ∧ Below (w.heap.size + 1) (w.alloc (.cells #[.bool mk, .int .i64 ty, .int .i64 nu, .int .i64 ti, .int .i64 so, .slice ao cl.length cap, .bool true, .int .i64 pr, .string en, .string py, .int .i64 pa] 33)) wr) (fun _ i _ => cl.length - (intOf i).toNat)
  case atStart => exact ⟨0, ⟨#[]⟩, Nat.zero_le _, rfl, rfl, rfl, rfl, Below.refl _ _⟩
  case round =>
    obtain ⟨k, t, hk, rfl, rfl, ht, hin, hbx⟩ := hrel
    have Ht : Hid (t.data.toList = conB (cl.take k)) := ht
    have Hin : Hid (allIn (cl.take k) 4294967295 = true) := hin
    have hts : t.size ≤ 60 := by rw [Lib.size_eq, ht, conB_length, List.length_take]; omega
    have hcb := box_below hbx w.heap.size (by omega)
    have Hbx : Hid (Below (w.heap.size + 1) (w.alloc (.cells #[.bool mk, .int .i64 ty, .int .i64 nu, .int .i64 ti, .int .i64 so, .slice ao cl.length cap, .bool true, .int .i64 pr, .string en, .string py, .int .i64 pa] 33)) wr) := hbx
    have hbs : w.heap.size < wr.heap.size := by have := hbx.size; simp at this; omega
    clear ht hin hbx
    by_cases hlt : k < cl.length
    · obtain ⟨b, off, rfl, hbb, hcell⟩ := Hc.out k hlt
      have hcr : wr.cell? ⟨b, off + k, none⟩ = some (.int .i64 (cl.getD k 0)) := (Hbx.out.cell (p := ⟨b, off + k, none⟩) (by show b < _; omega)).trans ((World.cell?_alloc_lt _ _ _ (by show b < _; omega)).trans hcell)
      have Hs : Hid (allIn (cl.take (k + 1)) 4294967295 = decide (0 ≤ cl.getD k 0 ∧ cl.getD k 0 ≤ 4294967295)) := by
        show _ = _
        rw [allIn_take_succ cl k _ hlt, Hin.out, Bool.true_and]
      have Hct : Hid (conB (cl.take (k + 1)) = conB (cl.take k) ++ told (cl.getD k 0).toNat 4) := conB_take cl k hlt
      have hlt' : (k : Int) < cl.length := by omega
      clear hcell
      generalize cl.getD k 0 = q at *
      go_wp2_with fail
      refine (refIn_any _ _ _).mono ?_
      rintro e w' ⟨rfl, rfl⟩
      by_cases hq : 0 ≤ q ∧ q ≤ 4294967295
      · rw [decide_eq_true hq]
        go_wp2_with fail
        refine (refTold_int 4 q _ (by omega) (by omega) (by omega)).mono ?_
        rintro e w2 ⟨⟨t2, rfl, ht2, hs2⟩, hb2⟩
        have Ht2 : Hid (t2.data.toList = told q.toNat 4) := ht2
        have hcat : ¬ 9223372036854775807 < t.size + t2.size := by omega
        have Hb2 : Hid (Below w'.heap.size w' w2) := hb2
        clear ht2 hb2 hs2
        go_wp2
        go_roundw
        case rel => exact ⟨k + 1, t ++ t2, by omega, by go_num, rfl, by rw [append_list, Ht.out, Ht2.out, Hct.out], by rw [Hs.out]; exact decide_eq_true hq, Hbx.out.trans (Hb2.out.mono (by omega))⟩
        case measure => simp [intOf]; omega
      · rw [decide_eq_false hq]
        have HR : Hid (tellR mk true ty nu ti so pr pa cl en py = (⟨#[]⟩, 2)) := tellR_no (by
          cases e : tellOk true ty nu ti so pr pa cl en with
          | false => rfl
          | true =>
            simp only [tellOk, headOk, Bool.and_eq_true] at e
            have h := allIn_false cl (k + 1) 4294967295 (by rw [Hs.out]; exact decide_eq_false hq)
            rw [e.1.1.2] at h; cases h)
        go_wp2
        go_ret2
        refine ⟨by rw [HR.out]; rfl, ?_⟩
        exact ((Below.refl _ _).alloc (Nat.le_refl _) _).trans (Hbx.out.mono (by omega))
    · have hall : Hid (allIn cl 4294967295 = true) := by
        have h := Hin.out
        rw [List.take_of_length_le (by omega)] at h
        exact h
      have htl : Hid (t.data.toList = conB cl) := by
        have h := Ht.out
        rw [List.take_of_length_le (by omega)] at h
        exact h
      have hlt' : ¬ (k : Int) < cl.length := by omega
      go_wp2
      have hwq : IntKind.i64.wrap ((en.size : Int) / 4) = (en.size : Int) / 4 := wrapI64 _ (by omega) (by omega)
      have bsW0 : w.heap.size < wr.heap.size := hbs
      have BlW0 : Hid (Below (w.heap.size + 1) (w.alloc (.cells #[.bool mk, .int .i64 ty, .int .i64 nu, .int .i64 ti, .int .i64 so, .slice ao cl.length cap, .bool true, .int .i64 pr, .string en, .string py, .int .i64 pa] 33)) wr.drew) := Hbx.out.drew
      refine wp_region_noPanic ?_
      refine wp_region_held_drew (S := fun W => ∀ o, W.cell? ⟨w.heap.size, o, none⟩ = (w.alloc (.cells #[.bool mk, .int .i64 ty, .int .i64 nu, .int .i64 ti, .int .i64 so, .slice ao cl.length cap, .bool true, .int .i64 pr, .string en, .string py, .int .i64 pa] 33)).cell? ⟨w.heap.size, o, none⟩) (by kernel_rfl) hcb (fun hHeld => ?_)
      refine wpAnyH_take (i := 0) (v := ?v3001) rfl (by kernel_rfl) (by kernel_rfl) (by kernel_rfl) (fun _ _ _ h => h) (Or.inl ⟨by rfl, ?y3001⟩) hHeld ?r3001
      case y3001 => ((intro W hSw; go_simp) <;> with_reducible rfl)
      try simp only [Act.put]
      try simp only [List.getElem_toArray]
      try simp only [List.getElem_cons_succ]
      try simp only [List.getElem_cons_zero]
      try simp only [List.setIfInBounds_toArray]
      try simp only [List.set_cons_succ]
      try simp only [List.set_cons_zero]
      refine wpAnyH_take (i := 1) (v := ?v3002) rfl (by kernel_rfl) (by kernel_rfl) (by kernel_rfl) (fun _ _ _ h => h) (Or.inl ⟨by rfl, ?y3002⟩) hHeld ?r3002
      case y3002 => ((intro W hSw; go_simp) <;> with_reducible rfl)
      try simp only [Act.put]
      try simp only [List.getElem_toArray]
      try simp only [List.getElem_cons_succ]
      try simp only [List.getElem_cons_zero]
      try simp only [List.setIfInBounds_toArray]
      try simp only [List.set_cons_succ]
      try simp only [List.set_cons_zero]
      refine wpAnyH_take (i := 2) (v := ?v3003) rfl (by kernel_rfl) (by kernel_rfl) (by kernel_rfl) (fun _ _ _ h => h) (Or.inl ⟨by rfl, ?y3003⟩) hHeld ?r3003
      case y3003 => ((intro W hSw; go_simp) <;> with_reducible rfl)
      try simp only [Act.put]
      try simp only [List.getElem_toArray]
      try simp only [List.getElem_cons_succ]
      try simp only [List.getElem_cons_zero]
      try simp only [List.setIfInBounds_toArray]
      try simp only [List.set_cons_succ]
      try simp only [List.set_cons_zero]
      refine wpAnyH_take (i := 5) (v := ?v3004) rfl (by kernel_rfl) (by kernel_rfl) (by kernel_rfl) (fun _ _ _ h => h) (Or.inl ⟨by rfl, ?y3004⟩) hHeld ?r3004
      case y3004 => ((intro W hSw; go_simp) <;> with_reducible rfl)
      try simp only [Act.put]
      try simp only [List.getElem_toArray]
      try simp only [List.getElem_cons_succ]
      try simp only [List.getElem_cons_zero]
      try simp only [List.setIfInBounds_toArray]
      try simp only [List.set_cons_succ]
      try simp only [List.set_cons_zero]
      refine wpAnyH_take (i := 6) (v := ?v3005) rfl (by kernel_rfl) (by kernel_rfl) (by kernel_rfl) (fun _ _ _ h => h) (Or.inl ⟨by rfl, ?y3005⟩) hHeld ?r3005
      case y3005 => ((intro W hSw; go_simp) <;> with_reducible rfl)
      try simp only [Act.put]
      try simp only [List.getElem_toArray]
      try simp only [List.getElem_cons_succ]
      try simp only [List.getElem_cons_zero]
      try simp only [List.setIfInBounds_toArray]
      try simp only [List.set_cons_succ]
      try simp only [List.set_cons_zero]
      refine wpAnyH_take (i := 7) (v := ?v3006) rfl (by kernel_rfl) (by kernel_rfl) (by kernel_rfl) (fun _ _ _ h => h) (Or.inl ⟨by rfl, ?y3006⟩) hHeld ?r3006
      case y3006 => ((intro W hSw; go_simp) <;> with_reducible rfl)
      try simp only [Act.put]
      try simp only [List.getElem_toArray]
      try simp only [List.getElem_cons_succ]
      try simp only [List.getElem_cons_zero]
      try simp only [List.setIfInBounds_toArray]
      try simp only [List.set_cons_succ]
      try simp only [List.set_cons_zero]
      refine wpAnyH_take (i := 8) (v := ?v3007) rfl (by kernel_rfl) (by kernel_rfl) (by kernel_rfl) (fun _ _ _ h => h) (Or.inl ⟨by rfl, ?y3007⟩) hHeld ?r3007
      case y3007 => ((intro W hSw; go_simp) <;> with_reducible rfl)
      try simp only [Act.put]
      try simp only [List.getElem_toArray]
      try simp only [List.getElem_cons_succ]
      try simp only [List.getElem_cons_zero]
      try simp only [List.setIfInBounds_toArray]
      try simp only [List.set_cons_succ]
      try simp only [List.set_cons_zero]
      refine wpAnyH_take (i := 11) (v := ?v3008) rfl (by kernel_rfl) (by kernel_rfl) (by kernel_rfl) (fun _ _ _ h => h) (Or.inl ⟨by rfl, ?y3008⟩) hHeld ?r3008
      case y3008 => ((intro W hSw; go_simp) <;> with_reducible rfl)
      try simp only [Act.put]
      try simp only [List.getElem_toArray]
      try simp only [List.getElem_cons_succ]
      try simp only [List.getElem_cons_zero]
      try simp only [List.setIfInBounds_toArray]
      try simp only [List.set_cons_succ]
      try simp only [List.set_cons_zero]
      refine wpAnyH_take (i := 12) (v := ?v3009) rfl (by kernel_rfl) (by kernel_rfl) (by kernel_rfl) (fun _ _ _ h => h) (Or.inl ⟨by rfl, ?y3009⟩) hHeld ?r3009
      case y3009 => ((intro W hSw; go_simp) <;> with_reducible rfl)
      try simp only [Act.put]
      try simp only [List.getElem_toArray]
      try simp only [List.getElem_cons_succ]
      try simp only [List.getElem_cons_zero]
      try simp only [List.setIfInBounds_toArray]
      try simp only [List.set_cons_succ]
      try simp only [List.set_cons_zero]
      refine wpAnyH_ready (rs := [3]) (by kernel_rfl) (by simp) ?_
      refine AllReadyH.cons rfl (fun K hK => ?_) AllReadyH.nil
      go_simp
      refine (refTold_int 2 pr _ (by omega) (by omega) (by omega)).mono ?_
      rintro e wa ⟨⟨ta, rfl, hta, sta⟩, hbta⟩
      have Hta : Hid (ta.data.toList = told (pr : Int).toNat 2) := hta
      have zta : ta.size ≤ 2 := by omega
      have bswa : w.heap.size < wa.heap.size := Nat.lt_of_lt_of_le bsW0 hbta.size
      have Blwa : Hid (Below (w.heap.size + 1) (w.alloc (.cells #[.bool mk, .int .i64 ty, .int .i64 nu, .int .i64 ti, .int .i64 so, .slice ao cl.length cap, .bool true, .int .i64 pr, .string en, .string py, .int .i64 pa] 33)) wa) := BlW0.out.trans (hbta.mono (Nat.succ_le_of_lt bsW0))
      have cata0 : ¬ 9223372036854775807 < t.size + ta.size := by omega
      go_wp2_with fail
      refine hK.out _ _ (fun o => (hbta.cell (p := ⟨w.heap.size, o, none⟩) bsW0).trans (hHeld o)) (fun hHeld => ?_)
      clear hK K hta sta hbta
      refine wpAnyH_take (i := 4) (v := ?v3010) rfl (by kernel_rfl) (by kernel_rfl) (by kernel_rfl) (fun _ _ _ h => h) (Or.inl ⟨by rfl, ?y3010⟩) hHeld ?r3010
      case y3010 => ((intro W hSw; go_simp) <;> with_reducible rfl)
      try simp only [Act.put]
      try simp only [List.getElem_toArray]
      try simp only [List.getElem_cons_succ]
      try simp only [List.getElem_cons_zero]
      try simp only [List.setIfInBounds_toArray]
      try simp only [List.set_cons_succ]
      try simp only [List.set_cons_zero]
      refine wpAnyH_ready (rs := [9]) (by kernel_rfl) (by simp) ?_
      refine AllReadyH.cons rfl (fun K hK => ?_) AllReadyH.nil
      go_simp
      refine (refTold_int 2 ((en.size : Int) / 4) _ (by omega) (by omega) (by omega)).mono ?_
      rintro e wb ⟨⟨tb, rfl, htb, stb⟩, hbtb⟩
      have Htb : Hid (tb.data.toList = told (((en.size : Int) / 4) : Int).toNat 2) := htb
      have ztb : tb.size ≤ 2 := by omega
      have bswb : w.heap.size < wb.heap.size := Nat.lt_of_lt_of_le bswa hbtb.size
      have Blwb : Hid (Below (w.heap.size + 1) (w.alloc (.cells #[.bool mk, .int .i64 ty, .int .i64 nu, .int .i64 ti, .int .i64 so, .slice ao cl.length cap, .bool true, .int .i64 pr, .string en, .string py, .int .i64 pa] 33)) wb) := Blwa.out.trans (hbtb.mono (Nat.succ_le_of_lt bswa))
      have catb0 : ¬ 9223372036854775807 < t.size + ta.size + tb.size := by omega
      have catb1 : ¬ 9223372036854775807 < t.size + ta.size + tb.size + en.size := by omega
      have catb2 : ¬ 9223372036854775807 < t.size + ta.size + tb.size + en.size + py.size := by omega
      go_wp2_with fail
      refine hK.out _ _ (fun o => (hbtb.cell (p := ⟨w.heap.size, o, none⟩) bswa).trans (hHeld o)) (fun hHeld => ?_)
      clear hK K htb stb hbtb
      refine wpAnyH_take (i := 10) (v := ?v3011) rfl (by kernel_rfl) (by kernel_rfl) (by kernel_rfl) (fun _ _ _ h => h) (Or.inl ⟨by rfl, ?y3011⟩) hHeld ?r3011
      case y3011 => ((intro W hSw; go_simp) <;> with_reducible rfl)
      try simp only [Act.put]
      try simp only [List.getElem_toArray]
      try simp only [List.getElem_cons_succ]
      try simp only [List.getElem_cons_zero]
      try simp only [List.setIfInBounds_toArray]
      try simp only [List.set_cons_succ]
      try simp only [List.set_cons_zero]
      refine wpAnyH_take (i := 13) (v := ?v3012) rfl (by kernel_rfl) (by kernel_rfl) (by kernel_rfl) (fun _ _ _ h => h) (Or.inl ⟨by rfl, ?y3012⟩) hHeld ?r3012
      case y3012 => ((intro W hSw; go_simp) <;> with_reducible rfl)
      try simp only [Act.put]
      try simp only [List.getElem_toArray]
      try simp only [List.getElem_cons_succ]
      try simp only [List.getElem_cons_zero]
      try simp only [List.setIfInBounds_toArray]
      try simp only [List.set_cons_succ]
      try simp only [List.set_cons_zero]
      refine wpAnyH_take (i := 14) (v := ?v3013) rfl (by kernel_rfl) (by kernel_rfl) (by kernel_rfl) (fun _ _ _ h => h) (Or.inl ⟨by rfl, ?y3013⟩) hHeld ?r3013
      case y3013 => ((intro W hSw; go_simp) <;> with_reducible rfl)
      try simp only [Act.put]
      try simp only [List.getElem_toArray]
      try simp only [List.getElem_cons_succ]
      try simp only [List.getElem_cons_zero]
      try simp only [List.setIfInBounds_toArray]
      try simp only [List.set_cons_succ]
      try simp only [List.set_cons_zero]
      refine wpAnyH_done (by kernel_rfl) ?_ _
      refine NoPanic.normal ?_
      clear hcb
      cases mk
      · by_cases hp0 : 0 < pa
        · have hnp : 0 < pa := hp0
          have Hnp : Hid (0 < pa) := hp0
          go_wp2
          have hcb : ∀ o, wb.cell? ⟨w.heap.size, o, none⟩ = (w.alloc (.cells #[.bool false, .int .i64 ty, .int .i64 nu, .int .i64 ti, .int .i64 so, .slice ao cl.length cap, .bool true, .int .i64 pr, .string en, .string py, .int .i64 pa] 33)).cell? ⟨w.heap.size, o, none⟩ := fun o => Blwb.out.cell (p := ⟨w.heap.size, o, none⟩) (Nat.lt_succ_self _)
          have Bdwb : Hid (Below (w.heap.size + 1) (w.alloc (.cells #[.bool false, .int .i64 ty, .int .i64 nu, .int .i64 ti, .int .i64 so, .slice ao cl.length cap, .bool true, .int .i64 pr, .string en, .string py, .int .i64 pa] 33)) wb.drew) := Blwb.out.drew
          have bdwb : w.heap.size < wb.drew.heap.size := bswb
          have hwp : IntKind.i64.wrap (pa - 1) = pa - 1 := wrapI64 _ (by omega) (by omega)
          refine wp_region_noPanic ?_
          refine wp_region_held_drew (S := fun W => ∀ o, W.cell? ⟨w.heap.size, o, none⟩ = (w.alloc (.cells #[.bool false, .int .i64 ty, .int .i64 nu, .int .i64 ti, .int .i64 so, .slice ao cl.length cap, .bool true, .int .i64 pr, .string en, .string py, .int .i64 pa] 33)).cell? ⟨w.heap.size, o, none⟩) (by kernel_rfl) hcb (fun hHeld => ?_)
          refine wpAnyH_take (i := 0) (v := ?v3014) rfl (by kernel_rfl) (by kernel_rfl) (by kernel_rfl) (fun _ _ _ h => h) (Or.inl ⟨by rfl, ?y3014⟩) hHeld ?r3014
          case y3014 => ((intro W hSw; go_simp) <;> with_reducible rfl)
          try simp only [Act.put]
          try simp only [List.getElem_toArray]
          try simp only [List.getElem_cons_succ]
          try simp only [List.getElem_cons_zero]
          try simp only [List.setIfInBounds_toArray]
          try simp only [List.set_cons_succ]
          try simp only [List.set_cons_zero]
          refine wpAnyH_take (i := 1) (v := ?v3015) rfl (by kernel_rfl) (by kernel_rfl) (by kernel_rfl) (fun _ _ _ h => h) (Or.inl ⟨by rfl, ?y3015⟩) hHeld ?r3015
          case y3015 => ((intro W hSw; go_simp) <;> with_reducible rfl)
          try simp only [Act.put]
          try simp only [List.getElem_toArray]
          try simp only [List.getElem_cons_succ]
          try simp only [List.getElem_cons_zero]
          try simp only [List.setIfInBounds_toArray]
          try simp only [List.set_cons_succ]
          try simp only [List.set_cons_zero]
          refine wpAnyH_take (i := 2) (v := ?v3016) rfl (by kernel_rfl) (by kernel_rfl) (by kernel_rfl) (fun _ _ _ h => h) (Or.inl ⟨by rfl, ?y3016⟩) hHeld ?r3016
          case y3016 => ((intro W hSw; go_simp) <;> with_reducible rfl)
          try simp only [Act.put]
          try simp only [List.getElem_toArray]
          try simp only [List.getElem_cons_succ]
          try simp only [List.getElem_cons_zero]
          try simp only [List.setIfInBounds_toArray]
          try simp only [List.set_cons_succ]
          try simp only [List.set_cons_zero]
          refine wpAnyH_take (i := 3) (v := ?v3017) rfl (by kernel_rfl) (by kernel_rfl) (by kernel_rfl) (fun _ _ _ h => h) (Or.inl ⟨by rfl, ?y3017⟩) hHeld ?r3017
          case y3017 => ((intro W hSw; go_simp) <;> with_reducible rfl)
          try simp only [Act.put]
          try simp only [List.getElem_toArray]
          try simp only [List.getElem_cons_succ]
          try simp only [List.getElem_cons_zero]
          try simp only [List.setIfInBounds_toArray]
          try simp only [List.set_cons_succ]
          try simp only [List.set_cons_zero]
          refine wpAnyH_take (i := 6) (v := ?v3018) rfl (by kernel_rfl) (by kernel_rfl) (by kernel_rfl) (fun _ _ _ h => h) (Or.inl ⟨by rfl, ?y3018⟩) hHeld ?r3018
          case y3018 => ((intro W hSw; go_simp) <;> with_reducible rfl)
          try simp only [Act.put]
          try simp only [List.getElem_toArray]
          try simp only [List.getElem_cons_succ]
          try simp only [List.getElem_cons_zero]
          try simp only [List.setIfInBounds_toArray]
          try simp only [List.set_cons_succ]
          try simp only [List.set_cons_zero]
          refine wpAnyH_take (i := 7) (v := ?v3019) rfl (by kernel_rfl) (by kernel_rfl) (by kernel_rfl) (fun _ _ _ h => h) (Or.inl ⟨by rfl, ?y3019⟩) hHeld ?r3019
          case y3019 => ((intro W hSw; go_simp) <;> with_reducible rfl)
          try simp only [Act.put]
          try simp only [List.getElem_toArray]
          try simp only [List.getElem_cons_succ]
          try simp only [List.getElem_cons_zero]
          try simp only [List.setIfInBounds_toArray]
          try simp only [List.set_cons_succ]
          try simp only [List.set_cons_zero]
          refine wpAnyH_ready (rs := [4]) (by kernel_rfl) (by simp) ?_
          refine AllReadyH.cons rfl (fun K hK => ?_) AllReadyH.nil
          go_simp
          refine (refNoughts_int (pa - 1) _ (by omega) (by omega)).mono ?_
          rintro e wz ⟨⟨tz, rfl, htz, stz⟩, rfl⟩
          have Htz : Hid (tz.data.toList = List.replicate (pa - 1).toNat 0) := htz
          have catz0 : ¬ 9223372036854775807 < t.size + ta.size + tb.size + en.size + py.size + tz.size := by omega
          go_wp2_with fail
          refine hK.out _ _ (fun o => hHeld o) (fun hHeld => ?_)
          clear hK K htz
          refine wpAnyH_take (i := 5) (v := ?v3020) rfl (by kernel_rfl) (by kernel_rfl) (by kernel_rfl) (fun _ _ _ h => h) (Or.inl ⟨by rfl, ?y3020⟩) hHeld ?r3020
          case y3020 => ((intro W hSw; go_simp) <;> with_reducible rfl)
          try simp only [Act.put]
          try simp only [List.getElem_toArray]
          try simp only [List.getElem_cons_succ]
          try simp only [List.getElem_cons_zero]
          try simp only [List.setIfInBounds_toArray]
          try simp only [List.set_cons_succ]
          try simp only [List.set_cons_zero]
          refine wpAnyH_ready (rs := [8]) (by kernel_rfl) (by simp) ?_
          refine AllReadyH.cons rfl (fun K hK => ?_) AllReadyH.nil
          go_simp
          refine (refTold_int 1 pa _ (by omega) (by omega) (by omega)).mono ?_
          rintro e wp ⟨⟨tp, rfl, htp, stp⟩, hbtp⟩
          have Htp : Hid (tp.data.toList = told (pa : Int).toNat 1) := htp
          have ztp : tp.size ≤ 1 := by omega
          have bswp : w.heap.size < wp.heap.size := Nat.lt_of_lt_of_le bswb hbtp.size
          have Blwp : Hid (Below (w.heap.size + 1) (w.alloc (.cells #[.bool false, .int .i64 ty, .int .i64 nu, .int .i64 ti, .int .i64 so, .slice ao cl.length cap, .bool true, .int .i64 pr, .string en, .string py, .int .i64 pa] 33)) wp) := Bdwb.out.trans (hbtp.mono (Nat.succ_le_of_lt bswb))
          have catp0 : ¬ 9223372036854775807 < t.size + ta.size + tb.size + en.size + py.size + tz.size + tp.size := by omega
          go_wp2_with fail
          refine hK.out _ _ (fun o => (hbtp.cell (p := ⟨w.heap.size, o, none⟩) bswb).trans (hHeld o)) (fun hHeld => ?_)
          clear hK K htp stp hbtp
          refine wpAnyH_take (i := 9) (v := ?v3021) rfl (by kernel_rfl) (by kernel_rfl) (by kernel_rfl) (fun _ _ _ h => h) (Or.inl ⟨by rfl, ?y3021⟩) hHeld ?r3021
          case y3021 => ((intro W hSw; go_simp) <;> with_reducible rfl)
          try simp only [Act.put]
          try simp only [List.getElem_toArray]
          try simp only [List.getElem_cons_succ]
          try simp only [List.getElem_cons_zero]
          try simp only [List.setIfInBounds_toArray]
          try simp only [List.set_cons_succ]
          try simp only [List.set_cons_zero]
          refine wpAnyH_take (i := 10) (v := ?v3022) rfl (by kernel_rfl) (by kernel_rfl) (by kernel_rfl) (fun _ _ _ h => h) (Or.inl ⟨by rfl, ?y3022⟩) hHeld ?r3022
          case y3022 => ((intro W hSw; go_simp) <;> with_reducible rfl)
          try simp only [Act.put]
          try simp only [List.getElem_toArray]
          try simp only [List.getElem_cons_succ]
          try simp only [List.getElem_cons_zero]
          try simp only [List.setIfInBounds_toArray]
          try simp only [List.set_cons_succ]
          try simp only [List.set_cons_zero]
          refine wpAnyH_done (by kernel_rfl) ?_ _
          refine NoPanic.normal ?_
          clear hcb
          go_wp2
          have hcb : ∀ o, wp.cell? ⟨w.heap.size, o, none⟩ = (w.alloc (.cells #[.bool false, .int .i64 ty, .int .i64 nu, .int .i64 ti, .int .i64 so, .slice ao cl.length cap, .bool true, .int .i64 pr, .string en, .string py, .int .i64 pa] 33)).cell? ⟨w.heap.size, o, none⟩ := fun o => Blwp.out.cell (p := ⟨w.heap.size, o, none⟩) (Nat.lt_succ_self _)
          have Bdwp : Hid (Below (w.heap.size + 1) (w.alloc (.cells #[.bool false, .int .i64 ty, .int .i64 nu, .int .i64 ti, .int .i64 so, .slice ao cl.length cap, .bool true, .int .i64 pr, .string en, .string py, .int .i64 pa] 33)) wp.drew) := Blwp.out.drew
          have bdwp : w.heap.size < wp.drew.heap.size := bswp
          refine wp_region_noPanic ?_
          refine wp_region_held_drew (S := fun W => ∀ o, W.cell? ⟨w.heap.size, o, none⟩ = (w.alloc (.cells #[.bool false, .int .i64 ty, .int .i64 nu, .int .i64 ti, .int .i64 so, .slice ao cl.length cap, .bool true, .int .i64 pr, .string en, .string py, .int .i64 pa] 33)).cell? ⟨w.heap.size, o, none⟩) (by kernel_rfl) hcb (fun hHeld => ?_)
          refine wpAnyH_take (i := 0) (v := ?v3023) rfl (by kernel_rfl) (by kernel_rfl) (by kernel_rfl) (fun _ _ _ h => h) (Or.inl ⟨by rfl, ?y3023⟩) hHeld ?r3023
          case y3023 => ((intro W hSw; go_simp) <;> with_reducible rfl)
          try simp only [Act.put]
          try simp only [List.getElem_toArray]
          try simp only [List.getElem_cons_succ]
          try simp only [List.getElem_cons_zero]
          try simp only [List.setIfInBounds_toArray]
          try simp only [List.set_cons_succ]
          try simp only [List.set_cons_zero]
          refine wpAnyH_take (i := 2) (v := ?v3024) rfl (by kernel_rfl) (by kernel_rfl) (by kernel_rfl) (fun _ _ _ h => h) (Or.inl ⟨by rfl, ?y3024⟩) hHeld ?r3024
          case y3024 => ((intro W hSw; go_simp) <;> with_reducible rfl)
          try simp only [Act.put]
          try simp only [List.getElem_toArray]
          try simp only [List.getElem_cons_succ]
          try simp only [List.getElem_cons_zero]
          try simp only [List.setIfInBounds_toArray]
          try simp only [List.set_cons_succ]
          try simp only [List.set_cons_zero]
          refine wpAnyH_take (i := 5) (v := ?v3025) rfl (by kernel_rfl) (by kernel_rfl) (by kernel_rfl) (fun _ _ _ h => h) (Or.inl ⟨by rfl, ?y3025⟩) hHeld ?r3025
          case y3025 => ((intro W hSw; go_simp) <;> with_reducible rfl)
          try simp only [Act.put]
          try simp only [List.getElem_toArray]
          try simp only [List.getElem_cons_succ]
          try simp only [List.getElem_cons_zero]
          try simp only [List.setIfInBounds_toArray]
          try simp only [List.set_cons_succ]
          try simp only [List.set_cons_zero]
          refine wpAnyH_take (i := 6) (v := ?v3026) rfl (by kernel_rfl) (by kernel_rfl) (by kernel_rfl) (fun _ _ _ h => h) (Or.inl ⟨by rfl, ?y3026⟩) hHeld ?r3026
          case y3026 => ((intro W hSw; go_simp) <;> with_reducible rfl)
          try simp only [Act.put]
          try simp only [List.getElem_toArray]
          try simp only [List.getElem_cons_succ]
          try simp only [List.getElem_cons_zero]
          try simp only [List.setIfInBounds_toArray]
          try simp only [List.set_cons_succ]
          try simp only [List.set_cons_zero]
          refine wpAnyH_take (i := 9) (v := ?v3027) rfl (by kernel_rfl) (by kernel_rfl) (by kernel_rfl) (fun _ _ _ h => h) (Or.inl ⟨by rfl, ?y3027⟩) hHeld ?r3027
          case y3027 => ((intro W hSw; go_simp) <;> with_reducible rfl)
          try simp only [Act.put]
          try simp only [List.getElem_toArray]
          try simp only [List.getElem_cons_succ]
          try simp only [List.getElem_cons_zero]
          try simp only [List.setIfInBounds_toArray]
          try simp only [List.set_cons_succ]
          try simp only [List.set_cons_zero]
          refine wpAnyH_take (i := 10) (v := ?v3028) rfl (by kernel_rfl) (by kernel_rfl) (by kernel_rfl) (fun _ _ _ h => h) (Or.inl ⟨by rfl, ?y3028⟩) hHeld ?r3028
          case y3028 => ((intro W hSw; go_simp) <;> with_reducible rfl)
          try simp only [Act.put]
          try simp only [List.getElem_toArray]
          try simp only [List.getElem_cons_succ]
          try simp only [List.getElem_cons_zero]
          try simp only [List.setIfInBounds_toArray]
          try simp only [List.set_cons_succ]
          try simp only [List.set_cons_zero]
          refine wpAnyH_take (i := 13) (v := ?v3029) rfl (by kernel_rfl) (by kernel_rfl) (by kernel_rfl) (fun _ _ _ h => h) (Or.inl ⟨by rfl, ?y3029⟩) hHeld ?r3029
          case y3029 => ((intro W hSw; go_simp) <;> with_reducible rfl)
          try simp only [Act.put]
          try simp only [List.getElem_toArray]
          try simp only [List.getElem_cons_succ]
          try simp only [List.getElem_cons_zero]
          try simp only [List.setIfInBounds_toArray]
          try simp only [List.set_cons_succ]
          try simp only [List.set_cons_zero]
          refine wpAnyH_take (i := 14) (v := ?v3030) rfl (by kernel_rfl) (by kernel_rfl) (by kernel_rfl) (fun _ _ _ h => h) (Or.inl ⟨by rfl, ?y3030⟩) hHeld ?r3030
          case y3030 => ((intro W hSw; go_simp) <;> with_reducible rfl)
          try simp only [Act.put]
          try simp only [List.getElem_toArray]
          try simp only [List.getElem_cons_succ]
          try simp only [List.getElem_cons_zero]
          try simp only [List.setIfInBounds_toArray]
          try simp only [List.set_cons_succ]
          try simp only [List.set_cons_zero]
          refine wpAnyH_take (i := 17) (v := ?v3031) rfl (by kernel_rfl) (by kernel_rfl) (by kernel_rfl) (fun _ _ _ h => h) (Or.inl ⟨by rfl, ?y3031⟩) hHeld ?r3031
          case y3031 => ((intro W hSw; go_simp) <;> with_reducible rfl)
          try simp only [Act.put]
          try simp only [List.getElem_toArray]
          try simp only [List.getElem_cons_succ]
          try simp only [List.getElem_cons_zero]
          try simp only [List.setIfInBounds_toArray]
          try simp only [List.set_cons_succ]
          try simp only [List.set_cons_zero]
          refine wpAnyH_ready (rs := [1]) (by kernel_rfl) (by simp) ?_
          refine AllReadyH.cons rfl (fun K hK => ?_) AllReadyH.nil
          go_simp
          refine (refTold_int 1 (128 + (cl.length : Int) + 16 + 32) _ (by omega) (by omega) (by omega)).mono ?_
          rintro e wd ⟨⟨td, rfl, htd, std⟩, hbtd⟩
          have Htd : Hid (td.data.toList = told ((128 + (cl.length : Int) + 16 + 32) : Int).toNat 1) := htd
          have ztd : td.size ≤ 1 := by omega
          have bswd : w.heap.size < wd.heap.size := Nat.lt_of_lt_of_le bswp hbtd.size
          have Blwd : Hid (Below (w.heap.size + 1) (w.alloc (.cells #[.bool false, .int .i64 ty, .int .i64 nu, .int .i64 ti, .int .i64 so, .slice ao cl.length cap, .bool true, .int .i64 pr, .string en, .string py, .int .i64 pa] 33)) wd) := Bdwp.out.trans (hbtd.mono (Nat.succ_le_of_lt bswp))

          go_wp2_with fail
          refine hK.out _ _ (fun o => (hbtd.cell (p := ⟨w.heap.size, o, none⟩) bswp).trans (hHeld o)) (fun hHeld => ?_)
          clear hK K htd std hbtd
          refine wpAnyH_ready (rs := [3]) (by kernel_rfl) (by simp) ?_
          refine AllReadyH.cons rfl (fun K hK => ?_) AllReadyH.nil
          go_simp
          refine (refTold_int 1 ty _ (by omega) (by omega) (by omega)).mono ?_
          rintro e we ⟨⟨te, rfl, hte, ste⟩, hbte⟩
          have Hte : Hid (te.data.toList = told (ty : Int).toNat 1) := hte
          have zte : te.size ≤ 1 := by omega
          have bswe : w.heap.size < we.heap.size := Nat.lt_of_lt_of_le bswd hbte.size
          have Blwe : Hid (Below (w.heap.size + 1) (w.alloc (.cells #[.bool false, .int .i64 ty, .int .i64 nu, .int .i64 ti, .int .i64 so, .slice ao cl.length cap, .bool true, .int .i64 pr, .string en, .string py, .int .i64 pa] 33)) we) := Blwd.out.trans (hbte.mono (Nat.succ_le_of_lt bswd))
          have cate0 : ¬ 9223372036854775807 < td.size + te.size := by omega
          go_wp2_with fail
          refine hK.out _ _ (fun o => (hbte.cell (p := ⟨w.heap.size, o, none⟩) bswd).trans (hHeld o)) (fun hHeld => ?_)
          clear hK K hte ste hbte
          refine wpAnyH_take (i := 4) (v := ?v3032) rfl (by kernel_rfl) (by kernel_rfl) (by kernel_rfl) (fun _ _ _ h => h) (Or.inl ⟨by rfl, ?y3032⟩) hHeld ?r3032
          case y3032 => ((intro W hSw; go_simp) <;> with_reducible rfl)
          try simp only [Act.put]
          try simp only [List.getElem_toArray]
          try simp only [List.getElem_cons_succ]
          try simp only [List.getElem_cons_zero]
          try simp only [List.setIfInBounds_toArray]
          try simp only [List.set_cons_succ]
          try simp only [List.set_cons_zero]
          refine wpAnyH_ready (rs := [7]) (by kernel_rfl) (by simp) ?_
          refine AllReadyH.cons rfl (fun K hK => ?_) AllReadyH.nil
          go_simp
          refine (refTold_int 2 nu _ (by omega) (by omega) (by omega)).mono ?_
          rintro e wf ⟨⟨tf, rfl, htf, stf⟩, hbtf⟩
          have Htf : Hid (tf.data.toList = told (nu : Int).toNat 2) := htf
          have ztf : tf.size ≤ 2 := by omega
          have bswf : w.heap.size < wf.heap.size := Nat.lt_of_lt_of_le bswe hbtf.size
          have Blwf : Hid (Below (w.heap.size + 1) (w.alloc (.cells #[.bool false, .int .i64 ty, .int .i64 nu, .int .i64 ti, .int .i64 so, .slice ao cl.length cap, .bool true, .int .i64 pr, .string en, .string py, .int .i64 pa] 33)) wf) := Blwe.out.trans (hbtf.mono (Nat.succ_le_of_lt bswe))
          have catf0 : ¬ 9223372036854775807 < td.size + te.size + tf.size := by omega
          go_wp2_with fail
          refine hK.out _ _ (fun o => (hbtf.cell (p := ⟨w.heap.size, o, none⟩) bswe).trans (hHeld o)) (fun hHeld => ?_)
          clear hK K htf stf hbtf
          refine wpAnyH_take (i := 8) (v := ?v3033) rfl (by kernel_rfl) (by kernel_rfl) (by kernel_rfl) (fun _ _ _ h => h) (Or.inl ⟨by rfl, ?y3033⟩) hHeld ?r3033
          case y3033 => ((intro W hSw; go_simp) <;> with_reducible rfl)
          try simp only [Act.put]
          try simp only [List.getElem_toArray]
          try simp only [List.getElem_cons_succ]
          try simp only [List.getElem_cons_zero]
          try simp only [List.setIfInBounds_toArray]
          try simp only [List.set_cons_succ]
          try simp only [List.set_cons_zero]
          refine wpAnyH_ready (rs := [11]) (by kernel_rfl) (by simp) ?_
          refine AllReadyH.cons rfl (fun K hK => ?_) AllReadyH.nil
          go_simp
          refine (refTold_int 4 ti _ (by omega) (by omega) (by omega)).mono ?_
          rintro e wg ⟨⟨tg, rfl, htg, stg⟩, hbtg⟩
          have Htg : Hid (tg.data.toList = told (ti : Int).toNat 4) := htg
          have ztg : tg.size ≤ 4 := by omega
          have bswg : w.heap.size < wg.heap.size := Nat.lt_of_lt_of_le bswf hbtg.size
          have Blwg : Hid (Below (w.heap.size + 1) (w.alloc (.cells #[.bool false, .int .i64 ty, .int .i64 nu, .int .i64 ti, .int .i64 so, .slice ao cl.length cap, .bool true, .int .i64 pr, .string en, .string py, .int .i64 pa] 33)) wg) := Blwf.out.trans (hbtg.mono (Nat.succ_le_of_lt bswf))
          have catg0 : ¬ 9223372036854775807 < td.size + te.size + tf.size + tg.size := by omega
          go_wp2_with fail
          refine hK.out _ _ (fun o => (hbtg.cell (p := ⟨w.heap.size, o, none⟩) bswf).trans (hHeld o)) (fun hHeld => ?_)
          clear hK K htg stg hbtg
          refine wpAnyH_take (i := 12) (v := ?v3034) rfl (by kernel_rfl) (by kernel_rfl) (by kernel_rfl) (fun _ _ _ h => h) (Or.inl ⟨by rfl, ?y3034⟩) hHeld ?r3034
          case y3034 => ((intro W hSw; go_simp) <;> with_reducible rfl)
          try simp only [Act.put]
          try simp only [List.getElem_toArray]
          try simp only [List.getElem_cons_succ]
          try simp only [List.getElem_cons_zero]
          try simp only [List.setIfInBounds_toArray]
          try simp only [List.set_cons_succ]
          try simp only [List.set_cons_zero]
          refine wpAnyH_ready (rs := [15]) (by kernel_rfl) (by simp) ?_
          refine AllReadyH.cons rfl (fun K hK => ?_) AllReadyH.nil
          go_simp
          refine (refTold_int 4 so _ (by omega) (by omega) (by omega)).mono ?_
          rintro e wh ⟨⟨th, rfl, hth, sth⟩, hbth⟩
          have Hth : Hid (th.data.toList = told (so : Int).toNat 4) := hth
          have zth : th.size ≤ 4 := by omega
          have bswh : w.heap.size < wh.heap.size := Nat.lt_of_lt_of_le bswg hbth.size
          have Blwh : Hid (Below (w.heap.size + 1) (w.alloc (.cells #[.bool false, .int .i64 ty, .int .i64 nu, .int .i64 ti, .int .i64 so, .slice ao cl.length cap, .bool true, .int .i64 pr, .string en, .string py, .int .i64 pa] 33)) wh) := Blwg.out.trans (hbth.mono (Nat.succ_le_of_lt bswg))
          have cath0 : ¬ 9223372036854775807 < td.size + te.size + tf.size + tg.size + th.size := by omega
          have cath1 : ¬ 9223372036854775807 < td.size + te.size + tf.size + tg.size + th.size + (t.size + ta.size + tb.size + en.size + py.size + tz.size + tp.size) := by omega
          go_wp2_with fail
          refine hK.out _ _ (fun o => (hbth.cell (p := ⟨w.heap.size, o, none⟩) bswg).trans (hHeld o)) (fun hHeld => ?_)
          clear hK K hth sth hbth
          refine wpAnyH_take (i := 16) (v := ?v3035) rfl (by kernel_rfl) (by kernel_rfl) (by kernel_rfl) (fun _ _ _ h => h) (Or.inl ⟨by rfl, ?y3035⟩) hHeld ?r3035
          case y3035 => ((intro W hSw; go_simp) <;> with_reducible rfl)
          try simp only [Act.put]
          try simp only [List.getElem_toArray]
          try simp only [List.getElem_cons_succ]
          try simp only [List.getElem_cons_zero]
          try simp only [List.setIfInBounds_toArray]
          try simp only [List.set_cons_succ]
          try simp only [List.set_cons_zero]
          refine wpAnyH_take (i := 18) (v := ?v3036) rfl (by kernel_rfl) (by kernel_rfl) (by kernel_rfl) (fun _ _ _ h => h) (Or.inl ⟨by rfl, ?y3036⟩) hHeld ?r3036
          case y3036 => ((intro W hSw; go_simp) <;> with_reducible rfl)
          try simp only [Act.put]
          try simp only [List.getElem_toArray]
          try simp only [List.getElem_cons_succ]
          try simp only [List.getElem_cons_zero]
          try simp only [List.setIfInBounds_toArray]
          try simp only [List.set_cons_succ]
          try simp only [List.set_cons_zero]
          refine wpAnyH_take (i := 19) (v := ?v3037) rfl (by kernel_rfl) (by kernel_rfl) (by kernel_rfl) (fun _ _ _ h => h) (Or.inl ⟨by rfl, ?y3037⟩) hHeld ?r3037
          case y3037 => ((intro W hSw; go_simp) <;> with_reducible rfl)
          try simp only [Act.put]
          try simp only [List.getElem_toArray]
          try simp only [List.getElem_cons_succ]
          try simp only [List.getElem_cons_zero]
          try simp only [List.setIfInBounds_toArray]
          try simp only [List.set_cons_succ]
          try simp only [List.set_cons_zero]
          refine wpAnyH_done (by kernel_rfl) ?_ _
          refine NoPanic.normal ?_
          clear hcb
          have Hd : Hid (tellR false true ty nu ti so pr pa cl en py = if 1500 < (td ++ te ++ tf ++ tg ++ th ++ (t ++ ta ++ tb ++ en ++ py ++ tz ++ tp)).size then (⟨#[]⟩, 1) else (td ++ te ++ tf ++ tg ++ th ++ (t ++ ta ++ tb ++ en ++ py ++ tz ++ tp), 0)) := by
            refine tell_done _ (tellOk_of Hok.out hall.out) ?_
            simp only [append_list, Htd.out, Hte.out, Htf.out, Htg.out, Hth.out, htl.out, Hta.out, Htb.out, Htz.out, Htp.out]
            have hn : 0 < pa := by have := Hnp.out; omega
            have h := tells (mk := false) (py := py) Hok.out (128 + (cl.length : Int) + 16 + 32) ty (told pr.toNat 2 ++ told ((en.size : Int) / 4).toNat 2 ++ en.data.toList) (List.replicate (pa - 1).toNat 0 ++ told pa.toNat 1) (by simp [hn]) (by simp) (by unfold extB; rw [if_pos rfl, ← Lib.size_eq, show ((en.size : Int) / 4).toNat = en.size / 4 by omega]) (by unfold padB; rw [if_neg (by have := Hnp.out; omega), told_one _ (by omega), show (pa - 1).toNat = pa.toNat - 1 by omega])
            simpa only [List.append_assoc, List.append_nil, List.nil_append] using h
          have Bf : Hid (Below w.heap.size w wh) := ((Below.refl _ _).alloc (Nat.le_refl _) _).trans (Blwh.out.mono (by omega))
          by_cases hL : 1500 < td.size + te.size + tf.size + tg.size + th.size + (t.size + ta.size + tb.size + en.size + py.size + tz.size + tp.size)
          · have hL' : (1500 : Int) < td.size + te.size + tf.size + tg.size + th.size + (t.size + ta.size + tb.size + en.size + py.size + tz.size + tp.size) := by omega
            go_wp2
            go_ret2
            refine ⟨?_, Bf.out⟩
            rw [Hd.out, if_pos (by simpa [ByteArray.size_append] using hL)]
            rfl
          · have hL' : ¬ (1500 : Int) < td.size + te.size + tf.size + tg.size + th.size + (t.size + ta.size + tb.size + en.size + py.size + tz.size + tp.size) := by omega
            go_wp2
            go_ret2
            refine ⟨?_, Bf.out⟩
            rw [Hd.out, if_neg (by simpa [ByteArray.size_append] using hL)]
            rfl
        · have hnp : ¬ 0 < pa := hp0
          have Hnp : Hid (¬ 0 < pa) := hp0
          go_wp2
          have hcb : ∀ o, wb.cell? ⟨w.heap.size, o, none⟩ = (w.alloc (.cells #[.bool false, .int .i64 ty, .int .i64 nu, .int .i64 ti, .int .i64 so, .slice ao cl.length cap, .bool true, .int .i64 pr, .string en, .string py, .int .i64 pa] 33)).cell? ⟨w.heap.size, o, none⟩ := fun o => Blwb.out.cell (p := ⟨w.heap.size, o, none⟩) (Nat.lt_succ_self _)
          have Bdwb : Hid (Below (w.heap.size + 1) (w.alloc (.cells #[.bool false, .int .i64 ty, .int .i64 nu, .int .i64 ti, .int .i64 so, .slice ao cl.length cap, .bool true, .int .i64 pr, .string en, .string py, .int .i64 pa] 33)) wb.drew) := Blwb.out.drew
          have bdwb : w.heap.size < wb.drew.heap.size := bswb
          refine wp_region_noPanic ?_
          refine wp_region_held_drew (S := fun W => ∀ o, W.cell? ⟨w.heap.size, o, none⟩ = (w.alloc (.cells #[.bool false, .int .i64 ty, .int .i64 nu, .int .i64 ti, .int .i64 so, .slice ao cl.length cap, .bool true, .int .i64 pr, .string en, .string py, .int .i64 pa] 33)).cell? ⟨w.heap.size, o, none⟩) (by kernel_rfl) hcb (fun hHeld => ?_)
          refine wpAnyH_take (i := 0) (v := ?v3038) rfl (by kernel_rfl) (by kernel_rfl) (by kernel_rfl) (fun _ _ _ h => h) (Or.inl ⟨by rfl, ?y3038⟩) hHeld ?r3038
          case y3038 => ((intro W hSw; go_simp) <;> with_reducible rfl)
          try simp only [Act.put]
          try simp only [List.getElem_toArray]
          try simp only [List.getElem_cons_succ]
          try simp only [List.getElem_cons_zero]
          try simp only [List.setIfInBounds_toArray]
          try simp only [List.set_cons_succ]
          try simp only [List.set_cons_zero]
          refine wpAnyH_take (i := 2) (v := ?v3039) rfl (by kernel_rfl) (by kernel_rfl) (by kernel_rfl) (fun _ _ _ h => h) (Or.inl ⟨by rfl, ?y3039⟩) hHeld ?r3039
          case y3039 => ((intro W hSw; go_simp) <;> with_reducible rfl)
          try simp only [Act.put]
          try simp only [List.getElem_toArray]
          try simp only [List.getElem_cons_succ]
          try simp only [List.getElem_cons_zero]
          try simp only [List.setIfInBounds_toArray]
          try simp only [List.set_cons_succ]
          try simp only [List.set_cons_zero]
          refine wpAnyH_take (i := 5) (v := ?v3040) rfl (by kernel_rfl) (by kernel_rfl) (by kernel_rfl) (fun _ _ _ h => h) (Or.inl ⟨by rfl, ?y3040⟩) hHeld ?r3040
          case y3040 => ((intro W hSw; go_simp) <;> with_reducible rfl)
          try simp only [Act.put]
          try simp only [List.getElem_toArray]
          try simp only [List.getElem_cons_succ]
          try simp only [List.getElem_cons_zero]
          try simp only [List.setIfInBounds_toArray]
          try simp only [List.set_cons_succ]
          try simp only [List.set_cons_zero]
          refine wpAnyH_take (i := 6) (v := ?v3041) rfl (by kernel_rfl) (by kernel_rfl) (by kernel_rfl) (fun _ _ _ h => h) (Or.inl ⟨by rfl, ?y3041⟩) hHeld ?r3041
          case y3041 => ((intro W hSw; go_simp) <;> with_reducible rfl)
          try simp only [Act.put]
          try simp only [List.getElem_toArray]
          try simp only [List.getElem_cons_succ]
          try simp only [List.getElem_cons_zero]
          try simp only [List.setIfInBounds_toArray]
          try simp only [List.set_cons_succ]
          try simp only [List.set_cons_zero]
          refine wpAnyH_take (i := 9) (v := ?v3042) rfl (by kernel_rfl) (by kernel_rfl) (by kernel_rfl) (fun _ _ _ h => h) (Or.inl ⟨by rfl, ?y3042⟩) hHeld ?r3042
          case y3042 => ((intro W hSw; go_simp) <;> with_reducible rfl)
          try simp only [Act.put]
          try simp only [List.getElem_toArray]
          try simp only [List.getElem_cons_succ]
          try simp only [List.getElem_cons_zero]
          try simp only [List.setIfInBounds_toArray]
          try simp only [List.set_cons_succ]
          try simp only [List.set_cons_zero]
          refine wpAnyH_take (i := 10) (v := ?v3043) rfl (by kernel_rfl) (by kernel_rfl) (by kernel_rfl) (fun _ _ _ h => h) (Or.inl ⟨by rfl, ?y3043⟩) hHeld ?r3043
          case y3043 => ((intro W hSw; go_simp) <;> with_reducible rfl)
          try simp only [Act.put]
          try simp only [List.getElem_toArray]
          try simp only [List.getElem_cons_succ]
          try simp only [List.getElem_cons_zero]
          try simp only [List.setIfInBounds_toArray]
          try simp only [List.set_cons_succ]
          try simp only [List.set_cons_zero]
          refine wpAnyH_take (i := 13) (v := ?v3044) rfl (by kernel_rfl) (by kernel_rfl) (by kernel_rfl) (fun _ _ _ h => h) (Or.inl ⟨by rfl, ?y3044⟩) hHeld ?r3044
          case y3044 => ((intro W hSw; go_simp) <;> with_reducible rfl)
          try simp only [Act.put]
          try simp only [List.getElem_toArray]
          try simp only [List.getElem_cons_succ]
          try simp only [List.getElem_cons_zero]
          try simp only [List.setIfInBounds_toArray]
          try simp only [List.set_cons_succ]
          try simp only [List.set_cons_zero]
          refine wpAnyH_take (i := 14) (v := ?v3045) rfl (by kernel_rfl) (by kernel_rfl) (by kernel_rfl) (fun _ _ _ h => h) (Or.inl ⟨by rfl, ?y3045⟩) hHeld ?r3045
          case y3045 => ((intro W hSw; go_simp) <;> with_reducible rfl)
          try simp only [Act.put]
          try simp only [List.getElem_toArray]
          try simp only [List.getElem_cons_succ]
          try simp only [List.getElem_cons_zero]
          try simp only [List.setIfInBounds_toArray]
          try simp only [List.set_cons_succ]
          try simp only [List.set_cons_zero]
          refine wpAnyH_take (i := 17) (v := ?v3046) rfl (by kernel_rfl) (by kernel_rfl) (by kernel_rfl) (fun _ _ _ h => h) (Or.inl ⟨by rfl, ?y3046⟩) hHeld ?r3046
          case y3046 => ((intro W hSw; go_simp) <;> with_reducible rfl)
          try simp only [Act.put]
          try simp only [List.getElem_toArray]
          try simp only [List.getElem_cons_succ]
          try simp only [List.getElem_cons_zero]
          try simp only [List.setIfInBounds_toArray]
          try simp only [List.set_cons_succ]
          try simp only [List.set_cons_zero]
          refine wpAnyH_ready (rs := [1]) (by kernel_rfl) (by simp) ?_
          refine AllReadyH.cons rfl (fun K hK => ?_) AllReadyH.nil
          go_simp
          refine (refTold_int 1 (128 + (cl.length : Int) + 16) _ (by omega) (by omega) (by omega)).mono ?_
          rintro e wd ⟨⟨td, rfl, htd, std⟩, hbtd⟩
          have Htd : Hid (td.data.toList = told ((128 + (cl.length : Int) + 16) : Int).toNat 1) := htd
          have ztd : td.size ≤ 1 := by omega
          have bswd : w.heap.size < wd.heap.size := Nat.lt_of_lt_of_le bswb hbtd.size
          have Blwd : Hid (Below (w.heap.size + 1) (w.alloc (.cells #[.bool false, .int .i64 ty, .int .i64 nu, .int .i64 ti, .int .i64 so, .slice ao cl.length cap, .bool true, .int .i64 pr, .string en, .string py, .int .i64 pa] 33)) wd) := Bdwb.out.trans (hbtd.mono (Nat.succ_le_of_lt bswb))

          go_wp2_with fail
          refine hK.out _ _ (fun o => (hbtd.cell (p := ⟨w.heap.size, o, none⟩) bswb).trans (hHeld o)) (fun hHeld => ?_)
          clear hK K htd std hbtd
          refine wpAnyH_ready (rs := [3]) (by kernel_rfl) (by simp) ?_
          refine AllReadyH.cons rfl (fun K hK => ?_) AllReadyH.nil
          go_simp
          refine (refTold_int 1 ty _ (by omega) (by omega) (by omega)).mono ?_
          rintro e we ⟨⟨te, rfl, hte, ste⟩, hbte⟩
          have Hte : Hid (te.data.toList = told (ty : Int).toNat 1) := hte
          have zte : te.size ≤ 1 := by omega
          have bswe : w.heap.size < we.heap.size := Nat.lt_of_lt_of_le bswd hbte.size
          have Blwe : Hid (Below (w.heap.size + 1) (w.alloc (.cells #[.bool false, .int .i64 ty, .int .i64 nu, .int .i64 ti, .int .i64 so, .slice ao cl.length cap, .bool true, .int .i64 pr, .string en, .string py, .int .i64 pa] 33)) we) := Blwd.out.trans (hbte.mono (Nat.succ_le_of_lt bswd))
          have cate0 : ¬ 9223372036854775807 < td.size + te.size := by omega
          go_wp2_with fail
          refine hK.out _ _ (fun o => (hbte.cell (p := ⟨w.heap.size, o, none⟩) bswd).trans (hHeld o)) (fun hHeld => ?_)
          clear hK K hte ste hbte
          refine wpAnyH_take (i := 4) (v := ?v3047) rfl (by kernel_rfl) (by kernel_rfl) (by kernel_rfl) (fun _ _ _ h => h) (Or.inl ⟨by rfl, ?y3047⟩) hHeld ?r3047
          case y3047 => ((intro W hSw; go_simp) <;> with_reducible rfl)
          try simp only [Act.put]
          try simp only [List.getElem_toArray]
          try simp only [List.getElem_cons_succ]
          try simp only [List.getElem_cons_zero]
          try simp only [List.setIfInBounds_toArray]
          try simp only [List.set_cons_succ]
          try simp only [List.set_cons_zero]
          refine wpAnyH_ready (rs := [7]) (by kernel_rfl) (by simp) ?_
          refine AllReadyH.cons rfl (fun K hK => ?_) AllReadyH.nil
          go_simp
          refine (refTold_int 2 nu _ (by omega) (by omega) (by omega)).mono ?_
          rintro e wf ⟨⟨tf, rfl, htf, stf⟩, hbtf⟩
          have Htf : Hid (tf.data.toList = told (nu : Int).toNat 2) := htf
          have ztf : tf.size ≤ 2 := by omega
          have bswf : w.heap.size < wf.heap.size := Nat.lt_of_lt_of_le bswe hbtf.size
          have Blwf : Hid (Below (w.heap.size + 1) (w.alloc (.cells #[.bool false, .int .i64 ty, .int .i64 nu, .int .i64 ti, .int .i64 so, .slice ao cl.length cap, .bool true, .int .i64 pr, .string en, .string py, .int .i64 pa] 33)) wf) := Blwe.out.trans (hbtf.mono (Nat.succ_le_of_lt bswe))
          have catf0 : ¬ 9223372036854775807 < td.size + te.size + tf.size := by omega
          go_wp2_with fail
          refine hK.out _ _ (fun o => (hbtf.cell (p := ⟨w.heap.size, o, none⟩) bswe).trans (hHeld o)) (fun hHeld => ?_)
          clear hK K htf stf hbtf
          refine wpAnyH_take (i := 8) (v := ?v3048) rfl (by kernel_rfl) (by kernel_rfl) (by kernel_rfl) (fun _ _ _ h => h) (Or.inl ⟨by rfl, ?y3048⟩) hHeld ?r3048
          case y3048 => ((intro W hSw; go_simp) <;> with_reducible rfl)
          try simp only [Act.put]
          try simp only [List.getElem_toArray]
          try simp only [List.getElem_cons_succ]
          try simp only [List.getElem_cons_zero]
          try simp only [List.setIfInBounds_toArray]
          try simp only [List.set_cons_succ]
          try simp only [List.set_cons_zero]
          refine wpAnyH_ready (rs := [11]) (by kernel_rfl) (by simp) ?_
          refine AllReadyH.cons rfl (fun K hK => ?_) AllReadyH.nil
          go_simp
          refine (refTold_int 4 ti _ (by omega) (by omega) (by omega)).mono ?_
          rintro e wg ⟨⟨tg, rfl, htg, stg⟩, hbtg⟩
          have Htg : Hid (tg.data.toList = told (ti : Int).toNat 4) := htg
          have ztg : tg.size ≤ 4 := by omega
          have bswg : w.heap.size < wg.heap.size := Nat.lt_of_lt_of_le bswf hbtg.size
          have Blwg : Hid (Below (w.heap.size + 1) (w.alloc (.cells #[.bool false, .int .i64 ty, .int .i64 nu, .int .i64 ti, .int .i64 so, .slice ao cl.length cap, .bool true, .int .i64 pr, .string en, .string py, .int .i64 pa] 33)) wg) := Blwf.out.trans (hbtg.mono (Nat.succ_le_of_lt bswf))
          have catg0 : ¬ 9223372036854775807 < td.size + te.size + tf.size + tg.size := by omega
          go_wp2_with fail
          refine hK.out _ _ (fun o => (hbtg.cell (p := ⟨w.heap.size, o, none⟩) bswf).trans (hHeld o)) (fun hHeld => ?_)
          clear hK K htg stg hbtg
          refine wpAnyH_take (i := 12) (v := ?v3049) rfl (by kernel_rfl) (by kernel_rfl) (by kernel_rfl) (fun _ _ _ h => h) (Or.inl ⟨by rfl, ?y3049⟩) hHeld ?r3049
          case y3049 => ((intro W hSw; go_simp) <;> with_reducible rfl)
          try simp only [Act.put]
          try simp only [List.getElem_toArray]
          try simp only [List.getElem_cons_succ]
          try simp only [List.getElem_cons_zero]
          try simp only [List.setIfInBounds_toArray]
          try simp only [List.set_cons_succ]
          try simp only [List.set_cons_zero]
          refine wpAnyH_ready (rs := [15]) (by kernel_rfl) (by simp) ?_
          refine AllReadyH.cons rfl (fun K hK => ?_) AllReadyH.nil
          go_simp
          refine (refTold_int 4 so _ (by omega) (by omega) (by omega)).mono ?_
          rintro e wh ⟨⟨th, rfl, hth, sth⟩, hbth⟩
          have Hth : Hid (th.data.toList = told (so : Int).toNat 4) := hth
          have zth : th.size ≤ 4 := by omega
          have bswh : w.heap.size < wh.heap.size := Nat.lt_of_lt_of_le bswg hbth.size
          have Blwh : Hid (Below (w.heap.size + 1) (w.alloc (.cells #[.bool false, .int .i64 ty, .int .i64 nu, .int .i64 ti, .int .i64 so, .slice ao cl.length cap, .bool true, .int .i64 pr, .string en, .string py, .int .i64 pa] 33)) wh) := Blwg.out.trans (hbth.mono (Nat.succ_le_of_lt bswg))
          have cath0 : ¬ 9223372036854775807 < td.size + te.size + tf.size + tg.size + th.size := by omega
          have cath1 : ¬ 9223372036854775807 < td.size + te.size + tf.size + tg.size + th.size + (t.size + ta.size + tb.size + en.size + py.size) := by omega
          go_wp2_with fail
          refine hK.out _ _ (fun o => (hbth.cell (p := ⟨w.heap.size, o, none⟩) bswg).trans (hHeld o)) (fun hHeld => ?_)
          clear hK K hth sth hbth
          refine wpAnyH_take (i := 16) (v := ?v3050) rfl (by kernel_rfl) (by kernel_rfl) (by kernel_rfl) (fun _ _ _ h => h) (Or.inl ⟨by rfl, ?y3050⟩) hHeld ?r3050
          case y3050 => ((intro W hSw; go_simp) <;> with_reducible rfl)
          try simp only [Act.put]
          try simp only [List.getElem_toArray]
          try simp only [List.getElem_cons_succ]
          try simp only [List.getElem_cons_zero]
          try simp only [List.setIfInBounds_toArray]
          try simp only [List.set_cons_succ]
          try simp only [List.set_cons_zero]
          refine wpAnyH_take (i := 18) (v := ?v3051) rfl (by kernel_rfl) (by kernel_rfl) (by kernel_rfl) (fun _ _ _ h => h) (Or.inl ⟨by rfl, ?y3051⟩) hHeld ?r3051
          case y3051 => ((intro W hSw; go_simp) <;> with_reducible rfl)
          try simp only [Act.put]
          try simp only [List.getElem_toArray]
          try simp only [List.getElem_cons_succ]
          try simp only [List.getElem_cons_zero]
          try simp only [List.setIfInBounds_toArray]
          try simp only [List.set_cons_succ]
          try simp only [List.set_cons_zero]
          refine wpAnyH_take (i := 19) (v := ?v3052) rfl (by kernel_rfl) (by kernel_rfl) (by kernel_rfl) (fun _ _ _ h => h) (Or.inl ⟨by rfl, ?y3052⟩) hHeld ?r3052
          case y3052 => ((intro W hSw; go_simp) <;> with_reducible rfl)
          try simp only [Act.put]
          try simp only [List.getElem_toArray]
          try simp only [List.getElem_cons_succ]
          try simp only [List.getElem_cons_zero]
          try simp only [List.setIfInBounds_toArray]
          try simp only [List.set_cons_succ]
          try simp only [List.set_cons_zero]
          refine wpAnyH_done (by kernel_rfl) ?_ _
          refine NoPanic.normal ?_
          clear hcb
          have Hd : Hid (tellR false true ty nu ti so pr pa cl en py = if 1500 < (td ++ te ++ tf ++ tg ++ th ++ (t ++ ta ++ tb ++ en ++ py)).size then (⟨#[]⟩, 1) else (td ++ te ++ tf ++ tg ++ th ++ (t ++ ta ++ tb ++ en ++ py), 0)) := by
            refine tell_done _ (tellOk_of Hok.out hall.out) ?_
            simp only [append_list, Htd.out, Hte.out, Htf.out, Htg.out, Hth.out, htl.out, Hta.out, Htb.out]
            have hn : ¬ 0 < pa := by have := Hnp.out; omega
            have h := tells (mk := false) (py := py) Hok.out (128 + (cl.length : Int) + 16) ty (told pr.toNat 2 ++ told ((en.size : Int) / 4).toNat 2 ++ en.data.toList) [] (by simp [hn]) (by simp) (by unfold extB; rw [if_pos rfl, ← Lib.size_eq, show ((en.size : Int) / 4).toNat = en.size / 4 by omega]) (by rw [show pa.toNat = 0 by have := Hnp.out; omega]; rfl)
            simpa only [List.append_assoc, List.append_nil, List.nil_append] using h
          have Bf : Hid (Below w.heap.size w wh) := ((Below.refl _ _).alloc (Nat.le_refl _) _).trans (Blwh.out.mono (by omega))
          by_cases hL : 1500 < td.size + te.size + tf.size + tg.size + th.size + (t.size + ta.size + tb.size + en.size + py.size)
          · have hL' : (1500 : Int) < td.size + te.size + tf.size + tg.size + th.size + (t.size + ta.size + tb.size + en.size + py.size) := by omega
            go_wp2
            go_ret2
            refine ⟨?_, Bf.out⟩
            rw [Hd.out, if_pos (by simpa [ByteArray.size_append] using hL)]
            rfl
          · have hL' : ¬ (1500 : Int) < td.size + te.size + tf.size + tg.size + th.size + (t.size + ta.size + tb.size + en.size + py.size) := by omega
            go_wp2
            go_ret2
            refine ⟨?_, Bf.out⟩
            rw [Hd.out, if_neg (by simpa [ByteArray.size_append] using hL)]
            rfl
      · by_cases hp0 : 0 < pa
        · have hnp : 0 < pa := hp0
          have Hnp : Hid (0 < pa) := hp0
          go_wp2
          have hcb : ∀ o, wb.cell? ⟨w.heap.size, o, none⟩ = (w.alloc (.cells #[.bool true, .int .i64 ty, .int .i64 nu, .int .i64 ti, .int .i64 so, .slice ao cl.length cap, .bool true, .int .i64 pr, .string en, .string py, .int .i64 pa] 33)).cell? ⟨w.heap.size, o, none⟩ := fun o => Blwb.out.cell (p := ⟨w.heap.size, o, none⟩) (Nat.lt_succ_self _)
          have Bdwb : Hid (Below (w.heap.size + 1) (w.alloc (.cells #[.bool true, .int .i64 ty, .int .i64 nu, .int .i64 ti, .int .i64 so, .slice ao cl.length cap, .bool true, .int .i64 pr, .string en, .string py, .int .i64 pa] 33)) wb.drew) := Blwb.out.drew
          have bdwb : w.heap.size < wb.drew.heap.size := bswb
          have hwp : IntKind.i64.wrap (pa - 1) = pa - 1 := wrapI64 _ (by omega) (by omega)
          refine wp_region_noPanic ?_
          refine wp_region_held_drew (S := fun W => ∀ o, W.cell? ⟨w.heap.size, o, none⟩ = (w.alloc (.cells #[.bool true, .int .i64 ty, .int .i64 nu, .int .i64 ti, .int .i64 so, .slice ao cl.length cap, .bool true, .int .i64 pr, .string en, .string py, .int .i64 pa] 33)).cell? ⟨w.heap.size, o, none⟩) (by kernel_rfl) hcb (fun hHeld => ?_)
          refine wpAnyH_take (i := 0) (v := ?v3053) rfl (by kernel_rfl) (by kernel_rfl) (by kernel_rfl) (fun _ _ _ h => h) (Or.inl ⟨by rfl, ?y3053⟩) hHeld ?r3053
          case y3053 => ((intro W hSw; go_simp) <;> with_reducible rfl)
          try simp only [Act.put]
          try simp only [List.getElem_toArray]
          try simp only [List.getElem_cons_succ]
          try simp only [List.getElem_cons_zero]
          try simp only [List.setIfInBounds_toArray]
          try simp only [List.set_cons_succ]
          try simp only [List.set_cons_zero]
          refine wpAnyH_take (i := 1) (v := ?v3054) rfl (by kernel_rfl) (by kernel_rfl) (by kernel_rfl) (fun _ _ _ h => h) (Or.inl ⟨by rfl, ?y3054⟩) hHeld ?r3054
          case y3054 => ((intro W hSw; go_simp) <;> with_reducible rfl)
          try simp only [Act.put]
          try simp only [List.getElem_toArray]
          try simp only [List.getElem_cons_succ]
          try simp only [List.getElem_cons_zero]
          try simp only [List.setIfInBounds_toArray]
          try simp only [List.set_cons_succ]
          try simp only [List.set_cons_zero]
          refine wpAnyH_take (i := 2) (v := ?v3055) rfl (by kernel_rfl) (by kernel_rfl) (by kernel_rfl) (fun _ _ _ h => h) (Or.inl ⟨by rfl, ?y3055⟩) hHeld ?r3055
          case y3055 => ((intro W hSw; go_simp) <;> with_reducible rfl)
          try simp only [Act.put]
          try simp only [List.getElem_toArray]
          try simp only [List.getElem_cons_succ]
          try simp only [List.getElem_cons_zero]
          try simp only [List.setIfInBounds_toArray]
          try simp only [List.set_cons_succ]
          try simp only [List.set_cons_zero]
          refine wpAnyH_take (i := 3) (v := ?v3056) rfl (by kernel_rfl) (by kernel_rfl) (by kernel_rfl) (fun _ _ _ h => h) (Or.inl ⟨by rfl, ?y3056⟩) hHeld ?r3056
          case y3056 => ((intro W hSw; go_simp) <;> with_reducible rfl)
          try simp only [Act.put]
          try simp only [List.getElem_toArray]
          try simp only [List.getElem_cons_succ]
          try simp only [List.getElem_cons_zero]
          try simp only [List.setIfInBounds_toArray]
          try simp only [List.set_cons_succ]
          try simp only [List.set_cons_zero]
          refine wpAnyH_take (i := 6) (v := ?v3057) rfl (by kernel_rfl) (by kernel_rfl) (by kernel_rfl) (fun _ _ _ h => h) (Or.inl ⟨by rfl, ?y3057⟩) hHeld ?r3057
          case y3057 => ((intro W hSw; go_simp) <;> with_reducible rfl)
          try simp only [Act.put]
          try simp only [List.getElem_toArray]
          try simp only [List.getElem_cons_succ]
          try simp only [List.getElem_cons_zero]
          try simp only [List.setIfInBounds_toArray]
          try simp only [List.set_cons_succ]
          try simp only [List.set_cons_zero]
          refine wpAnyH_take (i := 7) (v := ?v3058) rfl (by kernel_rfl) (by kernel_rfl) (by kernel_rfl) (fun _ _ _ h => h) (Or.inl ⟨by rfl, ?y3058⟩) hHeld ?r3058
          case y3058 => ((intro W hSw; go_simp) <;> with_reducible rfl)
          try simp only [Act.put]
          try simp only [List.getElem_toArray]
          try simp only [List.getElem_cons_succ]
          try simp only [List.getElem_cons_zero]
          try simp only [List.setIfInBounds_toArray]
          try simp only [List.set_cons_succ]
          try simp only [List.set_cons_zero]
          refine wpAnyH_ready (rs := [4]) (by kernel_rfl) (by simp) ?_
          refine AllReadyH.cons rfl (fun K hK => ?_) AllReadyH.nil
          go_simp
          refine (refNoughts_int (pa - 1) _ (by omega) (by omega)).mono ?_
          rintro e wz ⟨⟨tz, rfl, htz, stz⟩, rfl⟩
          have Htz : Hid (tz.data.toList = List.replicate (pa - 1).toNat 0) := htz
          have catz0 : ¬ 9223372036854775807 < t.size + ta.size + tb.size + en.size + py.size + tz.size := by omega
          go_wp2_with fail
          refine hK.out _ _ (fun o => hHeld o) (fun hHeld => ?_)
          clear hK K htz
          refine wpAnyH_take (i := 5) (v := ?v3059) rfl (by kernel_rfl) (by kernel_rfl) (by kernel_rfl) (fun _ _ _ h => h) (Or.inl ⟨by rfl, ?y3059⟩) hHeld ?r3059
          case y3059 => ((intro W hSw; go_simp) <;> with_reducible rfl)
          try simp only [Act.put]
          try simp only [List.getElem_toArray]
          try simp only [List.getElem_cons_succ]
          try simp only [List.getElem_cons_zero]
          try simp only [List.setIfInBounds_toArray]
          try simp only [List.set_cons_succ]
          try simp only [List.set_cons_zero]
          refine wpAnyH_ready (rs := [8]) (by kernel_rfl) (by simp) ?_
          refine AllReadyH.cons rfl (fun K hK => ?_) AllReadyH.nil
          go_simp
          refine (refTold_int 1 pa _ (by omega) (by omega) (by omega)).mono ?_
          rintro e wp ⟨⟨tp, rfl, htp, stp⟩, hbtp⟩
          have Htp : Hid (tp.data.toList = told (pa : Int).toNat 1) := htp
          have ztp : tp.size ≤ 1 := by omega
          have bswp : w.heap.size < wp.heap.size := Nat.lt_of_lt_of_le bswb hbtp.size
          have Blwp : Hid (Below (w.heap.size + 1) (w.alloc (.cells #[.bool true, .int .i64 ty, .int .i64 nu, .int .i64 ti, .int .i64 so, .slice ao cl.length cap, .bool true, .int .i64 pr, .string en, .string py, .int .i64 pa] 33)) wp) := Bdwb.out.trans (hbtp.mono (Nat.succ_le_of_lt bswb))
          have catp0 : ¬ 9223372036854775807 < t.size + ta.size + tb.size + en.size + py.size + tz.size + tp.size := by omega
          go_wp2_with fail
          refine hK.out _ _ (fun o => (hbtp.cell (p := ⟨w.heap.size, o, none⟩) bswb).trans (hHeld o)) (fun hHeld => ?_)
          clear hK K htp stp hbtp
          refine wpAnyH_take (i := 9) (v := ?v3060) rfl (by kernel_rfl) (by kernel_rfl) (by kernel_rfl) (fun _ _ _ h => h) (Or.inl ⟨by rfl, ?y3060⟩) hHeld ?r3060
          case y3060 => ((intro W hSw; go_simp) <;> with_reducible rfl)
          try simp only [Act.put]
          try simp only [List.getElem_toArray]
          try simp only [List.getElem_cons_succ]
          try simp only [List.getElem_cons_zero]
          try simp only [List.setIfInBounds_toArray]
          try simp only [List.set_cons_succ]
          try simp only [List.set_cons_zero]
          refine wpAnyH_take (i := 10) (v := ?v3061) rfl (by kernel_rfl) (by kernel_rfl) (by kernel_rfl) (fun _ _ _ h => h) (Or.inl ⟨by rfl, ?y3061⟩) hHeld ?r3061
          case y3061 => ((intro W hSw; go_simp) <;> with_reducible rfl)
          try simp only [Act.put]
          try simp only [List.getElem_toArray]
          try simp only [List.getElem_cons_succ]
          try simp only [List.getElem_cons_zero]
          try simp only [List.setIfInBounds_toArray]
          try simp only [List.set_cons_succ]
          try simp only [List.set_cons_zero]
          refine wpAnyH_done (by kernel_rfl) ?_ _
          refine NoPanic.normal ?_
          clear hcb
          go_wp2
          have hcb : ∀ o, wp.cell? ⟨w.heap.size, o, none⟩ = (w.alloc (.cells #[.bool true, .int .i64 ty, .int .i64 nu, .int .i64 ti, .int .i64 so, .slice ao cl.length cap, .bool true, .int .i64 pr, .string en, .string py, .int .i64 pa] 33)).cell? ⟨w.heap.size, o, none⟩ := fun o => Blwp.out.cell (p := ⟨w.heap.size, o, none⟩) (Nat.lt_succ_self _)
          have Bdwp : Hid (Below (w.heap.size + 1) (w.alloc (.cells #[.bool true, .int .i64 ty, .int .i64 nu, .int .i64 ti, .int .i64 so, .slice ao cl.length cap, .bool true, .int .i64 pr, .string en, .string py, .int .i64 pa] 33)) wp.drew) := Blwp.out.drew
          have bdwp : w.heap.size < wp.drew.heap.size := bswp
          refine wp_region_noPanic ?_
          refine wp_region_held_drew (S := fun W => ∀ o, W.cell? ⟨w.heap.size, o, none⟩ = (w.alloc (.cells #[.bool true, .int .i64 ty, .int .i64 nu, .int .i64 ti, .int .i64 so, .slice ao cl.length cap, .bool true, .int .i64 pr, .string en, .string py, .int .i64 pa] 33)).cell? ⟨w.heap.size, o, none⟩) (by kernel_rfl) hcb (fun hHeld => ?_)
          refine wpAnyH_take (i := 0) (v := ?v3062) rfl (by kernel_rfl) (by kernel_rfl) (by kernel_rfl) (fun _ _ _ h => h) (Or.inl ⟨by rfl, ?y3062⟩) hHeld ?r3062
          case y3062 => ((intro W hSw; go_simp) <;> with_reducible rfl)
          try simp only [Act.put]
          try simp only [List.getElem_toArray]
          try simp only [List.getElem_cons_succ]
          try simp only [List.getElem_cons_zero]
          try simp only [List.setIfInBounds_toArray]
          try simp only [List.set_cons_succ]
          try simp only [List.set_cons_zero]
          refine wpAnyH_take (i := 2) (v := ?v3063) rfl (by kernel_rfl) (by kernel_rfl) (by kernel_rfl) (fun _ _ _ h => h) (Or.inl ⟨by rfl, ?y3063⟩) hHeld ?r3063
          case y3063 => ((intro W hSw; go_simp) <;> with_reducible rfl)
          try simp only [Act.put]
          try simp only [List.getElem_toArray]
          try simp only [List.getElem_cons_succ]
          try simp only [List.getElem_cons_zero]
          try simp only [List.setIfInBounds_toArray]
          try simp only [List.set_cons_succ]
          try simp only [List.set_cons_zero]
          refine wpAnyH_take (i := 5) (v := ?v3064) rfl (by kernel_rfl) (by kernel_rfl) (by kernel_rfl) (fun _ _ _ h => h) (Or.inl ⟨by rfl, ?y3064⟩) hHeld ?r3064
          case y3064 => ((intro W hSw; go_simp) <;> with_reducible rfl)
          try simp only [Act.put]
          try simp only [List.getElem_toArray]
          try simp only [List.getElem_cons_succ]
          try simp only [List.getElem_cons_zero]
          try simp only [List.setIfInBounds_toArray]
          try simp only [List.set_cons_succ]
          try simp only [List.set_cons_zero]
          refine wpAnyH_take (i := 6) (v := ?v3065) rfl (by kernel_rfl) (by kernel_rfl) (by kernel_rfl) (fun _ _ _ h => h) (Or.inl ⟨by rfl, ?y3065⟩) hHeld ?r3065
          case y3065 => ((intro W hSw; go_simp) <;> with_reducible rfl)
          try simp only [Act.put]
          try simp only [List.getElem_toArray]
          try simp only [List.getElem_cons_succ]
          try simp only [List.getElem_cons_zero]
          try simp only [List.setIfInBounds_toArray]
          try simp only [List.set_cons_succ]
          try simp only [List.set_cons_zero]
          refine wpAnyH_take (i := 9) (v := ?v3066) rfl (by kernel_rfl) (by kernel_rfl) (by kernel_rfl) (fun _ _ _ h => h) (Or.inl ⟨by rfl, ?y3066⟩) hHeld ?r3066
          case y3066 => ((intro W hSw; go_simp) <;> with_reducible rfl)
          try simp only [Act.put]
          try simp only [List.getElem_toArray]
          try simp only [List.getElem_cons_succ]
          try simp only [List.getElem_cons_zero]
          try simp only [List.setIfInBounds_toArray]
          try simp only [List.set_cons_succ]
          try simp only [List.set_cons_zero]
          refine wpAnyH_take (i := 10) (v := ?v3067) rfl (by kernel_rfl) (by kernel_rfl) (by kernel_rfl) (fun _ _ _ h => h) (Or.inl ⟨by rfl, ?y3067⟩) hHeld ?r3067
          case y3067 => ((intro W hSw; go_simp) <;> with_reducible rfl)
          try simp only [Act.put]
          try simp only [List.getElem_toArray]
          try simp only [List.getElem_cons_succ]
          try simp only [List.getElem_cons_zero]
          try simp only [List.setIfInBounds_toArray]
          try simp only [List.set_cons_succ]
          try simp only [List.set_cons_zero]
          refine wpAnyH_take (i := 13) (v := ?v3068) rfl (by kernel_rfl) (by kernel_rfl) (by kernel_rfl) (fun _ _ _ h => h) (Or.inl ⟨by rfl, ?y3068⟩) hHeld ?r3068
          case y3068 => ((intro W hSw; go_simp) <;> with_reducible rfl)
          try simp only [Act.put]
          try simp only [List.getElem_toArray]
          try simp only [List.getElem_cons_succ]
          try simp only [List.getElem_cons_zero]
          try simp only [List.setIfInBounds_toArray]
          try simp only [List.set_cons_succ]
          try simp only [List.set_cons_zero]
          refine wpAnyH_take (i := 14) (v := ?v3069) rfl (by kernel_rfl) (by kernel_rfl) (by kernel_rfl) (fun _ _ _ h => h) (Or.inl ⟨by rfl, ?y3069⟩) hHeld ?r3069
          case y3069 => ((intro W hSw; go_simp) <;> with_reducible rfl)
          try simp only [Act.put]
          try simp only [List.getElem_toArray]
          try simp only [List.getElem_cons_succ]
          try simp only [List.getElem_cons_zero]
          try simp only [List.setIfInBounds_toArray]
          try simp only [List.set_cons_succ]
          try simp only [List.set_cons_zero]
          refine wpAnyH_take (i := 17) (v := ?v3070) rfl (by kernel_rfl) (by kernel_rfl) (by kernel_rfl) (fun _ _ _ h => h) (Or.inl ⟨by rfl, ?y3070⟩) hHeld ?r3070
          case y3070 => ((intro W hSw; go_simp) <;> with_reducible rfl)
          try simp only [Act.put]
          try simp only [List.getElem_toArray]
          try simp only [List.getElem_cons_succ]
          try simp only [List.getElem_cons_zero]
          try simp only [List.setIfInBounds_toArray]
          try simp only [List.set_cons_succ]
          try simp only [List.set_cons_zero]
          refine wpAnyH_ready (rs := [1]) (by kernel_rfl) (by simp) ?_
          refine AllReadyH.cons rfl (fun K hK => ?_) AllReadyH.nil
          go_simp
          refine (refTold_int 1 (128 + (cl.length : Int) + 16 + 32) _ (by omega) (by omega) (by omega)).mono ?_
          rintro e wd ⟨⟨td, rfl, htd, std⟩, hbtd⟩
          have Htd : Hid (td.data.toList = told ((128 + (cl.length : Int) + 16 + 32) : Int).toNat 1) := htd
          have ztd : td.size ≤ 1 := by omega
          have bswd : w.heap.size < wd.heap.size := Nat.lt_of_lt_of_le bswp hbtd.size
          have Blwd : Hid (Below (w.heap.size + 1) (w.alloc (.cells #[.bool true, .int .i64 ty, .int .i64 nu, .int .i64 ti, .int .i64 so, .slice ao cl.length cap, .bool true, .int .i64 pr, .string en, .string py, .int .i64 pa] 33)) wd) := Bdwp.out.trans (hbtd.mono (Nat.succ_le_of_lt bswp))

          go_wp2_with fail
          refine hK.out _ _ (fun o => (hbtd.cell (p := ⟨w.heap.size, o, none⟩) bswp).trans (hHeld o)) (fun hHeld => ?_)
          clear hK K htd std hbtd
          refine wpAnyH_ready (rs := [3]) (by kernel_rfl) (by simp) ?_
          refine AllReadyH.cons rfl (fun K hK => ?_) AllReadyH.nil
          go_simp
          refine (refTold_int 1 (ty + 128) _ (by omega) (by omega) (by omega)).mono ?_
          rintro e we ⟨⟨te, rfl, hte, ste⟩, hbte⟩
          have Hte : Hid (te.data.toList = told ((ty + 128) : Int).toNat 1) := hte
          have zte : te.size ≤ 1 := by omega
          have bswe : w.heap.size < we.heap.size := Nat.lt_of_lt_of_le bswd hbte.size
          have Blwe : Hid (Below (w.heap.size + 1) (w.alloc (.cells #[.bool true, .int .i64 ty, .int .i64 nu, .int .i64 ti, .int .i64 so, .slice ao cl.length cap, .bool true, .int .i64 pr, .string en, .string py, .int .i64 pa] 33)) we) := Blwd.out.trans (hbte.mono (Nat.succ_le_of_lt bswd))
          have cate0 : ¬ 9223372036854775807 < td.size + te.size := by omega
          go_wp2_with fail
          refine hK.out _ _ (fun o => (hbte.cell (p := ⟨w.heap.size, o, none⟩) bswd).trans (hHeld o)) (fun hHeld => ?_)
          clear hK K hte ste hbte
          refine wpAnyH_take (i := 4) (v := ?v3071) rfl (by kernel_rfl) (by kernel_rfl) (by kernel_rfl) (fun _ _ _ h => h) (Or.inl ⟨by rfl, ?y3071⟩) hHeld ?r3071
          case y3071 => ((intro W hSw; go_simp) <;> with_reducible rfl)
          try simp only [Act.put]
          try simp only [List.getElem_toArray]
          try simp only [List.getElem_cons_succ]
          try simp only [List.getElem_cons_zero]
          try simp only [List.setIfInBounds_toArray]
          try simp only [List.set_cons_succ]
          try simp only [List.set_cons_zero]
          refine wpAnyH_ready (rs := [7]) (by kernel_rfl) (by simp) ?_
          refine AllReadyH.cons rfl (fun K hK => ?_) AllReadyH.nil
          go_simp
          refine (refTold_int 2 nu _ (by omega) (by omega) (by omega)).mono ?_
          rintro e wf ⟨⟨tf, rfl, htf, stf⟩, hbtf⟩
          have Htf : Hid (tf.data.toList = told (nu : Int).toNat 2) := htf
          have ztf : tf.size ≤ 2 := by omega
          have bswf : w.heap.size < wf.heap.size := Nat.lt_of_lt_of_le bswe hbtf.size
          have Blwf : Hid (Below (w.heap.size + 1) (w.alloc (.cells #[.bool true, .int .i64 ty, .int .i64 nu, .int .i64 ti, .int .i64 so, .slice ao cl.length cap, .bool true, .int .i64 pr, .string en, .string py, .int .i64 pa] 33)) wf) := Blwe.out.trans (hbtf.mono (Nat.succ_le_of_lt bswe))
          have catf0 : ¬ 9223372036854775807 < td.size + te.size + tf.size := by omega
          go_wp2_with fail
          refine hK.out _ _ (fun o => (hbtf.cell (p := ⟨w.heap.size, o, none⟩) bswe).trans (hHeld o)) (fun hHeld => ?_)
          clear hK K htf stf hbtf
          refine wpAnyH_take (i := 8) (v := ?v3072) rfl (by kernel_rfl) (by kernel_rfl) (by kernel_rfl) (fun _ _ _ h => h) (Or.inl ⟨by rfl, ?y3072⟩) hHeld ?r3072
          case y3072 => ((intro W hSw; go_simp) <;> with_reducible rfl)
          try simp only [Act.put]
          try simp only [List.getElem_toArray]
          try simp only [List.getElem_cons_succ]
          try simp only [List.getElem_cons_zero]
          try simp only [List.setIfInBounds_toArray]
          try simp only [List.set_cons_succ]
          try simp only [List.set_cons_zero]
          refine wpAnyH_ready (rs := [11]) (by kernel_rfl) (by simp) ?_
          refine AllReadyH.cons rfl (fun K hK => ?_) AllReadyH.nil
          go_simp
          refine (refTold_int 4 ti _ (by omega) (by omega) (by omega)).mono ?_
          rintro e wg ⟨⟨tg, rfl, htg, stg⟩, hbtg⟩
          have Htg : Hid (tg.data.toList = told (ti : Int).toNat 4) := htg
          have ztg : tg.size ≤ 4 := by omega
          have bswg : w.heap.size < wg.heap.size := Nat.lt_of_lt_of_le bswf hbtg.size
          have Blwg : Hid (Below (w.heap.size + 1) (w.alloc (.cells #[.bool true, .int .i64 ty, .int .i64 nu, .int .i64 ti, .int .i64 so, .slice ao cl.length cap, .bool true, .int .i64 pr, .string en, .string py, .int .i64 pa] 33)) wg) := Blwf.out.trans (hbtg.mono (Nat.succ_le_of_lt bswf))
          have catg0 : ¬ 9223372036854775807 < td.size + te.size + tf.size + tg.size := by omega
          go_wp2_with fail
          refine hK.out _ _ (fun o => (hbtg.cell (p := ⟨w.heap.size, o, none⟩) bswf).trans (hHeld o)) (fun hHeld => ?_)
          clear hK K htg stg hbtg
          refine wpAnyH_take (i := 12) (v := ?v3073) rfl (by kernel_rfl) (by kernel_rfl) (by kernel_rfl) (fun _ _ _ h => h) (Or.inl ⟨by rfl, ?y3073⟩) hHeld ?r3073
          case y3073 => ((intro W hSw; go_simp) <;> with_reducible rfl)
          try simp only [Act.put]
          try simp only [List.getElem_toArray]
          try simp only [List.getElem_cons_succ]
          try simp only [List.getElem_cons_zero]
          try simp only [List.setIfInBounds_toArray]
          try simp only [List.set_cons_succ]
          try simp only [List.set_cons_zero]
          refine wpAnyH_ready (rs := [15]) (by kernel_rfl) (by simp) ?_
          refine AllReadyH.cons rfl (fun K hK => ?_) AllReadyH.nil
          go_simp
          refine (refTold_int 4 so _ (by omega) (by omega) (by omega)).mono ?_
          rintro e wh ⟨⟨th, rfl, hth, sth⟩, hbth⟩
          have Hth : Hid (th.data.toList = told (so : Int).toNat 4) := hth
          have zth : th.size ≤ 4 := by omega
          have bswh : w.heap.size < wh.heap.size := Nat.lt_of_lt_of_le bswg hbth.size
          have Blwh : Hid (Below (w.heap.size + 1) (w.alloc (.cells #[.bool true, .int .i64 ty, .int .i64 nu, .int .i64 ti, .int .i64 so, .slice ao cl.length cap, .bool true, .int .i64 pr, .string en, .string py, .int .i64 pa] 33)) wh) := Blwg.out.trans (hbth.mono (Nat.succ_le_of_lt bswg))
          have cath0 : ¬ 9223372036854775807 < td.size + te.size + tf.size + tg.size + th.size := by omega
          have cath1 : ¬ 9223372036854775807 < td.size + te.size + tf.size + tg.size + th.size + (t.size + ta.size + tb.size + en.size + py.size + tz.size + tp.size) := by omega
          go_wp2_with fail
          refine hK.out _ _ (fun o => (hbth.cell (p := ⟨w.heap.size, o, none⟩) bswg).trans (hHeld o)) (fun hHeld => ?_)
          clear hK K hth sth hbth
          refine wpAnyH_take (i := 16) (v := ?v3074) rfl (by kernel_rfl) (by kernel_rfl) (by kernel_rfl) (fun _ _ _ h => h) (Or.inl ⟨by rfl, ?y3074⟩) hHeld ?r3074
          case y3074 => ((intro W hSw; go_simp) <;> with_reducible rfl)
          try simp only [Act.put]
          try simp only [List.getElem_toArray]
          try simp only [List.getElem_cons_succ]
          try simp only [List.getElem_cons_zero]
          try simp only [List.setIfInBounds_toArray]
          try simp only [List.set_cons_succ]
          try simp only [List.set_cons_zero]
          refine wpAnyH_take (i := 18) (v := ?v3075) rfl (by kernel_rfl) (by kernel_rfl) (by kernel_rfl) (fun _ _ _ h => h) (Or.inl ⟨by rfl, ?y3075⟩) hHeld ?r3075
          case y3075 => ((intro W hSw; go_simp) <;> with_reducible rfl)
          try simp only [Act.put]
          try simp only [List.getElem_toArray]
          try simp only [List.getElem_cons_succ]
          try simp only [List.getElem_cons_zero]
          try simp only [List.setIfInBounds_toArray]
          try simp only [List.set_cons_succ]
          try simp only [List.set_cons_zero]
          refine wpAnyH_take (i := 19) (v := ?v3076) rfl (by kernel_rfl) (by kernel_rfl) (by kernel_rfl) (fun _ _ _ h => h) (Or.inl ⟨by rfl, ?y3076⟩) hHeld ?r3076
          case y3076 => ((intro W hSw; go_simp) <;> with_reducible rfl)
          try simp only [Act.put]
          try simp only [List.getElem_toArray]
          try simp only [List.getElem_cons_succ]
          try simp only [List.getElem_cons_zero]
          try simp only [List.setIfInBounds_toArray]
          try simp only [List.set_cons_succ]
          try simp only [List.set_cons_zero]
          refine wpAnyH_done (by kernel_rfl) ?_ _
          refine NoPanic.normal ?_
          clear hcb
          have Hd : Hid (tellR true true ty nu ti so pr pa cl en py = if 1500 < (td ++ te ++ tf ++ tg ++ th ++ (t ++ ta ++ tb ++ en ++ py ++ tz ++ tp)).size then (⟨#[]⟩, 1) else (td ++ te ++ tf ++ tg ++ th ++ (t ++ ta ++ tb ++ en ++ py ++ tz ++ tp), 0)) := by
            refine tell_done _ (tellOk_of Hok.out hall.out) ?_
            simp only [append_list, Htd.out, Hte.out, Htf.out, Htg.out, Hth.out, htl.out, Hta.out, Htb.out, Htz.out, Htp.out]
            have hn : 0 < pa := by have := Hnp.out; omega
            have h := tells (mk := true) (py := py) Hok.out (128 + (cl.length : Int) + 16 + 32) (ty + 128) (told pr.toNat 2 ++ told ((en.size : Int) / 4).toNat 2 ++ en.data.toList) (List.replicate (pa - 1).toNat 0 ++ told pa.toNat 1) (by simp [hn]) (by simp) (by unfold extB; rw [if_pos rfl, ← Lib.size_eq, show ((en.size : Int) / 4).toNat = en.size / 4 by omega]) (by unfold padB; rw [if_neg (by have := Hnp.out; omega), told_one _ (by omega), show (pa - 1).toNat = pa.toNat - 1 by omega])
            simpa only [List.append_assoc, List.append_nil, List.nil_append] using h
          have Bf : Hid (Below w.heap.size w wh) := ((Below.refl _ _).alloc (Nat.le_refl _) _).trans (Blwh.out.mono (by omega))
          by_cases hL : 1500 < td.size + te.size + tf.size + tg.size + th.size + (t.size + ta.size + tb.size + en.size + py.size + tz.size + tp.size)
          · have hL' : (1500 : Int) < td.size + te.size + tf.size + tg.size + th.size + (t.size + ta.size + tb.size + en.size + py.size + tz.size + tp.size) := by omega
            go_wp2
            go_ret2
            refine ⟨?_, Bf.out⟩
            rw [Hd.out, if_pos (by simpa [ByteArray.size_append] using hL)]
            rfl
          · have hL' : ¬ (1500 : Int) < td.size + te.size + tf.size + tg.size + th.size + (t.size + ta.size + tb.size + en.size + py.size + tz.size + tp.size) := by omega
            go_wp2
            go_ret2
            refine ⟨?_, Bf.out⟩
            rw [Hd.out, if_neg (by simpa [ByteArray.size_append] using hL)]
            rfl
        · have hnp : ¬ 0 < pa := hp0
          have Hnp : Hid (¬ 0 < pa) := hp0
          go_wp2
          have hcb : ∀ o, wb.cell? ⟨w.heap.size, o, none⟩ = (w.alloc (.cells #[.bool true, .int .i64 ty, .int .i64 nu, .int .i64 ti, .int .i64 so, .slice ao cl.length cap, .bool true, .int .i64 pr, .string en, .string py, .int .i64 pa] 33)).cell? ⟨w.heap.size, o, none⟩ := fun o => Blwb.out.cell (p := ⟨w.heap.size, o, none⟩) (Nat.lt_succ_self _)
          have Bdwb : Hid (Below (w.heap.size + 1) (w.alloc (.cells #[.bool true, .int .i64 ty, .int .i64 nu, .int .i64 ti, .int .i64 so, .slice ao cl.length cap, .bool true, .int .i64 pr, .string en, .string py, .int .i64 pa] 33)) wb.drew) := Blwb.out.drew
          have bdwb : w.heap.size < wb.drew.heap.size := bswb
          refine wp_region_noPanic ?_
          refine wp_region_held_drew (S := fun W => ∀ o, W.cell? ⟨w.heap.size, o, none⟩ = (w.alloc (.cells #[.bool true, .int .i64 ty, .int .i64 nu, .int .i64 ti, .int .i64 so, .slice ao cl.length cap, .bool true, .int .i64 pr, .string en, .string py, .int .i64 pa] 33)).cell? ⟨w.heap.size, o, none⟩) (by kernel_rfl) hcb (fun hHeld => ?_)
          refine wpAnyH_take (i := 0) (v := ?v3077) rfl (by kernel_rfl) (by kernel_rfl) (by kernel_rfl) (fun _ _ _ h => h) (Or.inl ⟨by rfl, ?y3077⟩) hHeld ?r3077
          case y3077 => ((intro W hSw; go_simp) <;> with_reducible rfl)
          try simp only [Act.put]
          try simp only [List.getElem_toArray]
          try simp only [List.getElem_cons_succ]
          try simp only [List.getElem_cons_zero]
          try simp only [List.setIfInBounds_toArray]
          try simp only [List.set_cons_succ]
          try simp only [List.set_cons_zero]
          refine wpAnyH_take (i := 2) (v := ?v3078) rfl (by kernel_rfl) (by kernel_rfl) (by kernel_rfl) (fun _ _ _ h => h) (Or.inl ⟨by rfl, ?y3078⟩) hHeld ?r3078
          case y3078 => ((intro W hSw; go_simp) <;> with_reducible rfl)
          try simp only [Act.put]
          try simp only [List.getElem_toArray]
          try simp only [List.getElem_cons_succ]
          try simp only [List.getElem_cons_zero]
          try simp only [List.setIfInBounds_toArray]
          try simp only [List.set_cons_succ]
          try simp only [List.set_cons_zero]
          refine wpAnyH_take (i := 5) (v := ?v3079) rfl (by kernel_rfl) (by kernel_rfl) (by kernel_rfl) (fun _ _ _ h => h) (Or.inl ⟨by rfl, ?y3079⟩) hHeld ?r3079
          case y3079 => ((intro W hSw; go_simp) <;> with_reducible rfl)
          try simp only [Act.put]
          try simp only [List.getElem_toArray]
          try simp only [List.getElem_cons_succ]
          try simp only [List.getElem_cons_zero]
          try simp only [List.setIfInBounds_toArray]
          try simp only [List.set_cons_succ]
          try simp only [List.set_cons_zero]
          refine wpAnyH_take (i := 6) (v := ?v3080) rfl (by kernel_rfl) (by kernel_rfl) (by kernel_rfl) (fun _ _ _ h => h) (Or.inl ⟨by rfl, ?y3080⟩) hHeld ?r3080
          case y3080 => ((intro W hSw; go_simp) <;> with_reducible rfl)
          try simp only [Act.put]
          try simp only [List.getElem_toArray]
          try simp only [List.getElem_cons_succ]
          try simp only [List.getElem_cons_zero]
          try simp only [List.setIfInBounds_toArray]
          try simp only [List.set_cons_succ]
          try simp only [List.set_cons_zero]
          refine wpAnyH_take (i := 9) (v := ?v3081) rfl (by kernel_rfl) (by kernel_rfl) (by kernel_rfl) (fun _ _ _ h => h) (Or.inl ⟨by rfl, ?y3081⟩) hHeld ?r3081
          case y3081 => ((intro W hSw; go_simp) <;> with_reducible rfl)
          try simp only [Act.put]
          try simp only [List.getElem_toArray]
          try simp only [List.getElem_cons_succ]
          try simp only [List.getElem_cons_zero]
          try simp only [List.setIfInBounds_toArray]
          try simp only [List.set_cons_succ]
          try simp only [List.set_cons_zero]
          refine wpAnyH_take (i := 10) (v := ?v3082) rfl (by kernel_rfl) (by kernel_rfl) (by kernel_rfl) (fun _ _ _ h => h) (Or.inl ⟨by rfl, ?y3082⟩) hHeld ?r3082
          case y3082 => ((intro W hSw; go_simp) <;> with_reducible rfl)
          try simp only [Act.put]
          try simp only [List.getElem_toArray]
          try simp only [List.getElem_cons_succ]
          try simp only [List.getElem_cons_zero]
          try simp only [List.setIfInBounds_toArray]
          try simp only [List.set_cons_succ]
          try simp only [List.set_cons_zero]
          refine wpAnyH_take (i := 13) (v := ?v3083) rfl (by kernel_rfl) (by kernel_rfl) (by kernel_rfl) (fun _ _ _ h => h) (Or.inl ⟨by rfl, ?y3083⟩) hHeld ?r3083
          case y3083 => ((intro W hSw; go_simp) <;> with_reducible rfl)
          try simp only [Act.put]
          try simp only [List.getElem_toArray]
          try simp only [List.getElem_cons_succ]
          try simp only [List.getElem_cons_zero]
          try simp only [List.setIfInBounds_toArray]
          try simp only [List.set_cons_succ]
          try simp only [List.set_cons_zero]
          refine wpAnyH_take (i := 14) (v := ?v3084) rfl (by kernel_rfl) (by kernel_rfl) (by kernel_rfl) (fun _ _ _ h => h) (Or.inl ⟨by rfl, ?y3084⟩) hHeld ?r3084
          case y3084 => ((intro W hSw; go_simp) <;> with_reducible rfl)
          try simp only [Act.put]
          try simp only [List.getElem_toArray]
          try simp only [List.getElem_cons_succ]
          try simp only [List.getElem_cons_zero]
          try simp only [List.setIfInBounds_toArray]
          try simp only [List.set_cons_succ]
          try simp only [List.set_cons_zero]
          refine wpAnyH_take (i := 17) (v := ?v3085) rfl (by kernel_rfl) (by kernel_rfl) (by kernel_rfl) (fun _ _ _ h => h) (Or.inl ⟨by rfl, ?y3085⟩) hHeld ?r3085
          case y3085 => ((intro W hSw; go_simp) <;> with_reducible rfl)
          try simp only [Act.put]
          try simp only [List.getElem_toArray]
          try simp only [List.getElem_cons_succ]
          try simp only [List.getElem_cons_zero]
          try simp only [List.setIfInBounds_toArray]
          try simp only [List.set_cons_succ]
          try simp only [List.set_cons_zero]
          refine wpAnyH_ready (rs := [1]) (by kernel_rfl) (by simp) ?_
          refine AllReadyH.cons rfl (fun K hK => ?_) AllReadyH.nil
          go_simp
          refine (refTold_int 1 (128 + (cl.length : Int) + 16) _ (by omega) (by omega) (by omega)).mono ?_
          rintro e wd ⟨⟨td, rfl, htd, std⟩, hbtd⟩
          have Htd : Hid (td.data.toList = told ((128 + (cl.length : Int) + 16) : Int).toNat 1) := htd
          have ztd : td.size ≤ 1 := by omega
          have bswd : w.heap.size < wd.heap.size := Nat.lt_of_lt_of_le bswb hbtd.size
          have Blwd : Hid (Below (w.heap.size + 1) (w.alloc (.cells #[.bool true, .int .i64 ty, .int .i64 nu, .int .i64 ti, .int .i64 so, .slice ao cl.length cap, .bool true, .int .i64 pr, .string en, .string py, .int .i64 pa] 33)) wd) := Bdwb.out.trans (hbtd.mono (Nat.succ_le_of_lt bswb))

          go_wp2_with fail
          refine hK.out _ _ (fun o => (hbtd.cell (p := ⟨w.heap.size, o, none⟩) bswb).trans (hHeld o)) (fun hHeld => ?_)
          clear hK K htd std hbtd
          refine wpAnyH_ready (rs := [3]) (by kernel_rfl) (by simp) ?_
          refine AllReadyH.cons rfl (fun K hK => ?_) AllReadyH.nil
          go_simp
          refine (refTold_int 1 (ty + 128) _ (by omega) (by omega) (by omega)).mono ?_
          rintro e we ⟨⟨te, rfl, hte, ste⟩, hbte⟩
          have Hte : Hid (te.data.toList = told ((ty + 128) : Int).toNat 1) := hte
          have zte : te.size ≤ 1 := by omega
          have bswe : w.heap.size < we.heap.size := Nat.lt_of_lt_of_le bswd hbte.size
          have Blwe : Hid (Below (w.heap.size + 1) (w.alloc (.cells #[.bool true, .int .i64 ty, .int .i64 nu, .int .i64 ti, .int .i64 so, .slice ao cl.length cap, .bool true, .int .i64 pr, .string en, .string py, .int .i64 pa] 33)) we) := Blwd.out.trans (hbte.mono (Nat.succ_le_of_lt bswd))
          have cate0 : ¬ 9223372036854775807 < td.size + te.size := by omega
          go_wp2_with fail
          refine hK.out _ _ (fun o => (hbte.cell (p := ⟨w.heap.size, o, none⟩) bswd).trans (hHeld o)) (fun hHeld => ?_)
          clear hK K hte ste hbte
          refine wpAnyH_take (i := 4) (v := ?v3086) rfl (by kernel_rfl) (by kernel_rfl) (by kernel_rfl) (fun _ _ _ h => h) (Or.inl ⟨by rfl, ?y3086⟩) hHeld ?r3086
          case y3086 => ((intro W hSw; go_simp) <;> with_reducible rfl)
          try simp only [Act.put]
          try simp only [List.getElem_toArray]
          try simp only [List.getElem_cons_succ]
          try simp only [List.getElem_cons_zero]
          try simp only [List.setIfInBounds_toArray]
          try simp only [List.set_cons_succ]
          try simp only [List.set_cons_zero]
          refine wpAnyH_ready (rs := [7]) (by kernel_rfl) (by simp) ?_
          refine AllReadyH.cons rfl (fun K hK => ?_) AllReadyH.nil
          go_simp
          refine (refTold_int 2 nu _ (by omega) (by omega) (by omega)).mono ?_
          rintro e wf ⟨⟨tf, rfl, htf, stf⟩, hbtf⟩
          have Htf : Hid (tf.data.toList = told (nu : Int).toNat 2) := htf
          have ztf : tf.size ≤ 2 := by omega
          have bswf : w.heap.size < wf.heap.size := Nat.lt_of_lt_of_le bswe hbtf.size
          have Blwf : Hid (Below (w.heap.size + 1) (w.alloc (.cells #[.bool true, .int .i64 ty, .int .i64 nu, .int .i64 ti, .int .i64 so, .slice ao cl.length cap, .bool true, .int .i64 pr, .string en, .string py, .int .i64 pa] 33)) wf) := Blwe.out.trans (hbtf.mono (Nat.succ_le_of_lt bswe))
          have catf0 : ¬ 9223372036854775807 < td.size + te.size + tf.size := by omega
          go_wp2_with fail
          refine hK.out _ _ (fun o => (hbtf.cell (p := ⟨w.heap.size, o, none⟩) bswe).trans (hHeld o)) (fun hHeld => ?_)
          clear hK K htf stf hbtf
          refine wpAnyH_take (i := 8) (v := ?v3087) rfl (by kernel_rfl) (by kernel_rfl) (by kernel_rfl) (fun _ _ _ h => h) (Or.inl ⟨by rfl, ?y3087⟩) hHeld ?r3087
          case y3087 => ((intro W hSw; go_simp) <;> with_reducible rfl)
          try simp only [Act.put]
          try simp only [List.getElem_toArray]
          try simp only [List.getElem_cons_succ]
          try simp only [List.getElem_cons_zero]
          try simp only [List.setIfInBounds_toArray]
          try simp only [List.set_cons_succ]
          try simp only [List.set_cons_zero]
          refine wpAnyH_ready (rs := [11]) (by kernel_rfl) (by simp) ?_
          refine AllReadyH.cons rfl (fun K hK => ?_) AllReadyH.nil
          go_simp
          refine (refTold_int 4 ti _ (by omega) (by omega) (by omega)).mono ?_
          rintro e wg ⟨⟨tg, rfl, htg, stg⟩, hbtg⟩
          have Htg : Hid (tg.data.toList = told (ti : Int).toNat 4) := htg
          have ztg : tg.size ≤ 4 := by omega
          have bswg : w.heap.size < wg.heap.size := Nat.lt_of_lt_of_le bswf hbtg.size
          have Blwg : Hid (Below (w.heap.size + 1) (w.alloc (.cells #[.bool true, .int .i64 ty, .int .i64 nu, .int .i64 ti, .int .i64 so, .slice ao cl.length cap, .bool true, .int .i64 pr, .string en, .string py, .int .i64 pa] 33)) wg) := Blwf.out.trans (hbtg.mono (Nat.succ_le_of_lt bswf))
          have catg0 : ¬ 9223372036854775807 < td.size + te.size + tf.size + tg.size := by omega
          go_wp2_with fail
          refine hK.out _ _ (fun o => (hbtg.cell (p := ⟨w.heap.size, o, none⟩) bswf).trans (hHeld o)) (fun hHeld => ?_)
          clear hK K htg stg hbtg
          refine wpAnyH_take (i := 12) (v := ?v3088) rfl (by kernel_rfl) (by kernel_rfl) (by kernel_rfl) (fun _ _ _ h => h) (Or.inl ⟨by rfl, ?y3088⟩) hHeld ?r3088
          case y3088 => ((intro W hSw; go_simp) <;> with_reducible rfl)
          try simp only [Act.put]
          try simp only [List.getElem_toArray]
          try simp only [List.getElem_cons_succ]
          try simp only [List.getElem_cons_zero]
          try simp only [List.setIfInBounds_toArray]
          try simp only [List.set_cons_succ]
          try simp only [List.set_cons_zero]
          refine wpAnyH_ready (rs := [15]) (by kernel_rfl) (by simp) ?_
          refine AllReadyH.cons rfl (fun K hK => ?_) AllReadyH.nil
          go_simp
          refine (refTold_int 4 so _ (by omega) (by omega) (by omega)).mono ?_
          rintro e wh ⟨⟨th, rfl, hth, sth⟩, hbth⟩
          have Hth : Hid (th.data.toList = told (so : Int).toNat 4) := hth
          have zth : th.size ≤ 4 := by omega
          have bswh : w.heap.size < wh.heap.size := Nat.lt_of_lt_of_le bswg hbth.size
          have Blwh : Hid (Below (w.heap.size + 1) (w.alloc (.cells #[.bool true, .int .i64 ty, .int .i64 nu, .int .i64 ti, .int .i64 so, .slice ao cl.length cap, .bool true, .int .i64 pr, .string en, .string py, .int .i64 pa] 33)) wh) := Blwg.out.trans (hbth.mono (Nat.succ_le_of_lt bswg))
          have cath0 : ¬ 9223372036854775807 < td.size + te.size + tf.size + tg.size + th.size := by omega
          have cath1 : ¬ 9223372036854775807 < td.size + te.size + tf.size + tg.size + th.size + (t.size + ta.size + tb.size + en.size + py.size) := by omega
          go_wp2_with fail
          refine hK.out _ _ (fun o => (hbth.cell (p := ⟨w.heap.size, o, none⟩) bswg).trans (hHeld o)) (fun hHeld => ?_)
          clear hK K hth sth hbth
          refine wpAnyH_take (i := 16) (v := ?v3089) rfl (by kernel_rfl) (by kernel_rfl) (by kernel_rfl) (fun _ _ _ h => h) (Or.inl ⟨by rfl, ?y3089⟩) hHeld ?r3089
          case y3089 => ((intro W hSw; go_simp) <;> with_reducible rfl)
          try simp only [Act.put]
          try simp only [List.getElem_toArray]
          try simp only [List.getElem_cons_succ]
          try simp only [List.getElem_cons_zero]
          try simp only [List.setIfInBounds_toArray]
          try simp only [List.set_cons_succ]
          try simp only [List.set_cons_zero]
          refine wpAnyH_take (i := 18) (v := ?v3090) rfl (by kernel_rfl) (by kernel_rfl) (by kernel_rfl) (fun _ _ _ h => h) (Or.inl ⟨by rfl, ?y3090⟩) hHeld ?r3090
          case y3090 => ((intro W hSw; go_simp) <;> with_reducible rfl)
          try simp only [Act.put]
          try simp only [List.getElem_toArray]
          try simp only [List.getElem_cons_succ]
          try simp only [List.getElem_cons_zero]
          try simp only [List.setIfInBounds_toArray]
          try simp only [List.set_cons_succ]
          try simp only [List.set_cons_zero]
          refine wpAnyH_take (i := 19) (v := ?v3091) rfl (by kernel_rfl) (by kernel_rfl) (by kernel_rfl) (fun _ _ _ h => h) (Or.inl ⟨by rfl, ?y3091⟩) hHeld ?r3091
          case y3091 => ((intro W hSw; go_simp) <;> with_reducible rfl)
          try simp only [Act.put]
          try simp only [List.getElem_toArray]
          try simp only [List.getElem_cons_succ]
          try simp only [List.getElem_cons_zero]
          try simp only [List.setIfInBounds_toArray]
          try simp only [List.set_cons_succ]
          try simp only [List.set_cons_zero]
          refine wpAnyH_done (by kernel_rfl) ?_ _
          refine NoPanic.normal ?_
          clear hcb
          have Hd : Hid (tellR true true ty nu ti so pr pa cl en py = if 1500 < (td ++ te ++ tf ++ tg ++ th ++ (t ++ ta ++ tb ++ en ++ py)).size then (⟨#[]⟩, 1) else (td ++ te ++ tf ++ tg ++ th ++ (t ++ ta ++ tb ++ en ++ py), 0)) := by
            refine tell_done _ (tellOk_of Hok.out hall.out) ?_
            simp only [append_list, Htd.out, Hte.out, Htf.out, Htg.out, Hth.out, htl.out, Hta.out, Htb.out]
            have hn : ¬ 0 < pa := by have := Hnp.out; omega
            have h := tells (mk := true) (py := py) Hok.out (128 + (cl.length : Int) + 16) (ty + 128) (told pr.toNat 2 ++ told ((en.size : Int) / 4).toNat 2 ++ en.data.toList) [] (by simp [hn]) (by simp) (by unfold extB; rw [if_pos rfl, ← Lib.size_eq, show ((en.size : Int) / 4).toNat = en.size / 4 by omega]) (by rw [show pa.toNat = 0 by have := Hnp.out; omega]; rfl)
            simpa only [List.append_assoc, List.append_nil, List.nil_append] using h
          have Bf : Hid (Below w.heap.size w wh) := ((Below.refl _ _).alloc (Nat.le_refl _) _).trans (Blwh.out.mono (by omega))
          by_cases hL : 1500 < td.size + te.size + tf.size + tg.size + th.size + (t.size + ta.size + tb.size + en.size + py.size)
          · have hL' : (1500 : Int) < td.size + te.size + tf.size + tg.size + th.size + (t.size + ta.size + tb.size + en.size + py.size) := by omega
            go_wp2
            go_ret2
            refine ⟨?_, Bf.out⟩
            rw [Hd.out, if_pos (by simpa [ByteArray.size_append] using hL)]
            rfl
          · have hL' : ¬ (1500 : Int) < td.size + te.size + tf.size + tg.size + th.size + (t.size + ta.size + tb.size + en.size + py.size) := by omega
            go_wp2
            go_ret2
            refine ⟨?_, Bf.out⟩
            rw [Hd.out, if_neg (by simpa [ByteArray.size_append] using hL)]
            rfl

end Go.Proofs.Ytdjhhnolcafkiaa
