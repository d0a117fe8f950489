/- The document reads a packet: without an extension. -/
import Derived.Test.YtdjhhnolcafkiaaRefPar0
namespace Go.Proofs.Ytdjhhnolcafkiaa
open Go.RowKit Pk

set_option maxRecDepth 100000 in
set_option maxHeartbeats 40000000 in
theorem rp_plain (s : ByteArray) (w : World) (hs : 12 ≤ s.size) (hs2 : s.size ≤ 1500) (hm : (B0 s).toNat / 64 = 2) (hat : at0 s ≤ s.size) (hx : ¬ (B0 s).toNat / 16 % 2 = 1) :
    Calls Try.prog 39 #[.string s] w fun e w' => Below w.heap.size w w' ∧ ReadAs (readP s) w.heap.size e w' := by
  have hi : (12 : Int) ≤ s.size := by omega
  have hi2 : (s.size : Int) ≤ 1500 := by omega
  have i0 : (0 : Int) < s.size := by omega
  have i1 : (1 : Int) < s.size := by omega
  have hbad : bad1 s = false := by unfold bad1; exact decide_eq_false (by omega)
  have HP : Hid (readP s = (extPart s).bind fun x => (padPart s x.2.2).map fun y => mkP s x y) := readP_of s hbad hat
  clear hbad
  have j0 : ∀ W : World, (Instr.index 9 (.string s) (.int .i64 0)).run Try.prog W = .ok (.int .u8 ((B0 s).toNat : Int)) W := fun W => by
    rw [run_index_string W 9 s .i64 0 Try.underlying9, dif_pos ⟨by omega, i0⟩, ← get0 s (by omega)]; rfl
  have j1 : ∀ W : World, (Instr.index 9 (.string s) (.int .i64 1)).run Try.prog W = .ok (.int .u8 ((B1 s).toNat : Int)) W := fun W => by
    rw [run_index_string W 9 s .i64 1 Try.underlying9, dif_pos ⟨by omega, i1⟩, ← get1 s (by omega)]; rfl
  have hlo : ¬ ((B0 s).toNat : Int) < 128 := by omega
  have hhi : ¬ (191 : Int) < ((B0 s).toNat : Int) := by omega
  have hb1 := (B1 s).toNat_lt
  have e128 : IntKind.i64.wrap ((B1 s).toNat : Int) = ((B1 s).toNat : Int) := wrapI64 _ (by omega) (by omega)
  have e129 : ((B1 s).toNat : Int).tmod 128 = ((B1 s).toNat : Int) % 128 := Int.tmod_eq_emod_of_nonneg (by omega)
  obtain ⟨A, hA⟩ : ∃ A, A = at0 s := ⟨_, rfl⟩
  have HA : Hid (A = at0 s) := hA
  obtain ⟨C, hC⟩ : ∃ C, C = (B0 s).toNat % 16 := ⟨_, rfl⟩
  have hC1 : ((B0 s).toNat : Int) % 16 = (C : Int) := by omega
  have hC2 : C ≤ 15 := by omega
  have hA1 : (12 + 4 * (C : Int)) = (A : Int) := by rw [hA]; unfold at0; omega
  have hA2 : A ≤ s.size := by rw [hA]; exact hat
  have hA3 : 12 ≤ A ∧ A ≤ 72 := by rw [hA]; unfold at0; omega
  have hA4 : A = 12 + 4 * C := by omega
  have hAs : ¬ (s.size : Int) < A := by omega
  have hdl : (s.extract 12 A).data.toList.length = 4 * C := by rw [← Lib.size_eq, ByteArray.size_extract]; omega
  have HW : Hid (∀ k, k < C → (words (s.extract 12 A).data.toList).getD k 0 = (num ((s.data.toList.drop (12 + 4 * k)).take 4) : Int)) := by
    intro k hk
    rw [words_get C _ hdl k hk, Lib.extract_data, List.drop_take, List.drop_drop, List.take_take]
    congr 3
    omega
  have hcl0 : (words (s.extract 12 A).data.toList).length = C := words_length C _ hdl
  generalize hcl : words (s.extract 12 A).data.toList = cl at *
  have Hcl : Hid (words (s.extract 12 A).data.toList = cl) := hcl
  have HL : Hid (cl.length = C) := hcl0
  have HA4 : Hid (A = 12 + 4 * C) := hA4
  have HC : Hid (C = (B0 s).toNat % 16) := hC
  clear hcl hcl0 hdl hm hat hA hA4 hC
  go_enter Try.func39, Try.ntmps39
  go_wp2
  refine region_once (a' := ?fa) (w' := ?fw) ?h1 ?h2
  case h1 =>
    intro hQ
    refine wp_region_noPanic ?_
    refine wp_region_held_drew (S := fun _ => True) (by kernel_rfl) trivial (fun hHeld => ?_)
    refine wpAnyH_take (i := 0) (v := ?v3001) rfl (by kernel_rfl) (by kernel_rfl) (by kernel_rfl) (fun _ _ _ h => h) (Or.inl ⟨by rfl, ?y3001⟩) hHeld ?r3001
    case y3001 => ((intro W hSw; go_simp) <;> with_reducible rfl)
    try simp only [Act.put]
    try simp only [List.getElem_toArray]
    try simp only [List.getElem_cons_succ]
    try simp only [List.getElem_cons_zero]
    try simp only [List.setIfInBounds_toArray]
    try simp only [List.set_cons_succ]
    try simp only [List.set_cons_zero]
    refine wpAnyH_take (i := 1) (v := ?v3002) rfl (by kernel_rfl) (by kernel_rfl) (by kernel_rfl) (fun _ _ _ h => h) (Or.inl ⟨by rfl, ?y3002⟩) hHeld ?r3002
    case y3002 => ((intro W hSw; go_simp) <;> with_reducible rfl)
    try simp only [Act.put]
    try simp only [List.getElem_toArray]
    try simp only [List.getElem_cons_succ]
    try simp only [List.getElem_cons_zero]
    try simp only [List.setIfInBounds_toArray]
    try simp only [List.set_cons_succ]
    try simp only [List.set_cons_zero]
    refine wpAnyH_take (i := 2) (v := ?v3003) rfl (by kernel_rfl) (by kernel_rfl) (by kernel_rfl) (fun _ _ _ h => h) (Or.inl ⟨by rfl, ?y3003⟩) hHeld ?r3003
    case y3003 => ((intro W hSw; go_simp) <;> with_reducible rfl)
    try simp only [Act.put]
    try simp only [List.getElem_toArray]
    try simp only [List.getElem_cons_succ]
    try simp only [List.getElem_cons_zero]
    try simp only [List.setIfInBounds_toArray]
    try simp only [List.set_cons_succ]
    try simp only [List.set_cons_zero]
    refine wpAnyH_take (i := 3) (v := ?v3004) rfl (by kernel_rfl) (by kernel_rfl) (by kernel_rfl) (fun _ _ _ h => h) (Or.inl ⟨by rfl, ?y3004⟩) hHeld ?r3004
    case y3004 => ((intro W hSw; go_simp) <;> with_reducible rfl)
    try simp only [Act.put]
    try simp only [List.getElem_toArray]
    try simp only [List.getElem_cons_succ]
    try simp only [List.getElem_cons_zero]
    try simp only [List.setIfInBounds_toArray]
    try simp only [List.set_cons_succ]
    try simp only [List.set_cons_zero]
    refine wpAnyH_take (i := 4) (v := ?v3005) rfl (by kernel_rfl) (by kernel_rfl) (by kernel_rfl) (fun _ _ _ h => h) (Or.inl ⟨by rfl, ?y3005⟩) hHeld ?r3005
    case y3005 => ((intro W hSw; go_simp) <;> with_reducible rfl)
    try simp only [Act.put]
    try simp only [List.getElem_toArray]
    try simp only [List.getElem_cons_succ]
    try simp only [List.getElem_cons_zero]
    try simp only [List.setIfInBounds_toArray]
    try simp only [List.set_cons_succ]
    try simp only [List.set_cons_zero]
    refine wpAnyH_take (i := 5) (v := ?v3006) rfl (by kernel_rfl) (by kernel_rfl) (by kernel_rfl) (fun _ _ _ h => h) (Or.inl ⟨by rfl, ?y3006⟩) hHeld ?r3006
    case y3006 => ((intro W hSw; go_simp) <;> with_reducible rfl)
    try simp only [Act.put]
    try simp only [List.getElem_toArray]
    try simp only [List.getElem_cons_succ]
    try simp only [List.getElem_cons_zero]
    try simp only [List.setIfInBounds_toArray]
    try simp only [List.set_cons_succ]
    try simp only [List.set_cons_zero]
    refine wpAnyH_take (i := 6) (v := ?v3007) rfl (by kernel_rfl) (by kernel_rfl) (by kernel_rfl) (fun _ _ _ h => h) (Or.inl ⟨by rfl, ?y3007⟩) hHeld ?r3007
    case y3007 => ((intro W hSw; go_simp) <;> with_reducible rfl)
    try simp only [Act.put]
    try simp only [List.getElem_toArray]
    try simp only [List.getElem_cons_succ]
    try simp only [List.getElem_cons_zero]
    try simp only [List.setIfInBounds_toArray]
    try simp only [List.set_cons_succ]
    try simp only [List.set_cons_zero]
    refine wpAnyH_take (i := 7) (v := ?v3008) rfl (by kernel_rfl) (by kernel_rfl) (by kernel_rfl) (fun _ _ _ h => h) (Or.inl ⟨by rfl, ?y3008⟩) hHeld ?r3008
    case y3008 => ((intro W hSw; go_simp) <;> with_reducible rfl)
    try simp only [Act.put]
    try simp only [List.getElem_toArray]
    try simp only [List.getElem_cons_succ]
    try simp only [List.getElem_cons_zero]
    try simp only [List.setIfInBounds_toArray]
    try simp only [List.set_cons_succ]
    try simp only [List.set_cons_zero]
    refine wpAnyH_take (i := 9) (v := ?v3009) rfl (by kernel_rfl) (by kernel_rfl) (by kernel_rfl) (fun _ _ _ h => h) (Or.inl ⟨by rfl, ?y3009⟩) hHeld ?r3009
    case y3009 => ((intro W hSw; go_simp) <;> with_reducible rfl)
    try simp only [Act.put]
    try simp only [List.getElem_toArray]
    try simp only [List.getElem_cons_succ]
    try simp only [List.getElem_cons_zero]
    try simp only [List.setIfInBounds_toArray]
    try simp only [List.set_cons_succ]
    try simp only [List.set_cons_zero]
    refine wpAnyH_take (i := 11) (v := ?v3010) rfl (by kernel_rfl) (by kernel_rfl) (by kernel_rfl) (fun _ _ _ h => h) (Or.inl ⟨by rfl, ?y3010⟩) hHeld ?r3010
    case y3010 => ((intro W hSw; go_simp) <;> with_reducible rfl)
    try simp only [Act.put]
    try simp only [List.getElem_toArray]
    try simp only [List.getElem_cons_succ]
    try simp only [List.getElem_cons_zero]
    try simp only [List.setIfInBounds_toArray]
    try simp only [List.set_cons_succ]
    try simp only [List.set_cons_zero]
    refine wpAnyH_ready (rs := [8, 14]) (by kernel_rfl) (by simp) ?_
    refine AllReadyH.cons rfl (fun K hK => ?_) (AllReadyH.cons rfl (fun K hK => ?_) AllReadyH.nil)
    · go_simp
      refine (refNumber_at s _ _ 2 2 _ hs2 rfl rfl (by omega) (by omega)).mono ?_
      rintro e w1 ⟨rfl, rfl⟩
      go_wp2_with fail
      refine hK.out _ _ trivial (fun hHeld => ?_)
      clear hK K
      refine wpAnyH_ready (rs := [10, 14]) (by kernel_rfl) (by simp) ?_
      refine AllReadyH.cons rfl (fun K hK => ?_) (AllReadyH.cons rfl (fun K hK => ?_) AllReadyH.nil)
      · go_simp
        refine (refNumber_at s _ _ 4 4 _ hs2 rfl rfl (by omega) (by omega)).mono ?_
        rintro e w1 ⟨rfl, rfl⟩
        go_wp2_with fail
        refine hK.out _ _ trivial (fun hHeld => ?_)
        clear hK K
        refine wpAnyH_ready (rs := [12, 14]) (by kernel_rfl) (by simp) ?_
        refine AllReadyH.cons rfl (fun K hK => ?_) (AllReadyH.cons rfl (fun K hK => ?_) AllReadyH.nil)
        · go_simp
          refine (refNumber_at s _ _ 8 4 _ hs2 rfl rfl (by omega) (by omega)).mono ?_
          rintro e w1 ⟨rfl, rfl⟩
          go_wp2_with fail
          refine hK.out _ _ trivial (fun hHeld => ?_)
          clear hK K
          refine wpAnyH_take (i := 13) (v := ?v3011) rfl (by kernel_rfl) (by kernel_rfl) (by kernel_rfl) (fun _ _ _ h => h) (Or.inl ⟨by rfl, ?y3011⟩) hHeld ?r3011
          case y3011 => ((intro W hSw; go_simp) <;> with_reducible rfl)
          try simp only [Act.put]
          try simp only [List.getElem_toArray]
          try simp only [List.getElem_cons_succ]
          try simp only [List.getElem_cons_zero]
          try simp only [List.setIfInBounds_toArray]
          try simp only [List.set_cons_succ]
          try simp only [List.set_cons_zero]
          refine wpAnyH_ready (rs := [14]) (by kernel_rfl) (by simp) ?_
          refine AllReadyH.cons rfl (fun K hK => ?_) AllReadyH.nil
          go_simp
          refine hK.out _ _ trivial (fun hHeld => ?_)
          clear hK K
          refine wpAnyH_ready (rs := [15]) (by kernel_rfl) (by simp) ?_
          refine AllReadyH.cons rfl (fun K hK => ?_) AllReadyH.nil
          go_simp
          refine hK.out _ _ trivial (fun hHeld => ?_)
          clear hK K
          refine wpAnyH_done (by kernel_rfl) ?_ _
          refine NoPanic.normal ?_
          exact hQ
        · go_simp
          refine hK.out _ _ trivial (fun hHeld => ?_)
          clear hK K
          refine wpAnyH_ready (rs := [12]) (by kernel_rfl) (by simp) ?_
          refine AllReadyH.cons rfl (fun K hK => ?_) AllReadyH.nil
          go_simp
          refine (refNumber_at s _ _ 8 4 _ hs2 rfl rfl (by omega) (by omega)).mono ?_
          rintro e w1 ⟨rfl, rfl⟩
          go_wp2_with fail
          refine hK.out _ _ trivial (fun hHeld => ?_)
          clear hK K
          refine wpAnyH_take (i := 13) (v := ?v3012) rfl (by kernel_rfl) (by kernel_rfl) (by kernel_rfl) (fun _ _ _ h => h) (Or.inl ⟨by rfl, ?y3012⟩) hHeld ?r3012
          case y3012 => ((intro W hSw; go_simp) <;> with_reducible rfl)
          try simp only [Act.put]
          try simp only [List.getElem_toArray]
          try simp only [List.getElem_cons_succ]
          try simp only [List.getElem_cons_zero]
          try simp only [List.setIfInBounds_toArray]
          try simp only [List.set_cons_succ]
          try simp only [List.set_cons_zero]
          refine wpAnyH_ready (rs := [15]) (by kernel_rfl) (by simp) ?_
          refine AllReadyH.cons rfl (fun K hK => ?_) AllReadyH.nil
          go_simp
          refine hK.out _ _ trivial (fun hHeld => ?_)
          clear hK K
          refine wpAnyH_done (by kernel_rfl) ?_ _
          refine NoPanic.normal ?_
          exact hQ
      · go_simp
        refine hK.out _ _ trivial (fun hHeld => ?_)
        clear hK K
        refine wpAnyH_ready (rs := [10]) (by kernel_rfl) (by simp) ?_
        refine AllReadyH.cons rfl (fun K hK => ?_) AllReadyH.nil
        go_simp
        refine (refNumber_at s _ _ 4 4 _ hs2 rfl rfl (by omega) (by omega)).mono ?_
        rintro e w1 ⟨rfl, rfl⟩
        go_wp2_with fail
        refine hK.out _ _ trivial (fun hHeld => ?_)
        clear hK K
        refine wpAnyH_ready (rs := [12]) (by kernel_rfl) (by simp) ?_
        refine AllReadyH.cons rfl (fun K hK => ?_) AllReadyH.nil
        go_simp
        refine (refNumber_at s _ _ 8 4 _ hs2 rfl rfl (by omega) (by omega)).mono ?_
        rintro e w1 ⟨rfl, rfl⟩
        go_wp2_with fail
        refine hK.out _ _ trivial (fun hHeld => ?_)
        clear hK K
        refine wpAnyH_take (i := 13) (v := ?v3013) rfl (by kernel_rfl) (by kernel_rfl) (by kernel_rfl) (fun _ _ _ h => h) (Or.inl ⟨by rfl, ?y3013⟩) hHeld ?r3013
        case y3013 => ((intro W hSw; go_simp) <;> with_reducible rfl)
        try simp only [Act.put]
        try simp only [List.getElem_toArray]
        try simp only [List.getElem_cons_succ]
        try simp only [List.getElem_cons_zero]
        try simp only [List.setIfInBounds_toArray]
        try simp only [List.set_cons_succ]
        try simp only [List.set_cons_zero]
        refine wpAnyH_ready (rs := [15]) (by kernel_rfl) (by simp) ?_
        refine AllReadyH.cons rfl (fun K hK => ?_) AllReadyH.nil
        go_simp
        refine hK.out _ _ trivial (fun hHeld => ?_)
        clear hK K
        refine wpAnyH_done (by kernel_rfl) ?_ _
        refine NoPanic.normal ?_
        exact hQ
    · go_simp
      refine hK.out _ _ trivial (fun hHeld => ?_)
      clear hK K
      refine wpAnyH_ready (rs := [8]) (by kernel_rfl) (by simp) ?_
      refine AllReadyH.cons rfl (fun K hK => ?_) AllReadyH.nil
      go_simp
      refine (refNumber_at s _ _ 2 2 _ hs2 rfl rfl (by omega) (by omega)).mono ?_
      rintro e w1 ⟨rfl, rfl⟩
      go_wp2_with fail
      refine hK.out _ _ trivial (fun hHeld => ?_)
      clear hK K
      refine wpAnyH_ready (rs := [10]) (by kernel_rfl) (by simp) ?_
      refine AllReadyH.cons rfl (fun K hK => ?_) AllReadyH.nil
      go_simp
      refine (refNumber_at s _ _ 4 4 _ hs2 rfl rfl (by omega) (by omega)).mono ?_
      rintro e w1 ⟨rfl, rfl⟩
      go_wp2_with fail
      refine hK.out _ _ trivial (fun hHeld => ?_)
      clear hK K
      refine wpAnyH_ready (rs := [12]) (by kernel_rfl) (by simp) ?_
      refine AllReadyH.cons rfl (fun K hK => ?_) AllReadyH.nil
      go_simp
      refine (refNumber_at s _ _ 8 4 _ hs2 rfl rfl (by omega) (by omega)).mono ?_
      rintro e w1 ⟨rfl, rfl⟩
      go_wp2_with fail
      refine hK.out _ _ trivial (fun hHeld => ?_)
      clear hK K
      refine wpAnyH_take (i := 13) (v := ?v3014) rfl (by kernel_rfl) (by kernel_rfl) (by kernel_rfl) (fun _ _ _ h => h) (Or.inl ⟨by rfl, ?y3014⟩) hHeld ?r3014
      case y3014 => ((intro W hSw; go_simp) <;> with_reducible rfl)
      try simp only [Act.put]
      try simp only [List.getElem_toArray]
      try simp only [List.getElem_cons_succ]
      try simp only [List.getElem_cons_zero]
      try simp only [List.setIfInBounds_toArray]
      try simp only [List.set_cons_succ]
      try simp only [List.set_cons_zero]
      refine wpAnyH_ready (rs := [15]) (by kernel_rfl) (by simp) ?_
      refine AllReadyH.cons rfl (fun K hK => ?_) AllReadyH.nil
      go_simp
      refine hK.out _ _ trivial (fun hHeld => ?_)
      clear hK K
      refine wpAnyH_done (by kernel_rfl) ?_ _
      refine NoPanic.normal ?_
      exact hQ
  generalize hp0 : decide (128 ≤ ((B1 s).toNat : Int)) = b0 at *
  have Hp0 : Hid (decide (128 ≤ ((B1 s).toNat : Int)) = b0) := hp0
  generalize hp1 : ((B1 s).toNat : Int) % 128 = n1 at *
  have Hp1 : Hid (((B1 s).toNat : Int) % 128 = n1) := hp1
  generalize hn2 : num (List.take 2 (List.drop 2 s.data.toList)) = n2 at *
  have Hn2 : Hid (num (List.take 2 (List.drop 2 s.data.toList)) = n2) := hn2
  generalize hn3 : num (List.take 4 (List.drop 4 s.data.toList)) = n3 at *
  have Hn3 : Hid (num (List.take 4 (List.drop 4 s.data.toList)) = n3) := hn3
  generalize hn4 : num (List.take 4 (List.drop 8 s.data.toList)) = n4 at *
  have Hn4 : Hid (num (List.take 4 (List.drop 8 s.data.toList)) = n4) := hn4
  clear hp0 hp1 hn2 hn3 hn4 e128 e129 j1 hb1
  have hinfo : (Try.prog.info? 3).map (fun i => (i.zero, i.size, i.bytes)) = some (some (.int .i64 0), 1, 8) := by kernel_rfl
  obtain ⟨i0', hi', hz0, hz1, hz2⟩ := info_parts hinfo
  have Hi : Hid (Try.prog.info? 3 = some i0' ∧ i0'.zero = some (.int .i64 0) ∧ i0'.size = 1 ∧ i0'.bytes = 8) := ⟨hi', hz0, hz1, hz2⟩
  clear hi' hz0 hz1 hz2 hinfo
  go_wp2
  go_loopw [9] (fun i wr => ∃ (k : Nat) (v : Value), k ≤ C ∧ i = .int .i64 k ∧ RS w wr (.bool b0) (.int .i64 n1) (.int .i64 n2) (.int .i64 n3) (.int .i64 n4) v (.bool false) (.int .i64 0) (.string ⟨#[]⟩) (.string ⟨#[]⟩) (.int .i64 0) ∧ OwnInts wr (w.heap.size + 1 + 1 + 1) v (cl.take k)) (fun i _ => C - (intOf i).toNat)
  case atStart => exact ⟨0, .slice none 0 0, by omega, rfl, RS.init .., World.ownsRow_nil _ _ _ _⟩
  case round =>
    obtain ⟨k, v, hkC, rfl, hRS, hown⟩ := hrel
    have hlk : (cl.take k).length = k := by rw [List.length_take, HL.out]; omega
    obtain ⟨a1, c1, hv⟩ := hown.shape
    rw [hlk] at hv
    subst hv
    by_cases hlt : k < C
    · have Htk : Hid (cl.take (k + 1) = cl.take k ++ [(num (List.take 4 (List.drop (12 + 4 * k) s.data.toList)) : Int)]) := by
        show _ = _
        rw [← HW.out k hlt, List.take_succ_eq_append_getElem (by rw [HL.out]; exact hlt)]
        simp [List.getD, HL.out, hlt]
      obtain ⟨q, hq⟩ : ∃ q, num (List.take 4 (List.drop (12 + 4 * k) s.data.toList)) = q := ⟨_, rfl⟩
      have Hq : Hid (num (List.take 4 (List.drop (12 + 4 * k) s.data.toList)) = q) := hq
      rw [hq] at Htk
      clear hq
      have hlk1 : Hid ((cl.take (k + 1)).length = k + 1) := by show _ = _; rw [List.length_take, HL.out]; omega
      have hsz := hRS.siz
      have hy5 := hRS.y5
      have hal : ∀ o, (wr.alloc o).cell? ⟨w.heap.size + 1 + 1, 5, none⟩ = _ := fun o => cell_alloc hy5 o
      have HRS : Hid (RS w wr (.bool b0) (.int .i64 n1) (.int .i64 n2) (.int .i64 n3) (.int .i64 n4) (.slice a1 k c1) (.bool false) (.int .i64 0) (.string ⟨#[]⟩) (.string ⟨#[]⟩) (.int .i64 0)) := hRS
      have Hown : Hid (wr.ownsRow (w.heap.size + 1 + 1 + 1) 3 1 (.slice a1 k c1) k ((cl.take k).map (Value.int .i64))) := by have h : wr.ownsRow _ _ _ _ _ _ := hown; rw [hlk] at h; exact h
      have hlt' : (k : Int) < C := by omega
      have hw4 : IntKind.i64.wrap (4 * (k : Int)) = 4 * (k : Int) := wrapI64 _ (by omega) (by omega)
      have hw12 : IntKind.i64.wrap (12 + 4 * (k : Int)) = 12 + 4 * (k : Int) := wrapI64 _ (by omega) (by omega)
      have hkA : 12 + 4 * k + 4 ≤ A := by have := HA4.out; omega
      clear hRS hown hlk
      go_wp2
      refine region_once3 (R := fun a' c' w1 => OwnInts w1 (w.heap.size + 1 + 1 + 1) (.slice a' (k + 1) c') (cl.take (k + 1)) ∧ RS w w1 (.bool b0) (.int .i64 n1) (.int .i64 n2) (.int .i64 n3) (.int .i64 n4) (.slice a1 k c1) (.bool false) (.int .i64 0) (.string ⟨#[]⟩) (.string ⟨#[]⟩) (.int .i64 0)) (fa := ?fa3) (fw := ?fw3) ?g1 ?g2
      case g1 =>
        intro hQ
        refine wp_region_noPanic ?_
        refine wp_region_held_drew (S := fun _ => True) (by kernel_rfl) trivial (fun hHeld => ?_)
        refine wpAnyH_take (i := 0) (v := ?v3015) rfl (by kernel_rfl) (by kernel_rfl) (by kernel_rfl) (fun _ _ _ h => h) (Or.inl ⟨by rfl, ?y3015⟩) hHeld ?r3015
        case y3015 => ((intro W hSw; go_simp) <;> with_reducible rfl)
        try simp only [Act.put]
        try simp only [List.getElem_toArray]
        try simp only [List.getElem_cons_succ]
        try simp only [List.getElem_cons_zero]
        try simp only [List.setIfInBounds_toArray]
        try simp only [List.set_cons_succ]
        try simp only [List.set_cons_zero]
        refine wpAnyH_take (i := 2) (v := ?v3016) rfl (by kernel_rfl) (by kernel_rfl) (by kernel_rfl) (fun _ _ _ h => h) (Or.inl ⟨by rfl, ?y3016⟩) hHeld ?r3016
        case y3016 => ((intro W hSw; go_simp) <;> with_reducible rfl)
        try simp only [Act.put]
        try simp only [List.getElem_toArray]
        try simp only [List.getElem_cons_succ]
        try simp only [List.getElem_cons_zero]
        try simp only [List.setIfInBounds_toArray]
        try simp only [List.set_cons_succ]
        try simp only [List.set_cons_zero]
        refine wpAnyH_take (i := 3) (v := ?v3017) rfl (by kernel_rfl) (by kernel_rfl) (by kernel_rfl) (fun _ _ _ h => h) (Or.inl ⟨by rfl, ?y3017⟩) hHeld ?r3017
        case y3017 => ((intro W hSw; go_simp) <;> with_reducible rfl)
        try simp only [Act.put]
        try simp only [List.getElem_toArray]
        try simp only [List.getElem_cons_succ]
        try simp only [List.getElem_cons_zero]
        try simp only [List.setIfInBounds_toArray]
        try simp only [List.set_cons_succ]
        try simp only [List.set_cons_zero]
        refine wpAnyH_take (i := 4) (v := ?v3018) rfl (by kernel_rfl) (by kernel_rfl) (by kernel_rfl) (fun _ _ _ h => h) (Or.inl ⟨by rfl, ?y3018⟩) hHeld ?r3018
        case y3018 => ((intro W hSw; go_simp) <;> with_reducible rfl)
        try simp only [Act.put]
        try simp only [List.getElem_toArray]
        try simp only [List.getElem_cons_succ]
        try simp only [List.getElem_cons_zero]
        try simp only [List.setIfInBounds_toArray]
        try simp only [List.set_cons_succ]
        try simp only [List.set_cons_zero]
        refine wpAnyH_take (i := 5) (v := ?v3019) rfl (by kernel_rfl) (by kernel_rfl) (by kernel_rfl) (fun _ _ _ h => h) (Or.inl ⟨by rfl, ?y3019⟩) hHeld ?r3019
        case y3019 => ((intro W hSw; go_simp) <;> with_reducible rfl)
        try simp only [Act.put]
        try simp only [List.getElem_toArray]
        try simp only [List.getElem_cons_succ]
        try simp only [List.getElem_cons_zero]
        try simp only [List.setIfInBounds_toArray]
        try simp only [List.set_cons_succ]
        try simp only [List.set_cons_zero]
        refine wpAnyH_ready (rs := [1, 6]) (by kernel_rfl) (by simp) ?_
        refine AllReadyH.cons rfl (fun K hK => ?_) (AllReadyH.cons rfl (fun K hK => ?_) AllReadyH.nil)
        · go_simp
          refine hK.out _ _ trivial (fun hHeld => ?_)
          clear hK K
          refine wpAnyH_ready (rs := [6]) (by kernel_rfl) (by simp) ?_
          refine AllReadyH.cons rfl (fun K hK => ?_) AllReadyH.nil
          go_simp
          refine (refNumber_at s _ _ (12 + 4 * k) 4 _ hs2 (by omega) rfl (by omega) (by omega)).mono ?_
          rintro e w1 ⟨rfl, rfl⟩
          rw [Hq.out]
          go_wp2_with fail
          refine hK.out _ _ trivial (fun hHeld => ?_)
          clear hK K
          refine wpAnyH_ready (rs := [7]) (by kernel_rfl) (by simp) ?_
          refine AllReadyH.cons rfl (fun K hK => ?_) AllReadyH.nil
          go_simp
          refine hK.out _ _ trivial (fun hHeld => ?_)
          clear hK K
          refine wpAnyH_ready (rs := [8]) (by kernel_rfl) (by simp) ?_
          refine AllReadyH.cons rfl (fun K hK => ?_) AllReadyH.nil
          rw [if_pos (by rfl)]
          refine wp_append_own _ (.tmp 65) (.tmp 71) 27 rfl (w.heap.size + 1 + 1 + 1) 3 i0' (.int .i64 0) 1 8 Try.underlying27 Hi.out.1 Hi.out.2.1 Hi.out.2.2.1 Hi.out.2.2.2 rfl (by decide) (.slice a1 k c1) k ((cl.take k).map (Value.int .i64)) (by rfl) (World.ownsRow.drew (World.ownsRow.alloc Hown.out _)) _ 1 1 [.int .i64 q] (by rfl) rfl (cell_one_new _ _ _) ?_ ?_ ?_ ?_ ?_
          · intro u hu; simp at hu; subst hu; rfl
          · unfold maxLen; omega
          · omega
          · have := hsz; simp; omega
          intro v' w1 hown' hgrow _
          have R1 : OwnInts w1 (w.heap.size + 1 + 1 + 1) v' (cl.take (k + 1)) := by show w1.ownsRow _ _ _ _ _ _; rw [hlk1.out, Htk.out, List.map_append]; exact hown'
          have R2 : RS w w1 (.bool b0) (.int .i64 n1) (.int .i64 n2) (.int .i64 n3) (.int .i64 n4) (.slice a1 k c1) (.bool false) (.int .i64 0) (.string ⟨#[]⟩) (.string ⟨#[]⟩) (.int .i64 0) := (HRS.out.below (((Below.refl _ _).alloc (Nat.succ_le_of_lt hsz) _).drew)).below ((Below.refl _ _).grown hgrow (by have := hsz; simp; omega) (fun g hg => (World.ownsRow.lt Hown.out g hg).1))
          obtain ⟨a', c', hv'⟩ := R1.shape
          rw [hlk1.out] at hv'
          subst hv'
          refine hK.out _ _ trivial (fun hHeld => ?_)
          clear hK K hown' hgrow
          try simp only [Act.put]
          try simp only [List.getElem_toArray]
          try simp only [List.getElem_cons_succ]
          try simp only [List.getElem_cons_zero]
          try simp only [List.setIfInBounds_toArray]
          try simp only [List.set_cons_succ]
          try simp only [List.set_cons_zero]
          refine wpAnyH_take (i := 9) (v := ?v3020) rfl (by kernel_rfl) (by kernel_rfl) (by kernel_rfl) (fun _ _ _ h => h) (Or.inl ⟨by rfl, ?y3020⟩) hHeld ?r3020
          case y3020 => ((intro W hSw; go_simp) <;> with_reducible rfl)
          try simp only [Act.put]
          try simp only [List.getElem_toArray]
          try simp only [List.getElem_cons_succ]
          try simp only [List.getElem_cons_zero]
          try simp only [List.setIfInBounds_toArray]
          try simp only [List.set_cons_succ]
          try simp only [List.set_cons_zero]
          refine wpAnyH_ready (rs := [10]) (by kernel_rfl) (by simp) ?_
          refine AllReadyH.cons rfl (fun K hK => ?_) AllReadyH.nil
          have yy := R2.y5
          have ff := R2.fy
          go_simp
          refine hK.out _ _ trivial (fun hHeld => ?_)
          clear hK K
          refine wpAnyH_done (by kernel_rfl) ?_ _
          refine NoPanic.normal ?_
          exact hQ a' c' w1 ⟨R1, R2⟩
        · go_simp
          refine (refNumber_at s _ _ (12 + 4 * k) 4 _ hs2 (by omega) rfl (by omega) (by omega)).mono ?_
          rintro e w1 ⟨rfl, rfl⟩
          rw [Hq.out]
          go_wp2_with fail
          refine hK.out _ _ trivial (fun hHeld => ?_)
          clear hK K
          refine wpAnyH_ready (rs := [1, 7]) (by kernel_rfl) (by simp) ?_
          refine AllReadyH.cons rfl (fun K hK => ?_) (AllReadyH.cons rfl (fun K hK => ?_) AllReadyH.nil)
          · go_simp
            refine hK.out _ _ trivial (fun hHeld => ?_)
            clear hK K
            refine wpAnyH_ready (rs := [7]) (by kernel_rfl) (by simp) ?_
            refine AllReadyH.cons rfl (fun K hK => ?_) AllReadyH.nil
            go_simp
            refine hK.out _ _ trivial (fun hHeld => ?_)
            clear hK K
            refine wpAnyH_ready (rs := [8]) (by kernel_rfl) (by simp) ?_
            refine AllReadyH.cons rfl (fun K hK => ?_) AllReadyH.nil
            rw [if_pos (by rfl)]
            refine wp_append_own _ (.tmp 65) (.tmp 71) 27 rfl (w.heap.size + 1 + 1 + 1) 3 i0' (.int .i64 0) 1 8 Try.underlying27 Hi.out.1 Hi.out.2.1 Hi.out.2.2.1 Hi.out.2.2.2 rfl (by decide) (.slice a1 k c1) k ((cl.take k).map (Value.int .i64)) (by rfl) (World.ownsRow.drew (World.ownsRow.alloc Hown.out _)) _ 1 1 [.int .i64 q] (by rfl) rfl (cell_one_new _ _ _) ?_ ?_ ?_ ?_ ?_
            · intro u hu; simp at hu; subst hu; rfl
            · unfold maxLen; omega
            · omega
            · have := hsz; simp; omega
            intro v' w1 hown' hgrow _
            have R1 : OwnInts w1 (w.heap.size + 1 + 1 + 1) v' (cl.take (k + 1)) := by show w1.ownsRow _ _ _ _ _ _; rw [hlk1.out, Htk.out, List.map_append]; exact hown'
            have R2 : RS w w1 (.bool b0) (.int .i64 n1) (.int .i64 n2) (.int .i64 n3) (.int .i64 n4) (.slice a1 k c1) (.bool false) (.int .i64 0) (.string ⟨#[]⟩) (.string ⟨#[]⟩) (.int .i64 0) := (HRS.out.below (((Below.refl _ _).alloc (Nat.succ_le_of_lt hsz) _).drew)).below ((Below.refl _ _).grown hgrow (by have := hsz; simp; omega) (fun g hg => (World.ownsRow.lt Hown.out g hg).1))
            obtain ⟨a', c', hv'⟩ := R1.shape
            rw [hlk1.out] at hv'
            subst hv'
            refine hK.out _ _ trivial (fun hHeld => ?_)
            clear hK K hown' hgrow
            try simp only [Act.put]
            try simp only [List.getElem_toArray]
            try simp only [List.getElem_cons_succ]
            try simp only [List.getElem_cons_zero]
            try simp only [List.setIfInBounds_toArray]
            try simp only [List.set_cons_succ]
            try simp only [List.set_cons_zero]
            refine wpAnyH_take (i := 9) (v := ?v3021) rfl (by kernel_rfl) (by kernel_rfl) (by kernel_rfl) (fun _ _ _ h => h) (Or.inl ⟨by rfl, ?y3021⟩) hHeld ?r3021
            case y3021 => ((intro W hSw; go_simp) <;> with_reducible rfl)
            try simp only [Act.put]
            try simp only [List.getElem_toArray]
            try simp only [List.getElem_cons_succ]
            try simp only [List.getElem_cons_zero]
            try simp only [List.setIfInBounds_toArray]
            try simp only [List.set_cons_succ]
            try simp only [List.set_cons_zero]
            refine wpAnyH_ready (rs := [10]) (by kernel_rfl) (by simp) ?_
            refine AllReadyH.cons rfl (fun K hK => ?_) AllReadyH.nil
            have yy := R2.y5
            have ff := R2.fy
            go_simp
            refine hK.out _ _ trivial (fun hHeld => ?_)
            clear hK K
            refine wpAnyH_done (by kernel_rfl) ?_ _
            refine NoPanic.normal ?_
            exact hQ a' c' w1 ⟨R1, R2⟩
          · go_simp
            refine hK.out _ _ trivial (fun hHeld => ?_)
            clear hK K
            refine wpAnyH_ready (rs := [1]) (by kernel_rfl) (by simp) ?_
            refine AllReadyH.cons rfl (fun K hK => ?_) AllReadyH.nil
            go_simp
            refine hK.out _ _ trivial (fun hHeld => ?_)
            clear hK K
            refine wpAnyH_ready (rs := [8]) (by kernel_rfl) (by simp) ?_
            refine AllReadyH.cons rfl (fun K hK => ?_) AllReadyH.nil
            rw [if_pos (by rfl)]
            refine wp_append_own _ (.tmp 65) (.tmp 71) 27 rfl (w.heap.size + 1 + 1 + 1) 3 i0' (.int .i64 0) 1 8 Try.underlying27 Hi.out.1 Hi.out.2.1 Hi.out.2.2.1 Hi.out.2.2.2 rfl (by decide) (.slice a1 k c1) k ((cl.take k).map (Value.int .i64)) (by rfl) (World.ownsRow.drew (World.ownsRow.alloc Hown.out _)) _ 1 1 [.int .i64 q] (by rfl) rfl (cell_one_new _ _ _) ?_ ?_ ?_ ?_ ?_
            · intro u hu; simp at hu; subst hu; rfl
            · unfold maxLen; omega
            · omega
            · have := hsz; simp; omega
            intro v' w1 hown' hgrow _
            have R1 : OwnInts w1 (w.heap.size + 1 + 1 + 1) v' (cl.take (k + 1)) := by show w1.ownsRow _ _ _ _ _ _; rw [hlk1.out, Htk.out, List.map_append]; exact hown'
            have R2 : RS w w1 (.bool b0) (.int .i64 n1) (.int .i64 n2) (.int .i64 n3) (.int .i64 n4) (.slice a1 k c1) (.bool false) (.int .i64 0) (.string ⟨#[]⟩) (.string ⟨#[]⟩) (.int .i64 0) := (HRS.out.below (((Below.refl _ _).alloc (Nat.succ_le_of_lt hsz) _).drew)).below ((Below.refl _ _).grown hgrow (by have := hsz; simp; omega) (fun g hg => (World.ownsRow.lt Hown.out g hg).1))
            obtain ⟨a', c', hv'⟩ := R1.shape
            rw [hlk1.out] at hv'
            subst hv'
            refine hK.out _ _ trivial (fun hHeld => ?_)
            clear hK K hown' hgrow
            try simp only [Act.put]
            try simp only [List.getElem_toArray]
            try simp only [List.getElem_cons_succ]
            try simp only [List.getElem_cons_zero]
            try simp only [List.setIfInBounds_toArray]
            try simp only [List.set_cons_succ]
            try simp only [List.set_cons_zero]
            refine wpAnyH_take (i := 9) (v := ?v3022) rfl (by kernel_rfl) (by kernel_rfl) (by kernel_rfl) (fun _ _ _ h => h) (Or.inl ⟨by rfl, ?y3022⟩) hHeld ?r3022
            case y3022 => ((intro W hSw; go_simp) <;> with_reducible rfl)
            try simp only [Act.put]
            try simp only [List.getElem_toArray]
            try simp only [List.getElem_cons_succ]
            try simp only [List.getElem_cons_zero]
            try simp only [List.setIfInBounds_toArray]
            try simp only [List.set_cons_succ]
            try simp only [List.set_cons_zero]
            refine wpAnyH_ready (rs := [10]) (by kernel_rfl) (by simp) ?_
            refine AllReadyH.cons rfl (fun K hK => ?_) AllReadyH.nil
            have yy := R2.y5
            have ff := R2.fy
            go_simp
            refine hK.out _ _ trivial (fun hHeld => ?_)
            clear hK K
            refine wpAnyH_done (by kernel_rfl) ?_ _
            refine NoPanic.normal ?_
            exact hQ a' c' w1 ⟨R1, R2⟩
      intro a' c' w1 hR
      obtain ⟨R1, R2⟩ := hR
      have hRS := R2.set5 (.slice a' (k + 1) c')
      have hown := R1.setCell (a := ⟨w.heap.size + 1 + 1, 5, none⟩) (by simp) (.slice a' (k + 1) c')
      clear R1 R2
      go_wp2
      go_roundw
      case rel => exact ⟨k + 1, _, by omega, by go_num, hRS, hown⟩
      case measure => simp [intOf]; omega
    · have hkk : k = C := by omega
      subst hkk
      have Hown : Hid (OwnInts wr (w.heap.size + 1 + 1 + 1) (.slice a1 k c1) cl) := by rw [List.take_of_length_le (by rw [HL.out]; exact Nat.le_refl _)] at hown; exact hown
      have hnlt : ¬ (k : Int) < k := by omega
      have hb0 : (B0 s).toNat ≤ 255 := by have := (B0 s).toNat_lt; omega
      have E0 : Hid (b0 = decide (128 ≤ (B1 s).toNat)) := by show _ = _; rw [← Hp0.out, decide_eq_decide]; omega
      have E1 : Hid (n1 = (((B1 s).toNat % 128 : Nat) : Int)) := by show _ = _; rw [← Hp1.out]; omega
      clear hown hlk hkC hlt HW Hi HA4 hA1 hC1 hC2
      have HRS : Hid (RS w wr (.bool b0) (.int .i64 n1) (.int .i64 n2) (.int .i64 n3) (.int .i64 n4) (.slice a1 k c1) (.bool false) (.int .i64 0) (.string ⟨#[]⟩) (.string ⟨#[]⟩) (.int .i64 0)) := hRS
      obtain ⟨bel, siz, r0, r1, r2, r3, r4, r5, r6, r7, r8, r9, r10, m0, m1, m2, m3, m4, m5, m6, m7, m8, m9, m10, y0, y1, y2, y3, y4, y5, y6, y7, y8, y9, y10, fr, fy⟩ := hRS
      have hxd : decide ((B0 s).toNat / 2 ^ 4 % 2 = 1) = false := decide_eq_false (by simpa using hx)
      have hxe : decide ((B0 s).toNat / 16 % 2 = 1) = false := decide_eq_false hx
      have HX : Hid (extPart s = some (0, ⟨#[]⟩, A)) := by show _ = _; unfold extPart; rw [if_neg hx, HA.out]
      clear hx
      go_wp2_with fail
      refine (refBit_at _ _ (B0 s).toNat 4 _ rfl rfl (by omega) (by omega)).mono ?_
      rintro e w1 ⟨rfl, rfl⟩
      rw [hxd]
      by_cases hp : (B0 s).toNat / 32 % 2 = 1
      · have hpd : decide ((B0 s).toNat / 2 ^ 5 % 2 = 1) = true := decide_eq_true (by simpa using hp)
        have hq := (Bl s).toNat_lt
        have jl : ∀ W : World, (Instr.index 9 (.string s) (.int .i64 ((s.size : Int) - 1))).run Try.prog W = .ok (.int .u8 ((Bl s).toNat : Int)) W := fun W => run_last W s (by omega)
        have HPd : Hid (padPart s A = if (Bl s).toNat = 0 ∨ s.size - A < (Bl s).toNat then none else if noughts (s.extract (s.size - (Bl s).toNat) (s.size - 1)).data.toList = true then some ((Bl s).toNat, s.size - (Bl s).toNat) else none) := by show _ = _; unfold padPart; rw [if_pos hp]
        clear hp
        generalize hqq : (Bl s).toNat = q at *
        have Hqq : Hid ((Bl s).toNat = q) := hqq
        clear hqq
        go_wp2_with fail
        refine (refBit_at _ _ (B0 s).toNat 5 _ rfl rfl (by omega) (by omega)).mono ?_
        rintro e w1 ⟨rfl, rfl⟩
        rw [hpd]
        by_cases hE : s.size = A
        · have hEm : (s.extract A s.size).toList.isEmpty = true := by rw [isEmpty_size, ByteArray.size_extract]; exact decide_eq_true (by omega)
          have HR : Hid (readP s = none) := by
            show _ = _
            rw [HP.out, HX.out]
            simp only [Option.bind_some]
            rw [HPd.out, if_pos (by omega)]
            rfl
          clear hE
          go_wp2
          refine bodyPost_ret (v := wrongV) (by simp [results, Try.results39, wrongV, go_sem, r0, r1, r2, r3, r4, r5, r6, r7, r8, r9, r10]) rfl ⟨?_, ?_⟩
          · exact below_fin ((bel.setCell (p := ⟨w.heap.size + 1 + 1, 6, none⟩) (by simp <;> omega) _).setCell (p := ⟨w.heap.size + 1 + 1, 9, none⟩) (by simp <;> omega) _)
          · rw [HR.out]
            rfl
        · have hEm : (s.extract A s.size).toList.isEmpty = false := by rw [isEmpty_size, ByteArray.size_extract]; exact decide_eq_false (by omega)
          have hE' : A < s.size := by omega
          have HS : Hid (∀ W, RS w W (.bool b0) (.int .i64 n1) (.int .i64 n2) (.int .i64 n3) (.int .i64 n4) (.slice a1 k c1) (.bool false) (.int .i64 0) (.string ⟨#[]⟩) (.string (s.extract A s.size)) (.int .i64 0) → W.drew.cell? ⟨w.heap.size + 1 + 1, 9, none⟩ = some (.string (s.extract A s.size))) := fun W h => h.y9
          clear hE
          go_wp2
          by_cases hq0 : q = 0
          · have hq0' : ((q : Int) == 0) = true := by simp [hq0]
            have HR : Hid (readP s = none) := by
              show _ = _
              rw [HP.out, HX.out]
              simp only [Option.bind_some]
              rw [HPd.out, if_pos (.inl hq0)]
              rfl
            clear hq0
            refine wp_region_noPanic ?_
            refine wp_region_held_drew (S := fun W => W.cell? ⟨w.heap.size + 1 + 1, 9, none⟩ = some (.string (s.extract A s.size))) (by kernel_rfl) (HS.out _ ((HRS.out.set6 _).set9 _)) (fun hHeld => ?_)
            refine wpAnyH_take (i := 0) (v := ?v3023) rfl (by kernel_rfl) (by kernel_rfl) (by kernel_rfl) (fun _ _ _ h => h) (Or.inl ⟨by rfl, ?y3023⟩) hHeld ?r3023
            case y3023 => ((intro W hSw; go_simp) <;> with_reducible rfl)
            try simp only [Act.put]
            try simp only [List.getElem_toArray]
            try simp only [List.getElem_cons_succ]
            try simp only [List.getElem_cons_zero]
            try simp only [List.setIfInBounds_toArray]
            try simp only [List.set_cons_succ]
            try simp only [List.set_cons_zero]
            refine wpAnyH_take (i := 1) (v := ?v3024) rfl (by kernel_rfl) (by kernel_rfl) (by kernel_rfl) (fun _ _ _ h => h) (Or.inl ⟨by rfl, ?y3024⟩) hHeld ?r3024
            case y3024 => ((intro W hSw; go_simp) <;> with_reducible rfl)
            try simp only [Act.put]
            try simp only [List.getElem_toArray]
            try simp only [List.getElem_cons_succ]
            try simp only [List.getElem_cons_zero]
            try simp only [List.setIfInBounds_toArray]
            try simp only [List.set_cons_succ]
            try simp only [List.set_cons_zero]
            refine wpAnyH_take (i := 2) (v := ?v3025) rfl (by kernel_rfl) (by kernel_rfl) (by kernel_rfl) (fun _ _ _ h => h) (Or.inl ⟨by rfl, ?y3025⟩) hHeld ?r3025
            case y3025 => ((intro W hSw; go_simp) <;> with_reducible rfl)
            try simp only [Act.put]
            try simp only [List.getElem_toArray]
            try simp only [List.getElem_cons_succ]
            try simp only [List.getElem_cons_zero]
            try simp only [List.setIfInBounds_toArray]
            try simp only [List.set_cons_succ]
            try simp only [List.set_cons_zero]
            refine wpAnyH_take (i := 3) (v := undef) rfl (by kernel_rfl) (by kernel_rfl) (by kernel_rfl) (fun _ _ _ h => h) (Or.inr ⟨by rfl, rfl⟩) hHeld ?r3026
            try simp only [Act.put]
            try simp only [List.getElem_toArray]
            try simp only [List.getElem_cons_succ]
            try simp only [List.getElem_cons_zero]
            try simp only [List.setIfInBounds_toArray]
            try simp only [List.set_cons_succ]
            try simp only [List.set_cons_zero]
            refine wpAnyH_take (i := 4) (v := undef) rfl (by kernel_rfl) (by kernel_rfl) (by kernel_rfl) (fun _ _ _ h => h) (Or.inr ⟨by rfl, rfl⟩) hHeld ?r3027
            try simp only [Act.put]
            try simp only [List.getElem_toArray]
            try simp only [List.getElem_cons_succ]
            try simp only [List.getElem_cons_zero]
            try simp only [List.setIfInBounds_toArray]
            try simp only [List.set_cons_succ]
            try simp only [List.set_cons_zero]
            refine wpAnyH_take (i := 5) (v := undef) rfl (by kernel_rfl) (by kernel_rfl) (by kernel_rfl) (fun _ _ _ h => h) (Or.inr ⟨by rfl, rfl⟩) hHeld ?r3028
            try simp only [Act.put]
            try simp only [List.getElem_toArray]
            try simp only [List.getElem_cons_succ]
            try simp only [List.getElem_cons_zero]
            try simp only [List.setIfInBounds_toArray]
            try simp only [List.set_cons_succ]
            try simp only [List.set_cons_zero]
            refine wpAnyH_take (i := 6) (v := undef) rfl (by kernel_rfl) (by kernel_rfl) (by kernel_rfl) (fun _ _ _ h => h) (Or.inr ⟨by rfl, rfl⟩) hHeld ?r3029
            try simp only [Act.put]
            try simp only [List.getElem_toArray]
            try simp only [List.getElem_cons_succ]
            try simp only [List.getElem_cons_zero]
            try simp only [List.setIfInBounds_toArray]
            try simp only [List.set_cons_succ]
            try simp only [List.set_cons_zero]
            refine wpAnyH_take (i := 7) (v := undef) rfl (by kernel_rfl) (by kernel_rfl) (by kernel_rfl) (fun _ _ _ h => h) (Or.inr ⟨by rfl, rfl⟩) hHeld ?r3030
            try simp only [Act.put]
            try simp only [List.getElem_toArray]
            try simp only [List.getElem_cons_succ]
            try simp only [List.getElem_cons_zero]
            try simp only [List.setIfInBounds_toArray]
            try simp only [List.set_cons_succ]
            try simp only [List.set_cons_zero]
            refine wpAnyH_take (i := 8) (v := ?v3031) rfl (by kernel_rfl) (by kernel_rfl) (by kernel_rfl) (fun _ _ _ h => h) (Or.inl ⟨by rfl, ?y3031⟩) hHeld ?r3031
            case y3031 => ((intro W hSw; go_simp) <;> with_reducible rfl)
            try simp only [Act.put]
            try simp only [List.getElem_toArray]
            try simp only [List.getElem_cons_succ]
            try simp only [List.getElem_cons_zero]
            try simp only [List.setIfInBounds_toArray]
            try simp only [List.set_cons_succ]
            try simp only [List.set_cons_zero]
            refine wpAnyH_take (i := 9) (v := ?v3032) rfl (by kernel_rfl) (by kernel_rfl) (by kernel_rfl) (fun _ _ _ h => h) (Or.inl ⟨by rfl, ?y3032⟩) hHeld ?r3032
            case y3032 => ((intro W hSw; go_simp) <;> with_reducible rfl)
            try simp only [Act.put]
            try simp only [List.getElem_toArray]
            try simp only [List.getElem_cons_succ]
            try simp only [List.getElem_cons_zero]
            try simp only [List.setIfInBounds_toArray]
            try simp only [List.set_cons_succ]
            try simp only [List.set_cons_zero]
            refine wpAnyH_take (i := 10) (v := undef) rfl (by kernel_rfl) (by kernel_rfl) (by kernel_rfl) (fun _ _ _ h => h) (Or.inr ⟨by rfl, rfl⟩) hHeld ?r3033
            try simp only [Act.put]
            try simp only [List.getElem_toArray]
            try simp only [List.getElem_cons_succ]
            try simp only [List.getElem_cons_zero]
            try simp only [List.setIfInBounds_toArray]
            try simp only [List.set_cons_succ]
            try simp only [List.set_cons_zero]
            refine wpAnyH_take (i := 11) (v := undef) rfl (by kernel_rfl) (by kernel_rfl) (by kernel_rfl) (fun _ _ _ h => h) (Or.inr ⟨by rfl, rfl⟩) hHeld ?r3034
            try simp only [Act.put]
            try simp only [List.getElem_toArray]
            try simp only [List.getElem_cons_succ]
            try simp only [List.getElem_cons_zero]
            try simp only [List.setIfInBounds_toArray]
            try simp only [List.set_cons_succ]
            try simp only [List.set_cons_zero]
            refine wpAnyH_take (i := 12) (v := undef) rfl (by kernel_rfl) (by kernel_rfl) (by kernel_rfl) (fun _ _ _ h => h) (Or.inr ⟨by rfl, rfl⟩) hHeld ?r3035
            try simp only [Act.put]
            try simp only [List.getElem_toArray]
            try simp only [List.getElem_cons_succ]
            try simp only [List.getElem_cons_zero]
            try simp only [List.setIfInBounds_toArray]
            try simp only [List.set_cons_succ]
            try simp only [List.set_cons_zero]
            refine wpAnyH_take (i := 13) (v := undef) rfl (by kernel_rfl) (by kernel_rfl) (by kernel_rfl) (fun _ _ _ h => h) (Or.inr ⟨by rfl, rfl⟩) hHeld ?r3036
            try simp only [Act.put]
            try simp only [List.getElem_toArray]
            try simp only [List.getElem_cons_succ]
            try simp only [List.getElem_cons_zero]
            try simp only [List.setIfInBounds_toArray]
            try simp only [List.set_cons_succ]
            try simp only [List.set_cons_zero]
            refine wpAnyH_take (i := 14) (v := undef) rfl (by kernel_rfl) (by kernel_rfl) (by kernel_rfl) (fun _ _ _ h => h) (Or.inr ⟨by rfl, rfl⟩) hHeld ?r3037
            try simp only [Act.put]
            try simp only [List.getElem_toArray]
            try simp only [List.getElem_cons_succ]
            try simp only [List.getElem_cons_zero]
            try simp only [List.setIfInBounds_toArray]
            try simp only [List.set_cons_succ]
            try simp only [List.set_cons_zero]
            refine wpAnyH_take (i := 15) (v := undef) rfl (by kernel_rfl) (by kernel_rfl) (by kernel_rfl) (fun _ _ _ h => h) (Or.inr ⟨by rfl, rfl⟩) hHeld ?r3038
            try simp only [Act.put]
            try simp only [List.getElem_toArray]
            try simp only [List.getElem_cons_succ]
            try simp only [List.getElem_cons_zero]
            try simp only [List.setIfInBounds_toArray]
            try simp only [List.set_cons_succ]
            try simp only [List.set_cons_zero]
            refine wpAnyH_take (i := 16) (v := undef) rfl (by kernel_rfl) (by kernel_rfl) (by kernel_rfl) (fun _ _ _ h => h) (Or.inr ⟨by rfl, rfl⟩) hHeld ?r3039
            try simp only [Act.put]
            try simp only [List.getElem_toArray]
            try simp only [List.getElem_cons_succ]
            try simp only [List.getElem_cons_zero]
            try simp only [List.setIfInBounds_toArray]
            try simp only [List.set_cons_succ]
            try simp only [List.set_cons_zero]
            refine wpAnyH_take (i := 17) (v := undef) rfl (by kernel_rfl) (by kernel_rfl) (by kernel_rfl) (fun _ _ _ h => h) (Or.inr ⟨by rfl, rfl⟩) hHeld ?r3040
            try simp only [Act.put]
            try simp only [List.getElem_toArray]
            try simp only [List.getElem_cons_succ]
            try simp only [List.getElem_cons_zero]
            try simp only [List.setIfInBounds_toArray]
            try simp only [List.set_cons_succ]
            try simp only [List.set_cons_zero]
            refine wpAnyH_take (i := 18) (v := undef) rfl (by kernel_rfl) (by kernel_rfl) (by kernel_rfl) (fun _ _ _ h => h) (Or.inr ⟨by rfl, rfl⟩) hHeld ?r3041
            try simp only [Act.put]
            try simp only [List.getElem_toArray]
            try simp only [List.getElem_cons_succ]
            try simp only [List.getElem_cons_zero]
            try simp only [List.setIfInBounds_toArray]
            try simp only [List.set_cons_succ]
            try simp only [List.set_cons_zero]
            refine wpAnyH_take (i := 19) (v := undef) rfl (by kernel_rfl) (by kernel_rfl) (by kernel_rfl) (fun _ _ _ h => h) (Or.inr ⟨by rfl, rfl⟩) hHeld ?r3042
            try simp only [Act.put]
            try simp only [List.getElem_toArray]
            try simp only [List.getElem_cons_succ]
            try simp only [List.getElem_cons_zero]
            try simp only [List.setIfInBounds_toArray]
            try simp only [List.set_cons_succ]
            try simp only [List.set_cons_zero]
            refine wpAnyH_take (i := 20) (v := undef) rfl (by kernel_rfl) (by kernel_rfl) (by kernel_rfl) (fun _ _ _ h => h) (Or.inr ⟨by rfl, rfl⟩) hHeld ?r3043
            try simp only [Act.put]
            try simp only [List.getElem_toArray]
            try simp only [List.getElem_cons_succ]
            try simp only [List.getElem_cons_zero]
            try simp only [List.setIfInBounds_toArray]
            try simp only [List.set_cons_succ]
            try simp only [List.set_cons_zero]
            refine wpAnyH_take (i := 21) (v := undef) rfl (by kernel_rfl) (by kernel_rfl) (by kernel_rfl) (fun _ _ _ h => h) (Or.inr ⟨by rfl, rfl⟩) hHeld ?r3044
            try simp only [Act.put]
            try simp only [List.getElem_toArray]
            try simp only [List.getElem_cons_succ]
            try simp only [List.getElem_cons_zero]
            try simp only [List.setIfInBounds_toArray]
            try simp only [List.set_cons_succ]
            try simp only [List.set_cons_zero]
            refine wpAnyH_take (i := 22) (v := undef) rfl (by kernel_rfl) (by kernel_rfl) (by kernel_rfl) (fun _ _ _ h => h) (Or.inr ⟨by rfl, rfl⟩) hHeld ?r3045
            try simp only [Act.put]
            try simp only [List.getElem_toArray]
            try simp only [List.getElem_cons_succ]
            try simp only [List.getElem_cons_zero]
            try simp only [List.setIfInBounds_toArray]
            try simp only [List.set_cons_succ]
            try simp only [List.set_cons_zero]
            refine wpAnyH_take (i := 23) (v := ?v3046) rfl (by kernel_rfl) (by kernel_rfl) (by kernel_rfl) (fun _ _ _ h => h) (Or.inl ⟨by rfl, ?y3046⟩) hHeld ?r3046
            case y3046 => ((intro W hSw; go_simp) <;> with_reducible rfl)
            try simp only [Act.put]
            try simp only [List.getElem_toArray]
            try simp only [List.getElem_cons_succ]
            try simp only [List.getElem_cons_zero]
            try simp only [List.setIfInBounds_toArray]
            try simp only [List.set_cons_succ]
            try simp only [List.set_cons_zero]
            refine wpAnyH_done (by kernel_rfl) ?_ _
            refine NoPanic.normal ?_
            clear hHeld
            have hRd := ((HRS.out.set6 _).set9 _).below (W' := ((w1.setCell ⟨w.heap.size + 1 + 1, 6, none⟩ (.bool false)).setCell ⟨w.heap.size + 1 + 1, 9, none⟩ (.string (s.extract A s.size))).drew) ((Below.refl _ _).drew)
            have hOd : OwnInts ((w1.setCell ⟨w.heap.size + 1 + 1, 6, none⟩ (.bool false)).setCell ⟨w.heap.size + 1 + 1, 9, none⟩ (.string (s.extract A s.size))).drew (w.heap.size + 1 + 1 + 1) (.slice a1 k c1) cl := ((Hown.out.setCell (a := ⟨w.heap.size + 1 + 1, 6, none⟩) (by simp) _).setCell (a := ⟨w.heap.size + 1 + 1, 9, none⟩) (by simp) _)
            clear bel siz r0 r1 r2 r3 r4 r5 r6 r7 r8 r9 r10 m0 m1 m2 m3 m4 m5 m6 m7 m8 m9 m10 y0 y1 y2 y3 y4 y5 y6 y7 y8 y9 y10 fr fy HRS Hown
            generalize ((w1.setCell ⟨w.heap.size + 1 + 1, 6, none⟩ (.bool false)).setCell ⟨w.heap.size + 1 + 1, 9, none⟩ (.string (s.extract A s.size))).drew = W9 at hRd hOd ⊢
            have Hown : Hid (OwnInts W9 (w.heap.size + 1 + 1 + 1) (.slice a1 k c1) cl) := hOd
            obtain ⟨bel, siz, r0, r1, r2, r3, r4, r5, r6, r7, r8, r9, r10, m0, m1, m2, m3, m4, m5, m6, m7, m8, m9, m10, y0, y1, y2, y3, y4, y5, y6, y7, y8, y9, y10, fr, fy⟩ := hRd
            clear hOd
            clear hq0' jl hEm hq
            go_wp2
            refine bodyPost_ret (v := wrongV) (by simp [results, Try.results39, wrongV, go_sem, r0, r1, r2, r3, r4, r5, r6, r7, r8, r9, r10]) rfl ⟨?_, ?_⟩
            · exact below_fin bel
            · rw [HR.out]
              rfl
          · have hq0' : ((q : Int) == 0) = false := by simpa using hq0
            generalize hPP : s.extract A s.size = P at *
            have HPP : Hid (s.extract A s.size = P) := hPP
            have hPs : P.size = s.size - A := by rw [← hPP, ByteArray.size_extract]; omega
            have HPs : Hid (P.size = s.size - A) := hPs
            have hPb : P.size ≤ 1500 := by omega
            clear hPP
            by_cases hq1 : s.size - A < q
            · have hq1' : (P.size : Int) < q := by omega
              have hq1n : P.size < q := by omega
              have hq1d : decide ((P.size : Int) < (q : Int)) = true := decide_eq_true hq1'
              have HR : Hid (readP s = none) := by
                show _ = _
                rw [HP.out, HX.out]
                simp only [Option.bind_some]
                rw [HPd.out, if_pos (.inr hq1)]
                rfl
              clear hq0 hq1 hPs
              refine wp_region_noPanic ?_
              refine wp_region_held_drew (S := fun W => W.cell? ⟨w.heap.size + 1 + 1, 9, none⟩ = some (.string P)) (by kernel_rfl) (HS.out _ ((HRS.out.set6 _).set9 _)) (fun hHeld => ?_)
              refine wpAnyH_take (i := 0) (v := ?v3047) rfl (by kernel_rfl) (by kernel_rfl) (by kernel_rfl) (fun _ _ _ h => h) (Or.inl ⟨by rfl, ?y3047⟩) hHeld ?r3047
              case y3047 => ((intro W hSw; go_simp) <;> with_reducible rfl)
              try simp only [Act.put]
              try simp only [List.getElem_toArray]
              try simp only [List.getElem_cons_succ]
              try simp only [List.getElem_cons_zero]
              try simp only [List.setIfInBounds_toArray]
              try simp only [List.set_cons_succ]
              try simp only [List.set_cons_zero]
              refine wpAnyH_take (i := 1) (v := ?v3048) rfl (by kernel_rfl) (by kernel_rfl) (by kernel_rfl) (fun _ _ _ h => h) (Or.inl ⟨by rfl, ?y3048⟩) hHeld ?r3048
              case y3048 => ((intro W hSw; go_simp) <;> with_reducible rfl)
              try simp only [Act.put]
              try simp only [List.getElem_toArray]
              try simp only [List.getElem_cons_succ]
              try simp only [List.getElem_cons_zero]
              try simp only [List.setIfInBounds_toArray]
              try simp only [List.set_cons_succ]
              try simp only [List.set_cons_zero]
              refine wpAnyH_take (i := 2) (v := ?v3049) rfl (by kernel_rfl) (by kernel_rfl) (by kernel_rfl) (fun _ _ _ h => h) (Or.inl ⟨by rfl, ?y3049⟩) hHeld ?r3049
              case y3049 => ((intro W hSw; go_simp) <;> with_reducible rfl)
              try simp only [Act.put]
              try simp only [List.getElem_toArray]
              try simp only [List.getElem_cons_succ]
              try simp only [List.getElem_cons_zero]
              try simp only [List.setIfInBounds_toArray]
              try simp only [List.set_cons_succ]
              try simp only [List.set_cons_zero]
              refine wpAnyH_take (i := 3) (v := ?v3050) rfl (by kernel_rfl) (by kernel_rfl) (by kernel_rfl) (fun _ _ _ h => h) (Or.inl ⟨by rfl, ?y3050⟩) hHeld ?r3050
              case y3050 => ((intro W hSw; go_simp) <;> with_reducible rfl)
              try simp only [Act.put]
              try simp only [List.getElem_toArray]
              try simp only [List.getElem_cons_succ]
              try simp only [List.getElem_cons_zero]
              try simp only [List.setIfInBounds_toArray]
              try simp only [List.set_cons_succ]
              try simp only [List.set_cons_zero]
              refine wpAnyH_take (i := 4) (v := ?v3051) rfl (by kernel_rfl) (by kernel_rfl) (by kernel_rfl) (fun _ _ _ h => h) (Or.inl ⟨by rfl, ?y3051⟩) hHeld ?r3051
              case y3051 => ((intro W hSw; go_simp) <;> with_reducible rfl)
              try simp only [Act.put]
              try simp only [List.getElem_toArray]
              try simp only [List.getElem_cons_succ]
              try simp only [List.getElem_cons_zero]
              try simp only [List.setIfInBounds_toArray]
              try simp only [List.set_cons_succ]
              try simp only [List.set_cons_zero]
              refine wpAnyH_take (i := 5) (v := ?v3052) rfl (by kernel_rfl) (by kernel_rfl) (by kernel_rfl) (fun _ _ _ h => h) (Or.inl ⟨by rfl, ?y3052⟩) hHeld ?r3052
              case y3052 => ((intro W hSw; go_simp) <;> with_reducible rfl)
              try simp only [Act.put]
              try simp only [List.getElem_toArray]
              try simp only [List.getElem_cons_succ]
              try simp only [List.getElem_cons_zero]
              try simp only [List.setIfInBounds_toArray]
              try simp only [List.set_cons_succ]
              try simp only [List.set_cons_zero]
              refine wpAnyH_take (i := 6) (v := ?v3053) rfl (by kernel_rfl) (by kernel_rfl) (by kernel_rfl) (fun _ _ _ h => h) (Or.inl ⟨by rfl, ?y3053⟩) hHeld ?r3053
              case y3053 => ((intro W hSw; go_simp) <;> with_reducible rfl)
              try simp only [Act.put]
              try simp only [List.getElem_toArray]
              try simp only [List.getElem_cons_succ]
              try simp only [List.getElem_cons_zero]
              try simp only [List.setIfInBounds_toArray]
              try simp only [List.set_cons_succ]
              try simp only [List.set_cons_zero]
              refine wpAnyH_take (i := 7) (v := ?v3054) rfl (by kernel_rfl) (by kernel_rfl) (by kernel_rfl) (fun _ _ _ h => h) (Or.inl ⟨by rfl, ?y3054⟩) hHeld ?r3054
              case y3054 => ((intro W hSw; go_simp) <;> with_reducible rfl)
              try simp only [Act.put]
              try simp only [List.getElem_toArray]
              try simp only [List.getElem_cons_succ]
              try simp only [List.getElem_cons_zero]
              try simp only [List.setIfInBounds_toArray]
              try simp only [List.set_cons_succ]
              try simp only [List.set_cons_zero]
              refine wpAnyH_take (i := 8) (v := ?v3055) rfl (by kernel_rfl) (by kernel_rfl) (by kernel_rfl) (fun _ _ _ h => h) (Or.inl ⟨by rfl, ?y3055⟩) hHeld ?r3055
              case y3055 => ((intro W hSw; go_simp) <;> with_reducible rfl)
              try simp only [Act.put]
              try simp only [List.getElem_toArray]
              try simp only [List.getElem_cons_succ]
              try simp only [List.getElem_cons_zero]
              try simp only [List.setIfInBounds_toArray]
              try simp only [List.set_cons_succ]
              try simp only [List.set_cons_zero]
              refine wpAnyH_take (i := 9) (v := ?v3056) rfl (by kernel_rfl) (by kernel_rfl) (by kernel_rfl) (fun _ _ _ h => h) (Or.inl ⟨by rfl, ?y3056⟩) hHeld ?r3056
              case y3056 => ((intro W hSw; go_simp) <;> with_reducible rfl)
              try simp only [Act.put]
              try simp only [List.getElem_toArray]
              try simp only [List.getElem_cons_succ]
              try simp only [List.getElem_cons_zero]
              try simp only [List.setIfInBounds_toArray]
              try simp only [List.set_cons_succ]
              try simp only [List.set_cons_zero]
              refine wpAnyH_take (i := 10) (v := undef) rfl (by kernel_rfl) (by kernel_rfl) (by kernel_rfl) (fun _ _ _ h => h) (Or.inr ⟨by rfl, rfl⟩) hHeld ?r3057
              try simp only [Act.put]
              try simp only [List.getElem_toArray]
              try simp only [List.getElem_cons_succ]
              try simp only [List.getElem_cons_zero]
              try simp only [List.setIfInBounds_toArray]
              try simp only [List.set_cons_succ]
              try simp only [List.set_cons_zero]
              refine wpAnyH_take (i := 11) (v := undef) rfl (by kernel_rfl) (by kernel_rfl) (by kernel_rfl) (fun _ _ _ h => h) (Or.inr ⟨by rfl, rfl⟩) hHeld ?r3058
              try simp only [Act.put]
              try simp only [List.getElem_toArray]
              try simp only [List.getElem_cons_succ]
              try simp only [List.getElem_cons_zero]
              try simp only [List.setIfInBounds_toArray]
              try simp only [List.set_cons_succ]
              try simp only [List.set_cons_zero]
              refine wpAnyH_take (i := 12) (v := undef) rfl (by kernel_rfl) (by kernel_rfl) (by kernel_rfl) (fun _ _ _ h => h) (Or.inr ⟨by rfl, rfl⟩) hHeld ?r3059
              try simp only [Act.put]
              try simp only [List.getElem_toArray]
              try simp only [List.getElem_cons_succ]
              try simp only [List.getElem_cons_zero]
              try simp only [List.setIfInBounds_toArray]
              try simp only [List.set_cons_succ]
              try simp only [List.set_cons_zero]
              refine wpAnyH_take (i := 13) (v := undef) rfl (by kernel_rfl) (by kernel_rfl) (by kernel_rfl) (fun _ _ _ h => h) (Or.inr ⟨by rfl, rfl⟩) hHeld ?r3060
              try simp only [Act.put]
              try simp only [List.getElem_toArray]
              try simp only [List.getElem_cons_succ]
              try simp only [List.getElem_cons_zero]
              try simp only [List.setIfInBounds_toArray]
              try simp only [List.set_cons_succ]
              try simp only [List.set_cons_zero]
              refine wpAnyH_take (i := 14) (v := undef) rfl (by kernel_rfl) (by kernel_rfl) (by kernel_rfl) (fun _ _ _ h => h) (Or.inr ⟨by rfl, rfl⟩) hHeld ?r3061
              try simp only [Act.put]
              try simp only [List.getElem_toArray]
              try simp only [List.getElem_cons_succ]
              try simp only [List.getElem_cons_zero]
              try simp only [List.setIfInBounds_toArray]
              try simp only [List.set_cons_succ]
              try simp only [List.set_cons_zero]
              refine wpAnyH_take (i := 15) (v := undef) rfl (by kernel_rfl) (by kernel_rfl) (by kernel_rfl) (fun _ _ _ h => h) (Or.inr ⟨by rfl, rfl⟩) hHeld ?r3062
              try simp only [Act.put]
              try simp only [List.getElem_toArray]
              try simp only [List.getElem_cons_succ]
              try simp only [List.getElem_cons_zero]
              try simp only [List.setIfInBounds_toArray]
              try simp only [List.set_cons_succ]
              try simp only [List.set_cons_zero]
              refine wpAnyH_take (i := 16) (v := undef) rfl (by kernel_rfl) (by kernel_rfl) (by kernel_rfl) (fun _ _ _ h => h) (Or.inr ⟨by rfl, rfl⟩) hHeld ?r3063
              try simp only [Act.put]
              try simp only [List.getElem_toArray]
              try simp only [List.getElem_cons_succ]
              try simp only [List.getElem_cons_zero]
              try simp only [List.setIfInBounds_toArray]
              try simp only [List.set_cons_succ]
              try simp only [List.set_cons_zero]
              refine wpAnyH_take (i := 17) (v := undef) rfl (by kernel_rfl) (by kernel_rfl) (by kernel_rfl) (fun _ _ _ h => h) (Or.inr ⟨by rfl, rfl⟩) hHeld ?r3064
              try simp only [Act.put]
              try simp only [List.getElem_toArray]
              try simp only [List.getElem_cons_succ]
              try simp only [List.getElem_cons_zero]
              try simp only [List.setIfInBounds_toArray]
              try simp only [List.set_cons_succ]
              try simp only [List.set_cons_zero]
              refine wpAnyH_take (i := 18) (v := undef) rfl (by kernel_rfl) (by kernel_rfl) (by kernel_rfl) (fun _ _ _ h => h) (Or.inr ⟨by rfl, rfl⟩) hHeld ?r3065
              try simp only [Act.put]
              try simp only [List.getElem_toArray]
              try simp only [List.getElem_cons_succ]
              try simp only [List.getElem_cons_zero]
              try simp only [List.setIfInBounds_toArray]
              try simp only [List.set_cons_succ]
              try simp only [List.set_cons_zero]
              refine wpAnyH_take (i := 19) (v := undef) rfl (by kernel_rfl) (by kernel_rfl) (by kernel_rfl) (fun _ _ _ h => h) (Or.inr ⟨by rfl, rfl⟩) hHeld ?r3066
              try simp only [Act.put]
              try simp only [List.getElem_toArray]
              try simp only [List.getElem_cons_succ]
              try simp only [List.getElem_cons_zero]
              try simp only [List.setIfInBounds_toArray]
              try simp only [List.set_cons_succ]
              try simp only [List.set_cons_zero]
              refine wpAnyH_take (i := 20) (v := undef) rfl (by kernel_rfl) (by kernel_rfl) (by kernel_rfl) (fun _ _ _ h => h) (Or.inr ⟨by rfl, rfl⟩) hHeld ?r3067
              try simp only [Act.put]
              try simp only [List.getElem_toArray]
              try simp only [List.getElem_cons_succ]
              try simp only [List.getElem_cons_zero]
              try simp only [List.setIfInBounds_toArray]
              try simp only [List.set_cons_succ]
              try simp only [List.set_cons_zero]
              refine wpAnyH_take (i := 21) (v := undef) rfl (by kernel_rfl) (by kernel_rfl) (by kernel_rfl) (fun _ _ _ h => h) (Or.inr ⟨by rfl, rfl⟩) hHeld ?r3068
              try simp only [Act.put]
              try simp only [List.getElem_toArray]
              try simp only [List.getElem_cons_succ]
              try simp only [List.getElem_cons_zero]
              try simp only [List.setIfInBounds_toArray]
              try simp only [List.set_cons_succ]
              try simp only [List.set_cons_zero]
              refine wpAnyH_take (i := 22) (v := undef) rfl (by kernel_rfl) (by kernel_rfl) (by kernel_rfl) (fun _ _ _ h => h) (Or.inr ⟨by rfl, rfl⟩) hHeld ?r3069
              try simp only [Act.put]
              try simp only [List.getElem_toArray]
              try simp only [List.getElem_cons_succ]
              try simp only [List.getElem_cons_zero]
              try simp only [List.setIfInBounds_toArray]
              try simp only [List.set_cons_succ]
              try simp only [List.set_cons_zero]
              refine wpAnyH_take (i := 23) (v := ?v3070) rfl (by kernel_rfl) (by kernel_rfl) (by kernel_rfl) (fun _ _ _ h => h) (Or.inl ⟨by rfl, ?y3070⟩) hHeld ?r3070
              case y3070 => ((intro W hSw; go_simp) <;> with_reducible rfl)
              try simp only [Act.put]
              try simp only [List.getElem_toArray]
              try simp only [List.getElem_cons_succ]
              try simp only [List.getElem_cons_zero]
              try simp only [List.setIfInBounds_toArray]
              try simp only [List.set_cons_succ]
              try simp only [List.set_cons_zero]
              refine wpAnyH_done (by kernel_rfl) ?_ _
              refine NoPanic.normal ?_
              clear hHeld
              have hRd := ((HRS.out.set6 _).set9 _).below (W' := ((w1.setCell ⟨w.heap.size + 1 + 1, 6, none⟩ (.bool false)).setCell ⟨w.heap.size + 1 + 1, 9, none⟩ (.string P)).drew) ((Below.refl _ _).drew)
              have hOd : OwnInts ((w1.setCell ⟨w.heap.size + 1 + 1, 6, none⟩ (.bool false)).setCell ⟨w.heap.size + 1 + 1, 9, none⟩ (.string P)).drew (w.heap.size + 1 + 1 + 1) (.slice a1 k c1) cl := ((Hown.out.setCell (a := ⟨w.heap.size + 1 + 1, 6, none⟩) (by simp) _).setCell (a := ⟨w.heap.size + 1 + 1, 9, none⟩) (by simp) _)
              clear bel siz r0 r1 r2 r3 r4 r5 r6 r7 r8 r9 r10 m0 m1 m2 m3 m4 m5 m6 m7 m8 m9 m10 y0 y1 y2 y3 y4 y5 y6 y7 y8 y9 y10 fr fy HRS Hown
              generalize ((w1.setCell ⟨w.heap.size + 1 + 1, 6, none⟩ (.bool false)).setCell ⟨w.heap.size + 1 + 1, 9, none⟩ (.string P)).drew = W9 at hRd hOd ⊢
              have Hown : Hid (OwnInts W9 (w.heap.size + 1 + 1 + 1) (.slice a1 k c1) cl) := hOd
              obtain ⟨bel, siz, r0, r1, r2, r3, r4, r5, r6, r7, r8, r9, r10, m0, m1, m2, m3, m4, m5, m6, m7, m8, m9, m10, y0, y1, y2, y3, y4, y5, y6, y7, y8, y9, y10, fr, fy⟩ := hRd
              clear hOd
              clear hq0' jl hEm hq hq1' hq1n hq1d
              go_wp2
              refine bodyPost_ret (v := wrongV) (by simp [results, Try.results39, wrongV, go_sem, r0, r1, r2, r3, r4, r5, r6, r7, r8, r9, r10]) rfl ⟨?_, ?_⟩
              · exact below_fin bel
              · rw [HR.out]
                rfl
            · have hq1' : ¬ (P.size : Int) < q := by omega
              have hwa : IntKind.i64.wrap ((s.size : Int) - (q : Int)) = (s.size : Int) - (q : Int) := wrapI64 _ (by omega) (by omega)
              have hwb : IntKind.i64.wrap ((s.size : Int) - 1) = (s.size : Int) - 1 := wrapI64 _ (by omega) (by omega)
              have hwc : IntKind.i64.wrap ((q : Int) - 1) = (q : Int) - 1 := wrapI64 _ (by omega) (by omega)
              obtain ⟨T, hT⟩ : ∃ T, T = s.extract (s.size - q) (s.size - 1) := ⟨_, rfl⟩
              have HT : Hid (T = s.extract (s.size - q) (s.size - 1)) := hT
              have hsl : ∀ W : World, (Instr.slice 9 (.string s) (some (.int .i64 ((s.size : Int) - (q : Int)))) (some (.int .i64 ((s.size : Int) - 1))) none).run Try.prog W = .ok (.string T) W := fun W => by
                rw [run_slice_string W 9 s .i64 .i64 _ _ Try.underlying9 (by omega) (by omega) (by omega), hT, show ((s.size : Int) - (q : Int)).toNat = s.size - q by omega, show ((s.size : Int) - 1).toNat = s.size - 1 by omega]
              have HPd2 : Hid (padPart s A = if noughts (s.extract (s.size - q) (s.size - 1)).data.toList = true then some (q, s.size - q) else none) := by show _ = _; rw [HPd.out, if_neg (by omega)]
              clear hT HPd hPs
              refine wp_region_noPanic ?_
              refine wp_region_held_drew (S := fun W => W.cell? ⟨w.heap.size + 1 + 1, 9, none⟩ = some (.string P)) (by kernel_rfl) (HS.out _ ((HRS.out.set6 _).set9 _)) (fun hHeld => ?_)
              refine wpAnyH_take (i := 0) (v := ?v3071) rfl (by kernel_rfl) (by kernel_rfl) (by kernel_rfl) (fun _ _ _ h => h) (Or.inl ⟨by rfl, ?y3071⟩) hHeld ?r3071
              case y3071 => ((intro W hSw; go_simp) <;> with_reducible rfl)
              try simp only [Act.put]
              try simp only [List.getElem_toArray]
              try simp only [List.getElem_cons_succ]
              try simp only [List.getElem_cons_zero]
              try simp only [List.setIfInBounds_toArray]
              try simp only [List.set_cons_succ]
              try simp only [List.set_cons_zero]
              refine wpAnyH_take (i := 1) (v := ?v3072) rfl (by kernel_rfl) (by kernel_rfl) (by kernel_rfl) (fun _ _ _ h => h) (Or.inl ⟨by rfl, ?y3072⟩) hHeld ?r3072
              case y3072 => ((intro W hSw; go_simp) <;> with_reducible rfl)
              try simp only [Act.put]
              try simp only [List.getElem_toArray]
              try simp only [List.getElem_cons_succ]
              try simp only [List.getElem_cons_zero]
              try simp only [List.setIfInBounds_toArray]
              try simp only [List.set_cons_succ]
              try simp only [List.set_cons_zero]
              refine wpAnyH_take (i := 2) (v := ?v3073) rfl (by kernel_rfl) (by kernel_rfl) (by kernel_rfl) (fun _ _ _ h => h) (Or.inl ⟨by rfl, ?y3073⟩) hHeld ?r3073
              case y3073 => ((intro W hSw; go_simp) <;> with_reducible rfl)
              try simp only [Act.put]
              try simp only [List.getElem_toArray]
              try simp only [List.getElem_cons_succ]
              try simp only [List.getElem_cons_zero]
              try simp only [List.setIfInBounds_toArray]
              try simp only [List.set_cons_succ]
              try simp only [List.set_cons_zero]
              refine wpAnyH_take (i := 3) (v := ?v3074) rfl (by kernel_rfl) (by kernel_rfl) (by kernel_rfl) (fun _ _ _ h => h) (Or.inl ⟨by rfl, ?y3074⟩) hHeld ?r3074
              case y3074 => ((intro W hSw; go_simp) <;> with_reducible rfl)
              try simp only [Act.put]
              try simp only [List.getElem_toArray]
              try simp only [List.getElem_cons_succ]
              try simp only [List.getElem_cons_zero]
              try simp only [List.setIfInBounds_toArray]
              try simp only [List.set_cons_succ]
              try simp only [List.set_cons_zero]
              refine wpAnyH_take (i := 4) (v := ?v3075) rfl (by kernel_rfl) (by kernel_rfl) (by kernel_rfl) (fun _ _ _ h => h) (Or.inl ⟨by rfl, ?y3075⟩) hHeld ?r3075
              case y3075 => ((intro W hSw; go_simp) <;> with_reducible rfl)
              try simp only [Act.put]
              try simp only [List.getElem_toArray]
              try simp only [List.getElem_cons_succ]
              try simp only [List.getElem_cons_zero]
              try simp only [List.setIfInBounds_toArray]
              try simp only [List.set_cons_succ]
              try simp only [List.set_cons_zero]
              refine wpAnyH_take (i := 5) (v := ?v3076) rfl (by kernel_rfl) (by kernel_rfl) (by kernel_rfl) (fun _ _ _ h => h) (Or.inl ⟨by rfl, ?y3076⟩) hHeld ?r3076
              case y3076 => ((intro W hSw; go_simp) <;> with_reducible rfl)
              try simp only [Act.put]
              try simp only [List.getElem_toArray]
              try simp only [List.getElem_cons_succ]
              try simp only [List.getElem_cons_zero]
              try simp only [List.setIfInBounds_toArray]
              try simp only [List.set_cons_succ]
              try simp only [List.set_cons_zero]
              refine wpAnyH_take (i := 6) (v := ?v3077) rfl (by kernel_rfl) (by kernel_rfl) (by kernel_rfl) (fun _ _ _ h => h) (Or.inl ⟨by rfl, ?y3077⟩) hHeld ?r3077
              case y3077 => ((intro W hSw; go_simp) <;> with_reducible rfl)
              try simp only [Act.put]
              try simp only [List.getElem_toArray]
              try simp only [List.getElem_cons_succ]
              try simp only [List.getElem_cons_zero]
              try simp only [List.setIfInBounds_toArray]
              try simp only [List.set_cons_succ]
              try simp only [List.set_cons_zero]
              refine wpAnyH_take (i := 7) (v := ?v3078) rfl (by kernel_rfl) (by kernel_rfl) (by kernel_rfl) (fun _ _ _ h => h) (Or.inl ⟨by rfl, ?y3078⟩) hHeld ?r3078
              case y3078 => ((intro W hSw; go_simp) <;> with_reducible rfl)
              try simp only [Act.put]
              try simp only [List.getElem_toArray]
              try simp only [List.getElem_cons_succ]
              try simp only [List.getElem_cons_zero]
              try simp only [List.setIfInBounds_toArray]
              try simp only [List.set_cons_succ]
              try simp only [List.set_cons_zero]
              refine wpAnyH_take (i := 8) (v := ?v3079) rfl (by kernel_rfl) (by kernel_rfl) (by kernel_rfl) (fun _ _ _ h => h) (Or.inl ⟨by rfl, ?y3079⟩) hHeld ?r3079
              case y3079 => ((intro W hSw; go_simp) <;> with_reducible rfl)
              try simp only [Act.put]
              try simp only [List.getElem_toArray]
              try simp only [List.getElem_cons_succ]
              try simp only [List.getElem_cons_zero]
              try simp only [List.setIfInBounds_toArray]
              try simp only [List.set_cons_succ]
              try simp only [List.set_cons_zero]
              refine wpAnyH_take (i := 9) (v := ?v3080) rfl (by kernel_rfl) (by kernel_rfl) (by kernel_rfl) (fun _ _ _ h => h) (Or.inl ⟨by rfl, ?y3080⟩) hHeld ?r3080
              case y3080 => ((intro W hSw; go_simp) <;> with_reducible rfl)
              try simp only [Act.put]
              try simp only [List.getElem_toArray]
              try simp only [List.getElem_cons_succ]
              try simp only [List.getElem_cons_zero]
              try simp only [List.setIfInBounds_toArray]
              try simp only [List.set_cons_succ]
              try simp only [List.set_cons_zero]
              refine wpAnyH_take (i := 10) (v := ?v3081) rfl (by kernel_rfl) (by kernel_rfl) (by kernel_rfl) (fun _ _ _ h => h) (Or.inl ⟨by rfl, ?y3081⟩) hHeld ?r3081
              case y3081 => ((intro W hSw; go_simp) <;> with_reducible rfl)
              try simp only [Act.put]
              try simp only [List.getElem_toArray]
              try simp only [List.getElem_cons_succ]
              try simp only [List.getElem_cons_zero]
              try simp only [List.setIfInBounds_toArray]
              try simp only [List.set_cons_succ]
              try simp only [List.set_cons_zero]
              refine wpAnyH_take (i := 11) (v := ?v3082) rfl (by kernel_rfl) (by kernel_rfl) (by kernel_rfl) (fun _ _ _ h => h) (Or.inl ⟨by rfl, ?y3082⟩) hHeld ?r3082
              case y3082 => ((intro W hSw; go_simp) <;> with_reducible rfl)
              try simp only [Act.put]
              try simp only [List.getElem_toArray]
              try simp only [List.getElem_cons_succ]
              try simp only [List.getElem_cons_zero]
              try simp only [List.setIfInBounds_toArray]
              try simp only [List.set_cons_succ]
              try simp only [List.set_cons_zero]
              refine wpAnyH_take (i := 12) (v := ?v3083) rfl (by kernel_rfl) (by kernel_rfl) (by kernel_rfl) (fun _ _ _ h => h) (Or.inl ⟨by rfl, ?y3083⟩) hHeld ?r3083
              case y3083 => ((intro W hSw; go_simp) <;> with_reducible rfl)
              try simp only [Act.put]
              try simp only [List.getElem_toArray]
              try simp only [List.getElem_cons_succ]
              try simp only [List.getElem_cons_zero]
              try simp only [List.setIfInBounds_toArray]
              try simp only [List.set_cons_succ]
              try simp only [List.set_cons_zero]
              refine wpAnyH_take (i := 13) (v := ?v3084) rfl (by kernel_rfl) (by kernel_rfl) (by kernel_rfl) (fun _ _ _ h => h) (Or.inl ⟨by rfl, ?y3084⟩) hHeld ?r3084
              case y3084 => ((intro W hSw; go_simp) <;> with_reducible rfl)
              try simp only [Act.put]
              try simp only [List.getElem_toArray]
              try simp only [List.getElem_cons_succ]
              try simp only [List.getElem_cons_zero]
              try simp only [List.setIfInBounds_toArray]
              try simp only [List.set_cons_succ]
              try simp only [List.set_cons_zero]
              refine wpAnyH_take (i := 14) (v := ?v3085) rfl (by kernel_rfl) (by kernel_rfl) (by kernel_rfl) (fun _ _ _ h => h) (Or.inl ⟨by rfl, ?y3085⟩) hHeld ?r3085
              case y3085 => ((intro W hSw; go_simp) <;> with_reducible rfl)
              try simp only [Act.put]
              try simp only [List.getElem_toArray]
              try simp only [List.getElem_cons_succ]
              try simp only [List.getElem_cons_zero]
              try simp only [List.setIfInBounds_toArray]
              try simp only [List.set_cons_succ]
              try simp only [List.set_cons_zero]
              refine wpAnyH_take (i := 15) (v := ?v3086) rfl (by kernel_rfl) (by kernel_rfl) (by kernel_rfl) (fun _ _ _ h => h) (Or.inl ⟨by rfl, ?y3086⟩) hHeld ?r3086
              case y3086 => ((intro W hSw; go_simp) <;> with_reducible rfl)
              try simp only [Act.put]
              try simp only [List.getElem_toArray]
              try simp only [List.getElem_cons_succ]
              try simp only [List.getElem_cons_zero]
              try simp only [List.setIfInBounds_toArray]
              try simp only [List.set_cons_succ]
              try simp only [List.set_cons_zero]
              refine wpAnyH_take (i := 16) (v := ?v3087) rfl (by kernel_rfl) (by kernel_rfl) (by kernel_rfl) (fun _ _ _ h => h) (Or.inl ⟨by rfl, ?y3087⟩) hHeld ?r3087
              case y3087 => ((intro W hSw; go_simp) <;> with_reducible rfl)
              try simp only [Act.put]
              try simp only [List.getElem_toArray]
              try simp only [List.getElem_cons_succ]
              try simp only [List.getElem_cons_zero]
              try simp only [List.setIfInBounds_toArray]
              try simp only [List.set_cons_succ]
              try simp only [List.set_cons_zero]
              refine wpAnyH_take (i := 17) (v := ?v3088) rfl (by kernel_rfl) (by kernel_rfl) (by kernel_rfl) (fun _ _ _ h => h) (Or.inl ⟨by rfl, ?y3088⟩) hHeld ?r3088
              case y3088 => ((intro W hSw; go_simp) <;> with_reducible rfl)
              try simp only [Act.put]
              try simp only [List.getElem_toArray]
              try simp only [List.getElem_cons_succ]
              try simp only [List.getElem_cons_zero]
              try simp only [List.setIfInBounds_toArray]
              try simp only [List.set_cons_succ]
              try simp only [List.set_cons_zero]
              refine wpAnyH_take (i := 18) (v := ?v3089) rfl (by kernel_rfl) (by kernel_rfl) (by kernel_rfl) (fun _ _ _ h => h) (Or.inl ⟨by rfl, ?y3089⟩) hHeld ?r3089
              case y3089 => ((intro W hSw; go_simp) <;> with_reducible rfl)
              try simp only [Act.put]
              try simp only [List.getElem_toArray]
              try simp only [List.getElem_cons_succ]
              try simp only [List.getElem_cons_zero]
              try simp only [List.setIfInBounds_toArray]
              try simp only [List.set_cons_succ]
              try simp only [List.set_cons_zero]
              refine wpAnyH_take (i := 19) (v := ?v3090) rfl (by kernel_rfl) (by kernel_rfl) (by kernel_rfl) (fun _ _ _ h => h) (Or.inl ⟨by rfl, ?y3090⟩) hHeld ?r3090
              case y3090 => ((intro W hSw; go_simp) <;> with_reducible rfl)
              try simp only [Act.put]
              try simp only [List.getElem_toArray]
              try simp only [List.getElem_cons_succ]
              try simp only [List.getElem_cons_zero]
              try simp only [List.setIfInBounds_toArray]
              try simp only [List.set_cons_succ]
              try simp only [List.set_cons_zero]
              refine wpAnyH_take (i := 20) (v := ?v3091) rfl (by kernel_rfl) (by kernel_rfl) (by kernel_rfl) (fun _ _ _ h => h) (Or.inl ⟨by rfl, ?y3091⟩) hHeld ?r3091
              case y3091 => ((intro W hSw; go_simp) <;> with_reducible rfl)
              try simp only [Act.put]
              try simp only [List.getElem_toArray]
              try simp only [List.getElem_cons_succ]
              try simp only [List.getElem_cons_zero]
              try simp only [List.setIfInBounds_toArray]
              try simp only [List.set_cons_succ]
              try simp only [List.set_cons_zero]
              refine wpAnyH_ready (rs := [21]) (by kernel_rfl) (by simp) ?_
              refine AllReadyH.cons rfl (fun K hK => ?_) AllReadyH.nil
              go_simp
              refine (refNoughts_at _ (q - 1) _ (by omega) (by omega)).mono ?_
              rintro e w9 ⟨⟨t, rfl, ht⟩, rfl⟩
              have Ht : Hid (t.data.toList = List.replicate (q - 1) 0) := ht
              clear ht
              go_wp2_with fail
              refine hK.out _ _ hHeld (fun hHeld => ?_)
              clear hK K
              have hTs : T.size = q - 1 := by rw [HT.out, ByteArray.size_extract]; omega
              by_cases hTt : T = t
              · have hN : noughts (s.extract (s.size - q) (s.size - 1)).data.toList = true := by rw [← HT.out, hTt, Ht.out]; exact noughts_rep _
                have HR : Hid (readP s = some (mkP s (0, ⟨#[]⟩, A) (q, s.size - q))) := by
                  show _ = _
                  rw [HP.out, HX.out]
                  simp only [Option.bind_some]
                  rw [HPd2.out, hN]
                  rfl
                have HPe : Hid (P.extract 0 (P.size - q) = s.extract A (s.size - q)) := by
                  show _ = _
                  apply ba_ext
                  rw [Lib.extract_data, ← HPP.out, Lib.extract_data, Lib.extract_data, ByteArray.size_extract, List.drop_zero, List.take_take]
                  congr 1
                  have := HPs.out
                  omega
                clear hN hq0
                subst hTt
                refine wpAnyH_take (i := 22) (v := ?v3092) rfl (by kernel_rfl) (by kernel_rfl) (by kernel_rfl) (fun _ _ _ h => h) (Or.inl ⟨by rfl, ?y3092⟩) hHeld ?r3092
                case y3092 => ((intro W hSw; go_simp) <;> with_reducible rfl)
                try simp only [Act.put]
                try simp only [List.getElem_toArray]
                try simp only [List.getElem_cons_succ]
                try simp only [List.getElem_cons_zero]
                try simp only [List.setIfInBounds_toArray]
                try simp only [List.set_cons_succ]
                try simp only [List.set_cons_zero]
                refine wpAnyH_take (i := 23) (v := ?v3093) rfl (by kernel_rfl) (by kernel_rfl) (by kernel_rfl) (fun _ _ _ h => h) (Or.inl ⟨by rfl, ?y3093⟩) hHeld ?r3093
                case y3093 => ((intro W hSw; go_simp) <;> with_reducible rfl)
                try simp only [Act.put]
                try simp only [List.getElem_toArray]
                try simp only [List.getElem_cons_succ]
                try simp only [List.getElem_cons_zero]
                try simp only [List.setIfInBounds_toArray]
                try simp only [List.set_cons_succ]
                try simp only [List.set_cons_zero]
                refine wpAnyH_done (by kernel_rfl) ?_ _
                refine NoPanic.normal ?_
                clear hHeld
                have hRd := ((HRS.out.set6 _).set9 _).below (W' := ((w1.setCell ⟨w.heap.size + 1 + 1, 6, none⟩ (.bool false)).setCell ⟨w.heap.size + 1 + 1, 9, none⟩ (.string P)).drew) ((Below.refl _ _).drew)
                have hOd : OwnInts ((w1.setCell ⟨w.heap.size + 1 + 1, 6, none⟩ (.bool false)).setCell ⟨w.heap.size + 1 + 1, 9, none⟩ (.string P)).drew (w.heap.size + 1 + 1 + 1) (.slice a1 k c1) cl := ((Hown.out.setCell (a := ⟨w.heap.size + 1 + 1, 6, none⟩) (by simp) _).setCell (a := ⟨w.heap.size + 1 + 1, 9, none⟩) (by simp) _)
                clear bel siz r0 r1 r2 r3 r4 r5 r6 r7 r8 r9 r10 m0 m1 m2 m3 m4 m5 m6 m7 m8 m9 m10 y0 y1 y2 y3 y4 y5 y6 y7 y8 y9 y10 fr fy HRS Hown
                generalize ((w1.setCell ⟨w.heap.size + 1 + 1, 6, none⟩ (.bool false)).setCell ⟨w.heap.size + 1 + 1, 9, none⟩ (.string P)).drew = W9 at hRd hOd ⊢
                have Hown : Hid (OwnInts W9 (w.heap.size + 1 + 1 + 1) (.slice a1 k c1) cl) := hOd
                obtain ⟨bel, siz, r0, r1, r2, r3, r4, r5, r6, r7, r8, r9, r10, m0, m1, m2, m3, m4, m5, m6, m7, m8, m9, m10, y0, y1, y2, y3, y4, y5, y6, y7, y8, y9, y10, fr, fy⟩ := hRd
                clear hOd
                clear hq0' jl hEm hq hsl hwa hwb hwc
                go_wp2
                obtain ⟨q1, q2⟩ := told_fin ((bel.setCell (p := ⟨w.heap.size + 1 + 1, 10, none⟩) (by simp <;> omega) _).setCell (p := ⟨w.heap.size + 1 + 1, 9, none⟩) (by simp <;> omega) _) (((Hown.out.setCell (a := ⟨w.heap.size + 1 + 1, 10, none⟩) (by simp) _).setCell (a := ⟨w.heap.size + 1 + 1, 9, none⟩) (by simp) _).mono (base' := w.heap.size + 2) (by omega))
                refine bodyPost_ret (v := .tuple #[.agg #[.bool b0, .int .i64 n1, .int .i64 n2, .int .i64 n3, .int .i64 n4, .slice a1 k c1, .bool false, .int .i64 0, .string ⟨#[]⟩, .string (P.extract 0 (P.size - q)), .int .i64 q], .int .i64 0]) (by simp [results, Try.results39, go_sem, r0, r1, r2, r3, r4, r5, r6, r7, r8, r9, r10]) rfl ⟨?_, ?_⟩
                · exact q1
                · rw [HR.out]
                  refine ⟨.slice a1 k c1, ?_, ?_⟩
                  · rw [E0.out, E1.out, ← Hn2.out, ← Hn3.out, ← Hn4.out, HPe.out]
                    simp [okV, mkP, hxe]
                  · have e : (mkP s (0, ⟨#[]⟩, A) (q, s.size - q)).cl = cl := by rw [← Hcl.out, HA.out]; rfl
                    rw [e]
                    exact q2.mono (by omega)
              · have hN : noughts (s.extract (s.size - q) (s.size - 1)).data.toList = false := by
                  rw [Bool.eq_false_iff]
                  intro hc
                  rw [← HT.out] at hc
                  have h1 := rep_noughts _ hc
                  rw [← Lib.size_eq, hTs] at h1
                  exact hTt (ba_ext (h1.trans Ht.out.symm))
                have HR : Hid (readP s = none) := by
                  show _ = _
                  rw [HP.out, HX.out]
                  simp only [Option.bind_some]
                  rw [HPd2.out, hN]
                  rfl
                have hne2 : ¬ T.data.toList = t.data.toList := fun e => hTt (ba_ext e)
                have hne1 : (T.toList == t.toList) = false := by rw [Lib.toList_data, Lib.toList_data]; simpa using hne2
                have hne3 : ¬ T.toList = t.toList := by rw [Lib.toList_data, Lib.toList_data]; exact hne2
                clear hN hne2 hq0
                refine wpAnyH_take (i := 22) (v := ?v3094) rfl (by kernel_rfl) (by kernel_rfl) (by kernel_rfl) (fun _ _ _ h => h) (Or.inl ⟨by rfl, ?y3094⟩) hHeld ?r3094
                case y3094 => ((intro W hSw; go_simp) <;> with_reducible rfl)
                try simp only [Act.put]
                try simp only [List.getElem_toArray]
                try simp only [List.getElem_cons_succ]
                try simp only [List.getElem_cons_zero]
                try simp only [List.setIfInBounds_toArray]
                try simp only [List.set_cons_succ]
                try simp only [List.set_cons_zero]
                refine wpAnyH_take (i := 23) (v := ?v3095) rfl (by kernel_rfl) (by kernel_rfl) (by kernel_rfl) (fun _ _ _ h => h) (Or.inl ⟨by rfl, ?y3095⟩) hHeld ?r3095
                case y3095 => ((intro W hSw; go_simp) <;> with_reducible rfl)
                try simp only [Act.put]
                try simp only [List.getElem_toArray]
                try simp only [List.getElem_cons_succ]
                try simp only [List.getElem_cons_zero]
                try simp only [List.setIfInBounds_toArray]
                try simp only [List.set_cons_succ]
                try simp only [List.set_cons_zero]
                refine wpAnyH_done (by kernel_rfl) ?_ _
                refine NoPanic.normal ?_
                clear hHeld
                have hRd := ((HRS.out.set6 _).set9 _).below (W' := ((w1.setCell ⟨w.heap.size + 1 + 1, 6, none⟩ (.bool false)).setCell ⟨w.heap.size + 1 + 1, 9, none⟩ (.string P)).drew) ((Below.refl _ _).drew)
                have hOd : OwnInts ((w1.setCell ⟨w.heap.size + 1 + 1, 6, none⟩ (.bool false)).setCell ⟨w.heap.size + 1 + 1, 9, none⟩ (.string P)).drew (w.heap.size + 1 + 1 + 1) (.slice a1 k c1) cl := ((Hown.out.setCell (a := ⟨w.heap.size + 1 + 1, 6, none⟩) (by simp) _).setCell (a := ⟨w.heap.size + 1 + 1, 9, none⟩) (by simp) _)
                clear bel siz r0 r1 r2 r3 r4 r5 r6 r7 r8 r9 r10 m0 m1 m2 m3 m4 m5 m6 m7 m8 m9 m10 y0 y1 y2 y3 y4 y5 y6 y7 y8 y9 y10 fr fy HRS Hown
                generalize ((w1.setCell ⟨w.heap.size + 1 + 1, 6, none⟩ (.bool false)).setCell ⟨w.heap.size + 1 + 1, 9, none⟩ (.string P)).drew = W9 at hRd hOd ⊢
                have Hown : Hid (OwnInts W9 (w.heap.size + 1 + 1 + 1) (.slice a1 k c1) cl) := hOd
                obtain ⟨bel, siz, r0, r1, r2, r3, r4, r5, r6, r7, r8, r9, r10, m0, m1, m2, m3, m4, m5, m6, m7, m8, m9, m10, y0, y1, y2, y3, y4, y5, y6, y7, y8, y9, y10, fr, fy⟩ := hRd
                clear hOd
                clear hq0' jl hEm hq hsl hwa hwb hwc hTt hne1 hne3 hTs hq1'
                go_wp2
                refine bodyPost_ret (v := wrongV) (by simp [results, Try.results39, wrongV, go_sem, r0, r1, r2, r3, r4, r5, r6, r7, r8, r9, r10]) rfl ⟨?_, ?_⟩
                · exact below_fin bel
                · rw [HR.out]
                  rfl
      · have hpd : decide ((B0 s).toNat / 2 ^ 5 % 2 = 1) = false := decide_eq_false (by simpa using hp)
        have HR : Hid (readP s = some (mkP s (0, ⟨#[]⟩, A) (0, s.size))) := by
          show _ = _
          rw [HP.out, HX.out]
          simp [padPart, hp]
        clear hp
        go_wp2_with fail
        refine (refBit_at _ _ (B0 s).toNat 5 _ rfl rfl (by omega) (by omega)).mono ?_
        rintro e w1 ⟨rfl, rfl⟩
        rw [hpd]
        go_wp2
        obtain ⟨q1, q2⟩ := told_fin ((bel.setCell (p := ⟨w.heap.size + 1 + 1, 6, none⟩) (by simp <;> omega) _).setCell (p := ⟨w.heap.size + 1 + 1, 9, none⟩) (by simp <;> omega) _) (((Hown.out.setCell (a := ⟨w.heap.size + 1 + 1, 6, none⟩) (by simp) _).setCell (a := ⟨w.heap.size + 1 + 1, 9, none⟩) (by simp) _).mono (base' := w.heap.size + 2) (by omega))
        refine bodyPost_ret (v := .tuple #[.agg #[.bool b0, .int .i64 n1, .int .i64 n2, .int .i64 n3, .int .i64 n4, .slice a1 k c1, .bool false, .int .i64 0, .string ⟨#[]⟩, .string (s.extract A s.size), .int .i64 0], .int .i64 0]) (by simp [results, Try.results39, go_sem, r0, r1, r2, r3, r4, r5, r6, r7, r8, r9, r10]) rfl ⟨?_, ?_⟩
        · exact q1
        · rw [HR.out]
          refine ⟨.slice a1 k c1, ?_, ?_⟩
          · rw [E0.out, E1.out, ← Hn2.out, ← Hn3.out, ← Hn4.out]
            simp [okV, mkP, hxe]
          · have e : (mkP s (0, ⟨#[]⟩, A) (0, s.size)).cl = cl := by rw [← Hcl.out, HA.out]; rfl
            rw [e]
            exact q2.mono (by omega)

end Go.Proofs.Ytdjhhnolcafkiaa
