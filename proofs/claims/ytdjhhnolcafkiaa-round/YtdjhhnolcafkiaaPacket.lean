/- A right packet of raw numbers. -/
import Derived.Test.YtdjhhnolcafkiaaPackSt
import Derived.Deep.RegionHeld3
namespace Go.Proofs.Ytdjhhnolcafkiaa
open Go.RowKit Pk

namespace Pk
theorem picks (ty nu ti so pa : Int) : (0 ≤ pickF ty 128 ∧ pickF ty 128 ≤ 127) ∧ (0 ≤ pickF nu 65536 ∧ pickF nu 65536 ≤ 65535) ∧ (0 ≤ pickF ti 4294967296 ∧ pickF ti 4294967296 ≤ 4294967295) ∧ (0 ≤ pickF so 4294967296 ∧ pickF so 4294967296 ≤ 4294967295) ∧ (0 ≤ pickF pa 256 ∧ pickF pa 256 ≤ 255) := by
  have a1 := pickF_lo ty 128 (by omega); have a2 := pickF_hi ty 128 (by omega)
  have b1 := pickF_lo nu 65536 (by omega); have b2 := pickF_hi nu 65536 (by omega)
  have c1 := pickF_lo ti 4294967296 (by omega); have c2 := pickF_hi ti 4294967296 (by omega)
  have d1 := pickF_lo so 4294967296 (by omega); have d2 := pickF_hi so 4294967296 (by omega)
  have e1 := pickF_lo pa 256 (by omega); have e2 := pickF_hi pa 256 (by omega)
  omega
theorem picks_in (l : List Int) : allIn (l.map fun c => pickF c 4294967296) 4294967295 = true := by
  simp only [allIn, List.all_eq_true, List.mem_map, decide_eq_true_eq]
  rintro x ⟨c, _, rfl⟩
  have c1 := pickF_lo c 4294967296 (by omega); have c2 := pickF_hi c 4294967296 (by omega)
  omega
theorem right_ok (ex : Bool) (ty nu ti so pr pa : Int) (cl : List Int) (en py : ByteArray) (h1 : 0 ≤ ty ∧ ty ≤ 127) (h2 : 0 ≤ nu ∧ nu ≤ 65535) (h3 : 0 ≤ ti ∧ ti ≤ 4294967295) (h4 : 0 ≤ so ∧ so ≤ 4294967295) (h5 : cl.length ≤ 15) (h6 : allIn cl 4294967295 = true)
    (h7 : extOk ex pr en = true) (h8 : 0 ≤ pa ∧ pa ≤ 255) (h9 : en.size ≤ 500) (h10 : py.size ≤ 500) : tellOk ex ty nu ti so pr pa cl en = true ∧ plen ex cl en py pa ≤ 1500 := by
  constructor
  · simp only [tellOk, headOk, Bool.and_eq_true]
    exact ⟨⟨⟨⟨⟨⟨⟨decide_eq_true h1, decide_eq_true h2⟩, decide_eq_true h3⟩, decide_eq_true h4⟩, decide_eq_true h5⟩, h6⟩, h7⟩, decide_eq_true h8⟩
  · unfold plen
    split <;> omega
theorem told_fin1 {w W : World} {v : Value} {l : List Int} {c0 c1 c2 c3 c4 c5 c6 c7 c8 c9 c10 : Value} (hb : Below w.heap.size w W) (ho : OwnInts W (w.heap.size + 1 + 1 + 1) v l) :
    Below w.heap.size w (((((((((((W.setCell ⟨w.heap.size + 1, 0, none⟩ c0).setCell ⟨w.heap.size + 1, 1, none⟩ c1).setCell ⟨w.heap.size + 1, 2, none⟩ c2).setCell ⟨w.heap.size + 1, 3, none⟩ c3).setCell ⟨w.heap.size + 1, 4, none⟩ c4).setCell ⟨w.heap.size + 1, 5, none⟩ c5).setCell ⟨w.heap.size + 1, 6, none⟩ c6).setCell ⟨w.heap.size + 1, 7, none⟩ c7).setCell ⟨w.heap.size + 1, 8, none⟩ c8).setCell ⟨w.heap.size + 1, 9, none⟩ c9).setCell ⟨w.heap.size + 1, 10, none⟩ c10) ∧ OwnInts (((((((((((W.setCell ⟨w.heap.size + 1, 0, none⟩ c0).setCell ⟨w.heap.size + 1, 1, none⟩ c1).setCell ⟨w.heap.size + 1, 2, none⟩ c2).setCell ⟨w.heap.size + 1, 3, none⟩ c3).setCell ⟨w.heap.size + 1, 4, none⟩ c4).setCell ⟨w.heap.size + 1, 5, none⟩ c5).setCell ⟨w.heap.size + 1, 6, none⟩ c6).setCell ⟨w.heap.size + 1, 7, none⟩ c7).setCell ⟨w.heap.size + 1, 8, none⟩ c8).setCell ⟨w.heap.size + 1, 9, none⟩ c9).setCell ⟨w.heap.size + 1, 10, none⟩ c10) (w.heap.size + 1 + 1 + 1) v l :=
  ⟨(((((((((((hb.setCell (p := ⟨w.heap.size + 1, 0, none⟩) (by simp) _).setCell (p := ⟨w.heap.size + 1, 1, none⟩) (by simp) _).setCell (p := ⟨w.heap.size + 1, 2, none⟩) (by simp) _).setCell (p := ⟨w.heap.size + 1, 3, none⟩) (by simp) _).setCell (p := ⟨w.heap.size + 1, 4, none⟩) (by simp) _).setCell (p := ⟨w.heap.size + 1, 5, none⟩) (by simp) _).setCell (p := ⟨w.heap.size + 1, 6, none⟩) (by simp) _).setCell (p := ⟨w.heap.size + 1, 7, none⟩) (by simp) _).setCell (p := ⟨w.heap.size + 1, 8, none⟩) (by simp) _).setCell (p := ⟨w.heap.size + 1, 9, none⟩) (by simp) _).setCell (p := ⟨w.heap.size + 1, 10, none⟩) (by simp) _), (((((((((((ho.setCell (a := ⟨w.heap.size + 1, 0, none⟩) (by simp) _).setCell (a := ⟨w.heap.size + 1, 1, none⟩) (by simp) _).setCell (a := ⟨w.heap.size + 1, 2, none⟩) (by simp) _).setCell (a := ⟨w.heap.size + 1, 3, none⟩) (by simp) _).setCell (a := ⟨w.heap.size + 1, 4, none⟩) (by simp) _).setCell (a := ⟨w.heap.size + 1, 5, none⟩) (by simp) _).setCell (a := ⟨w.heap.size + 1, 6, none⟩) (by simp) _).setCell (a := ⟨w.heap.size + 1, 7, none⟩) (by simp) _).setCell (a := ⟨w.heap.size + 1, 8, none⟩) (by simp) _).setCell (a := ⟨w.heap.size + 1, 9, none⟩) (by simp) _).setCell (a := ⟨w.heap.size + 1, 10, none⟩) (by simp) _)⟩
end Pk

theorem region_once {P : Program} {c : Code} {Q : Exit → Act → World → Prop} {a a' : Act} {w w' : World} (h1 : Q .normal a' w' → Code.wp P c Q a w) (h2 : Q .normal a' w') : Code.wp P c Q a w := h1 h2

theorem region_once3 {P : Program} {c : Code} {Q : Exit → Act → World → Prop} {a : Act} {w : World} {R : Option Addr → Nat → World → Prop} {fa : Option Addr → Nat → World → Act} {fw : Option Addr → Nat → World → World}
    (h1 : (∀ a' c' w1, R a' c' w1 → Q .normal (fa a' c' w1) (fw a' c' w1)) → Code.wp P c Q a w) (h2 : ∀ a' c' w1, R a' c' w1 → Q .normal (fa a' c' w1) (fw a' c' w1)) : Code.wp P c Q a w := h1 h2

theorem cell_alloc {W : World} {a : Addr} {u : Value} (h : W.cell? a = some u) (o : Obj) : (W.alloc o).cell? a = some u := (World.cell?_alloc_lt _ _ _ (lt_of_cell h)).trans h

set_option maxHeartbeats 8000000 in
theorem packet_any (mk ex : Bool) (ty nu ti so pr pa : Int) (cv : Value) (rl : List Int) (en py : ByteArray) (w : World) (hv : IsInts w.heap.size w cv rl)
    (hty : -9223372036854775808 ≤ ty ∧ ty ≤ 9223372036854775807) (hnu : -9223372036854775808 ≤ nu ∧ nu ≤ 9223372036854775807) (hti : -9223372036854775808 ≤ ti ∧ ti ≤ 9223372036854775807) (hso : -9223372036854775808 ≤ so ∧ so ≤ 9223372036854775807)
    (hpr : -9223372036854775808 ≤ pr ∧ pr ≤ 9223372036854775807) (hpa : -9223372036854775808 ≤ pa ∧ pa ≤ 9223372036854775807) (hrl : ∀ c ∈ rl, -9223372036854775808 ≤ c ∧ c ≤ 9223372036854775807) (_hrn : rl.length ≤ maxLen) (hen : en.size ≤ maxLen) (hpy : py.size ≤ maxLen) :
    Calls Try.prog 16 #[.agg #[.bool mk, .bool ex, .int .i64 ty, .int .i64 nu, .int .i64 ti, .int .i64 so, cv, .int .i64 pr, .int .i64 pa, .string en, .string py]] w
      fun e w' => Below w.heap.size w w' ∧ ∃ (x : PP) (v : Value), e = .returned (.agg #[.bool x.mrk, .int .i64 x.ty, .int .i64 x.nu, .int .i64 x.ti, .int .i64 x.so, v, .bool x.ex, .int .i64 x.pr, .string x.en, .string x.py, .int .i64 x.pa]) ∧
        tellOk x.ex x.ty x.nu x.ti x.so x.pr x.pa x.cl x.en = true ∧ plen x.ex x.cl x.en x.py x.pa ≤ 1500 ∧ OwnInts w' w.heap.size v x.cl := by
  obtain ⟨ao, cap, rfl, hc⟩ := hv
  have Hc : Hid (∀ j, j < rl.length → ∃ b off, ao = some ⟨b, off, none⟩ ∧ b < w.heap.size ∧ w.cell? ⟨b, off + j, none⟩ = some (.int .i64 (rl.getD j 0))) := hc
  have Hrl : Hid (∀ c ∈ rl, -9223372036854775808 ≤ c ∧ c ≤ 9223372036854775807) := hrl
  clear hc hrl
  go_enter Try.func16, Try.ntmps16
  go_wp2
  refine region_once (a' := ?fa) (w' := ?fw) ?h1 ?h2
  case h1 =>
    intro hQ
    refine wp_region_noPanic ?_
    refine wp_region_held_drew (S := fun W => ∀ o, W.cell? ⟨w.heap.size, o, none⟩ = ((w.alloc (.cells #[.bool mk, .bool ex, .int .i64 ty, .int .i64 nu, .int .i64 ti, .int .i64 so, .slice ao rl.length cap, .int .i64 pr, .int .i64 pa, .string en, .string py] 43)).alloc (.cells #[.bool false, .int .i64 0, .int .i64 0, .int .i64 0, .int .i64 0, .slice none 0 0, .bool false, .int .i64 0, .string ⟨#[]⟩, .string ⟨#[]⟩, .int .i64 0] 33)).cell? ⟨w.heap.size, o, none⟩) (by kernel_rfl) (fun o => rfl) (fun hHeld => ?_)
    refine wpAnyH_take (i := 0) (v := ?v1) rfl (by kernel_rfl) (by kernel_rfl) (by kernel_rfl) (fun _ _ _ h => h) (Or.inl ⟨by rfl, ?y1⟩) hHeld ?r1
    case y1 => ((intro W hSw; go_simp) <;> with_reducible rfl)
    try simp only [Act.put]
    try simp only [List.setIfInBounds_toArray]
    try simp only [List.set_cons_succ]
    try simp only [List.set_cons_zero]
    refine wpAnyH_take (i := 1) (v := ?v2) rfl (by kernel_rfl) (by kernel_rfl) (by kernel_rfl) (fun _ _ _ h => h) (Or.inl ⟨by rfl, ?y2⟩) hHeld ?r2
    case y2 => ((intro W hSw; go_simp) <;> with_reducible rfl)
    try simp only [Act.put]
    try simp only [List.setIfInBounds_toArray]
    try simp only [List.set_cons_succ]
    try simp only [List.set_cons_zero]
    refine wpAnyH_take (i := 2) (v := ?v3) rfl (by kernel_rfl) (by kernel_rfl) (by kernel_rfl) (fun _ _ _ h => h) (Or.inl ⟨by rfl, ?y3⟩) hHeld ?r3
    case y3 => ((intro W hSw; go_simp) <;> with_reducible rfl)
    try simp only [Act.put]
    try simp only [List.setIfInBounds_toArray]
    try simp only [List.set_cons_succ]
    try simp only [List.set_cons_zero]
    refine wpAnyH_take (i := 3) (v := ?v4) rfl (by kernel_rfl) (by kernel_rfl) (by kernel_rfl) (fun _ _ _ h => h) (Or.inl ⟨by rfl, ?y4⟩) hHeld ?r4
    case y4 => ((intro W hSw; go_simp) <;> with_reducible rfl)
    try simp only [Act.put]
    try simp only [List.setIfInBounds_toArray]
    try simp only [List.set_cons_succ]
    try simp only [List.set_cons_zero]
    refine wpAnyH_take (i := 5) (v := ?v5) rfl (by kernel_rfl) (by kernel_rfl) (by kernel_rfl) (fun _ _ _ h => h) (Or.inl ⟨by rfl, ?y5⟩) hHeld ?r5
    case y5 => ((intro W hSw; go_simp) <;> with_reducible rfl)
    try simp only [Act.put]
    try simp only [List.setIfInBounds_toArray]
    try simp only [List.set_cons_succ]
    try simp only [List.set_cons_zero]
    refine wpAnyH_take (i := 6) (v := ?v6) rfl (by kernel_rfl) (by kernel_rfl) (by kernel_rfl) (fun _ _ _ h => h) (Or.inl ⟨by rfl, ?y6⟩) hHeld ?r6
    case y6 => ((intro W hSw; go_simp) <;> with_reducible rfl)
    try simp only [Act.put]
    try simp only [List.setIfInBounds_toArray]
    try simp only [List.set_cons_succ]
    try simp only [List.set_cons_zero]
    refine wpAnyH_take (i := 8) (v := ?v7) rfl (by kernel_rfl) (by kernel_rfl) (by kernel_rfl) (fun _ _ _ h => h) (Or.inl ⟨by rfl, ?y7⟩) hHeld ?r7
    case y7 => ((intro W hSw; go_simp) <;> with_reducible rfl)
    try simp only [Act.put]
    try simp only [List.setIfInBounds_toArray]
    try simp only [List.set_cons_succ]
    try simp only [List.set_cons_zero]
    refine wpAnyH_take (i := 9) (v := ?v8) rfl (by kernel_rfl) (by kernel_rfl) (by kernel_rfl) (fun _ _ _ h => h) (Or.inl ⟨by rfl, ?y8⟩) hHeld ?r8
    case y8 => ((intro W hSw; go_simp) <;> with_reducible rfl)
    try simp only [Act.put]
    try simp only [List.setIfInBounds_toArray]
    try simp only [List.set_cons_succ]
    try simp only [List.set_cons_zero]
    refine wpAnyH_take (i := 11) (v := ?v9) rfl (by kernel_rfl) (by kernel_rfl) (by kernel_rfl) (fun _ _ _ h => h) (Or.inl ⟨by rfl, ?y9⟩) hHeld ?r9
    case y9 => ((intro W hSw; go_simp) <;> with_reducible rfl)
    try simp only [Act.put]
    try simp only [List.setIfInBounds_toArray]
    try simp only [List.set_cons_succ]
    try simp only [List.set_cons_zero]
    refine wpAnyH_take (i := 12) (v := ?v10) rfl (by kernel_rfl) (by kernel_rfl) (by kernel_rfl) (fun _ _ _ h => h) (Or.inl ⟨by rfl, ?y10⟩) hHeld ?r10
    case y10 => ((intro W hSw; go_simp) <;> with_reducible rfl)
    try simp only [Act.put]
    try simp only [List.setIfInBounds_toArray]
    try simp only [List.set_cons_succ]
    try simp only [List.set_cons_zero]
    refine wpAnyH_take (i := 14) (v := ?v11) rfl (by kernel_rfl) (by kernel_rfl) (by kernel_rfl) (fun _ _ _ h => h) (Or.inl ⟨by rfl, ?y11⟩) hHeld ?r11
    case y11 => ((intro W hSw; go_simp) <;> with_reducible rfl)
    try simp only [Act.put]
    try simp only [List.setIfInBounds_toArray]
    try simp only [List.set_cons_succ]
    try simp only [List.set_cons_zero]
    refine wpAnyH_take (i := 15) (v := ?v12) rfl (by kernel_rfl) (by kernel_rfl) (by kernel_rfl) (fun _ _ _ h => h) (Or.inl ⟨by rfl, ?y12⟩) hHeld ?r12
    case y12 => ((intro W hSw; go_simp) <;> with_reducible rfl)
    try simp only [Act.put]
    try simp only [List.setIfInBounds_toArray]
    try simp only [List.set_cons_succ]
    try simp only [List.set_cons_zero]
    refine wpAnyH_take (i := 16) (v := ?v13) rfl (by kernel_rfl) (by kernel_rfl) (by kernel_rfl) (fun _ _ _ h => h) (Or.inl ⟨by rfl, ?y13⟩) hHeld ?r13
    case y13 => ((intro W hSw; go_simp) <;> with_reducible rfl)
    try simp only [Act.put]
    try simp only [List.setIfInBounds_toArray]
    try simp only [List.set_cons_succ]
    try simp only [List.set_cons_zero]
    refine wpAnyH_take (i := 17) (v := ?v14) rfl (by kernel_rfl) (by kernel_rfl) (by kernel_rfl) (fun _ _ _ h => h) (Or.inl ⟨by rfl, ?y14⟩) hHeld ?r14
    case y14 => ((intro W hSw; go_simp) <;> with_reducible rfl)
    try simp only [Act.put]
    try simp only [List.setIfInBounds_toArray]
    try simp only [List.set_cons_succ]
    try simp only [List.set_cons_zero]
    refine wpAnyH_take (i := 19) (v := ?v15) rfl (by kernel_rfl) (by kernel_rfl) (by kernel_rfl) (fun _ _ _ h => h) (Or.inl ⟨by rfl, ?y15⟩) hHeld ?r15
    case y15 => ((intro W hSw; go_simp) <;> with_reducible rfl)
    try simp only [Act.put]
    try simp only [List.setIfInBounds_toArray]
    try simp only [List.set_cons_succ]
    try simp only [List.set_cons_zero]
    refine wpAnyH_take (i := 20) (v := ?v16) rfl (by kernel_rfl) (by kernel_rfl) (by kernel_rfl) (fun _ _ _ h => h) (Or.inl ⟨by rfl, ?y16⟩) hHeld ?r16
    case y16 => ((intro W hSw; go_simp) <;> with_reducible rfl)
    try simp only [Act.put]
    try simp only [List.setIfInBounds_toArray]
    try simp only [List.set_cons_succ]
    try simp only [List.set_cons_zero]
    refine wpAnyH_ready (rs := [4, 23]) (by kernel_rfl) (by simp) ?_
    refine AllReadyH.cons rfl (fun K hK => ?_) (AllReadyH.cons rfl (fun K hK => ?_) AllReadyH.nil)
    · go_simp
      refine (pick_any _ _ _ (by omega) (by omega) (by omega) (by omega)).mono ?_
      rintro e w1 ⟨rfl, rfl⟩
      go_wp2_with fail
      refine hK.out _ _ hHeld (fun hHeld => ?_)
      clear hK K
      refine wpAnyH_ready (rs := [7, 23]) (by kernel_rfl) (by simp) ?_
      refine AllReadyH.cons rfl (fun K hK => ?_) (AllReadyH.cons rfl (fun K hK => ?_) AllReadyH.nil)
      · go_simp
        refine (pick_any _ _ _ (by omega) (by omega) (by omega) (by omega)).mono ?_
        rintro e w1 ⟨rfl, rfl⟩
        go_wp2_with fail
        refine hK.out _ _ hHeld (fun hHeld => ?_)
        clear hK K
        refine wpAnyH_ready (rs := [10, 23]) (by kernel_rfl) (by simp) ?_
        refine AllReadyH.cons rfl (fun K hK => ?_) (AllReadyH.cons rfl (fun K hK => ?_) AllReadyH.nil)
        · go_simp
          refine (pick_any _ _ _ (by omega) (by omega) (by omega) (by omega)).mono ?_
          rintro e w1 ⟨rfl, rfl⟩
          go_wp2_with fail
          refine hK.out _ _ hHeld (fun hHeld => ?_)
          clear hK K
          refine wpAnyH_ready (rs := [13, 23]) (by kernel_rfl) (by simp) ?_
          refine AllReadyH.cons rfl (fun K hK => ?_) (AllReadyH.cons rfl (fun K hK => ?_) AllReadyH.nil)
          · go_simp
            refine (pick_any _ _ _ (by omega) (by omega) (by omega) (by omega)).mono ?_
            rintro e w1 ⟨rfl, rfl⟩
            go_wp2_with fail
            refine hK.out _ _ hHeld (fun hHeld => ?_)
            clear hK K
            refine wpAnyH_ready (rs := [18, 23]) (by kernel_rfl) (by simp) ?_
            refine AllReadyH.cons rfl (fun K hK => ?_) (AllReadyH.cons rfl (fun K hK => ?_) AllReadyH.nil)
            · go_simp
              refine (cut_any _ 500 _ hpy (by omega)).mono ?_
              rintro e w1 ⟨rfl, rfl⟩
              go_wp2_with fail
              refine hK.out _ _ hHeld (fun hHeld => ?_)
              clear hK K
              refine wpAnyH_ready (rs := [21, 23]) (by kernel_rfl) (by simp) ?_
              refine AllReadyH.cons rfl (fun K hK => ?_) (AllReadyH.cons rfl (fun K hK => ?_) AllReadyH.nil)
              · go_simp
                refine (pick_any _ _ _ (by omega) (by omega) (by omega) (by omega)).mono ?_
                rintro e w1 ⟨rfl, rfl⟩
                go_wp2_with fail
                refine hK.out _ _ hHeld (fun hHeld => ?_)
                clear hK K
                refine wpAnyH_take (i := 22) (v := ?v17) rfl (by kernel_rfl) (by kernel_rfl) (by kernel_rfl) (fun _ _ _ h => h) (Or.inl ⟨by rfl, ?y17⟩) hHeld ?r17
                case y17 => ((intro W hSw; go_simp) <;> with_reducible rfl)
                try simp only [Act.put]
                try simp only [List.setIfInBounds_toArray]
                try simp only [List.set_cons_succ]
                try simp only [List.set_cons_zero]
                refine wpAnyH_ready (rs := [23]) (by kernel_rfl) (by simp) ?_
                refine AllReadyH.cons rfl (fun K hK => ?_) AllReadyH.nil
                go_simp
                refine hK.out _ _ (fun o => (World.cell?_alloc_lt _ _ _ (by simp; omega)).trans (hHeld o)) (fun hHeld => ?_)
                clear hK K
                refine wpAnyH_ready (rs := [24]) (by kernel_rfl) (by simp) ?_
                refine AllReadyH.cons rfl (fun K hK => ?_) AllReadyH.nil
                go_simp
                refine hK.out _ _ ?_ (fun hHeld => ?_)
                · intro o
                  rw [← hHeld o]
                  simp [go_sem]
                clear hK K
                refine wpAnyH_done (by kernel_rfl) ?_ _
                refine NoPanic.normal ?_
                exact hQ
              · go_simp
                refine hK.out _ _ (fun o => (World.cell?_alloc_lt _ _ _ (by simp; omega)).trans (hHeld o)) (fun hHeld => ?_)
                clear hK K
                refine wpAnyH_ready (rs := [21]) (by kernel_rfl) (by simp) ?_
                refine AllReadyH.cons rfl (fun K hK => ?_) AllReadyH.nil
                go_simp
                refine (pick_any _ _ _ (by omega) (by omega) (by omega) (by omega)).mono ?_
                rintro e w1 ⟨rfl, rfl⟩
                go_wp2_with fail
                refine hK.out _ _ hHeld (fun hHeld => ?_)
                clear hK K
                refine wpAnyH_take (i := 22) (v := ?v18) rfl (by kernel_rfl) (by kernel_rfl) (by kernel_rfl) (fun _ _ _ h => h) (Or.inl ⟨by rfl, ?y18⟩) hHeld ?r18
                case y18 => ((intro W hSw; go_simp) <;> with_reducible rfl)
                try simp only [Act.put]
                try simp only [List.setIfInBounds_toArray]
                try simp only [List.set_cons_succ]
                try simp only [List.set_cons_zero]
                refine wpAnyH_ready (rs := [24]) (by kernel_rfl) (by simp) ?_
                refine AllReadyH.cons rfl (fun K hK => ?_) AllReadyH.nil
                go_simp
                refine hK.out _ _ ?_ (fun hHeld => ?_)
                · intro o
                  rw [← hHeld o]
                  simp [go_sem]
                clear hK K
                refine wpAnyH_done (by kernel_rfl) ?_ _
                refine NoPanic.normal ?_
                exact hQ
            · go_simp
              refine hK.out _ _ (fun o => (World.cell?_alloc_lt _ _ _ (by simp; omega)).trans (hHeld o)) (fun hHeld => ?_)
              clear hK K
              refine wpAnyH_ready (rs := [18]) (by kernel_rfl) (by simp) ?_
              refine AllReadyH.cons rfl (fun K hK => ?_) AllReadyH.nil
              go_simp
              refine (cut_any _ 500 _ hpy (by omega)).mono ?_
              rintro e w1 ⟨rfl, rfl⟩
              go_wp2_with fail
              refine hK.out _ _ hHeld (fun hHeld => ?_)
              clear hK K
              refine wpAnyH_ready (rs := [21]) (by kernel_rfl) (by simp) ?_
              refine AllReadyH.cons rfl (fun K hK => ?_) AllReadyH.nil
              go_simp
              refine (pick_any _ _ _ (by omega) (by omega) (by omega) (by omega)).mono ?_
              rintro e w1 ⟨rfl, rfl⟩
              go_wp2_with fail
              refine hK.out _ _ hHeld (fun hHeld => ?_)
              clear hK K
              refine wpAnyH_take (i := 22) (v := ?v19) rfl (by kernel_rfl) (by kernel_rfl) (by kernel_rfl) (fun _ _ _ h => h) (Or.inl ⟨by rfl, ?y19⟩) hHeld ?r19
              case y19 => ((intro W hSw; go_simp) <;> with_reducible rfl)
              try simp only [Act.put]
              try simp only [List.setIfInBounds_toArray]
              try simp only [List.set_cons_succ]
              try simp only [List.set_cons_zero]
              refine wpAnyH_ready (rs := [24]) (by kernel_rfl) (by simp) ?_
              refine AllReadyH.cons rfl (fun K hK => ?_) AllReadyH.nil
              go_simp
              refine hK.out _ _ ?_ (fun hHeld => ?_)
              · intro o
                rw [← hHeld o]
                simp [go_sem]
              clear hK K
              refine wpAnyH_done (by kernel_rfl) ?_ _
              refine NoPanic.normal ?_
              exact hQ
          · go_simp
            refine hK.out _ _ (fun o => (World.cell?_alloc_lt _ _ _ (by simp; omega)).trans (hHeld o)) (fun hHeld => ?_)
            clear hK K
            refine wpAnyH_ready (rs := [13]) (by kernel_rfl) (by simp) ?_
            refine AllReadyH.cons rfl (fun K hK => ?_) AllReadyH.nil
            go_simp
            refine (pick_any _ _ _ (by omega) (by omega) (by omega) (by omega)).mono ?_
            rintro e w1 ⟨rfl, rfl⟩
            go_wp2_with fail
            refine hK.out _ _ hHeld (fun hHeld => ?_)
            clear hK K
            refine wpAnyH_ready (rs := [18]) (by kernel_rfl) (by simp) ?_
            refine AllReadyH.cons rfl (fun K hK => ?_) AllReadyH.nil
            go_simp
            refine (cut_any _ 500 _ hpy (by omega)).mono ?_
            rintro e w1 ⟨rfl, rfl⟩
            go_wp2_with fail
            refine hK.out _ _ hHeld (fun hHeld => ?_)
            clear hK K
            refine wpAnyH_ready (rs := [21]) (by kernel_rfl) (by simp) ?_
            refine AllReadyH.cons rfl (fun K hK => ?_) AllReadyH.nil
            go_simp
            refine (pick_any _ _ _ (by omega) (by omega) (by omega) (by omega)).mono ?_
            rintro e w1 ⟨rfl, rfl⟩
            go_wp2_with fail
            refine hK.out _ _ hHeld (fun hHeld => ?_)
            clear hK K
            refine wpAnyH_take (i := 22) (v := ?v20) rfl (by kernel_rfl) (by kernel_rfl) (by kernel_rfl) (fun _ _ _ h => h) (Or.inl ⟨by rfl, ?y20⟩) hHeld ?r20
            case y20 => ((intro W hSw; go_simp) <;> with_reducible rfl)
            try simp only [Act.put]
            try simp only [List.setIfInBounds_toArray]
            try simp only [List.set_cons_succ]
            try simp only [List.set_cons_zero]
            refine wpAnyH_ready (rs := [24]) (by kernel_rfl) (by simp) ?_
            refine AllReadyH.cons rfl (fun K hK => ?_) AllReadyH.nil
            go_simp
            refine hK.out _ _ ?_ (fun hHeld => ?_)
            · intro o
              rw [← hHeld o]
              simp [go_sem]
            clear hK K
            refine wpAnyH_done (by kernel_rfl) ?_ _
            refine NoPanic.normal ?_
            exact hQ
        · go_simp
          refine hK.out _ _ (fun o => (World.cell?_alloc_lt _ _ _ (by simp; omega)).trans (hHeld o)) (fun hHeld => ?_)
          clear hK K
          refine wpAnyH_ready (rs := [10]) (by kernel_rfl) (by simp) ?_
          refine AllReadyH.cons rfl (fun K hK => ?_) AllReadyH.nil
          go_simp
          refine (pick_any _ _ _ (by omega) (by omega) (by omega) (by omega)).mono ?_
          rintro e w1 ⟨rfl, rfl⟩
          go_wp2_with fail
          refine hK.out _ _ hHeld (fun hHeld => ?_)
          clear hK K
          refine wpAnyH_ready (rs := [13]) (by kernel_rfl) (by simp) ?_
          refine AllReadyH.cons rfl (fun K hK => ?_) AllReadyH.nil
          go_simp
          refine (pick_any _ _ _ (by omega) (by omega) (by omega) (by omega)).mono ?_
          rintro e w1 ⟨rfl, rfl⟩
          go_wp2_with fail
          refine hK.out _ _ hHeld (fun hHeld => ?_)
          clear hK K
          refine wpAnyH_ready (rs := [18]) (by kernel_rfl) (by simp) ?_
          refine AllReadyH.cons rfl (fun K hK => ?_) AllReadyH.nil
          go_simp
          refine (cut_any _ 500 _ hpy (by omega)).mono ?_
          rintro e w1 ⟨rfl, rfl⟩
          go_wp2_with fail
          refine hK.out _ _ hHeld (fun hHeld => ?_)
          clear hK K
          refine wpAnyH_ready (rs := [21]) (by kernel_rfl) (by simp) ?_
          refine AllReadyH.cons rfl (fun K hK => ?_) AllReadyH.nil
          go_simp
          refine (pick_any _ _ _ (by omega) (by omega) (by omega) (by omega)).mono ?_
          rintro e w1 ⟨rfl, rfl⟩
          go_wp2_with fail
          refine hK.out _ _ hHeld (fun hHeld => ?_)
          clear hK K
          refine wpAnyH_take (i := 22) (v := ?v21) rfl (by kernel_rfl) (by kernel_rfl) (by kernel_rfl) (fun _ _ _ h => h) (Or.inl ⟨by rfl, ?y21⟩) hHeld ?r21
          case y21 => ((intro W hSw; go_simp) <;> with_reducible rfl)
          try simp only [Act.put]
          try simp only [List.setIfInBounds_toArray]
          try simp only [List.set_cons_succ]
          try simp only [List.set_cons_zero]
          refine wpAnyH_ready (rs := [24]) (by kernel_rfl) (by simp) ?_
          refine AllReadyH.cons rfl (fun K hK => ?_) AllReadyH.nil
          go_simp
          refine hK.out _ _ ?_ (fun hHeld => ?_)
          · intro o
            rw [← hHeld o]
            simp [go_sem]
          clear hK K
          refine wpAnyH_done (by kernel_rfl) ?_ _
          refine NoPanic.normal ?_
          exact hQ
      · go_simp
        refine hK.out _ _ (fun o => (World.cell?_alloc_lt _ _ _ (by simp; omega)).trans (hHeld o)) (fun hHeld => ?_)
        clear hK K
        refine wpAnyH_ready (rs := [7]) (by kernel_rfl) (by simp) ?_
        refine AllReadyH.cons rfl (fun K hK => ?_) AllReadyH.nil
        go_simp
        refine (pick_any _ _ _ (by omega) (by omega) (by omega) (by omega)).mono ?_
        rintro e w1 ⟨rfl, rfl⟩
        go_wp2_with fail
        refine hK.out _ _ hHeld (fun hHeld => ?_)
        clear hK K
        refine wpAnyH_ready (rs := [10]) (by kernel_rfl) (by simp) ?_
        refine AllReadyH.cons rfl (fun K hK => ?_) AllReadyH.nil
        go_simp
        refine (pick_any _ _ _ (by omega) (by omega) (by omega) (by omega)).mono ?_
        rintro e w1 ⟨rfl, rfl⟩
        go_wp2_with fail
        refine hK.out _ _ hHeld (fun hHeld => ?_)
        clear hK K
        refine wpAnyH_ready (rs := [13]) (by kernel_rfl) (by simp) ?_
        refine AllReadyH.cons rfl (fun K hK => ?_) AllReadyH.nil
        go_simp
        refine (pick_any _ _ _ (by omega) (by omega) (by omega) (by omega)).mono ?_
        rintro e w1 ⟨rfl, rfl⟩
        go_wp2_with fail
        refine hK.out _ _ hHeld (fun hHeld => ?_)
        clear hK K
        refine wpAnyH_ready (rs := [18]) (by kernel_rfl) (by simp) ?_
        refine AllReadyH.cons rfl (fun K hK => ?_) AllReadyH.nil
        go_simp
        refine (cut_any _ 500 _ hpy (by omega)).mono ?_
        rintro e w1 ⟨rfl, rfl⟩
        go_wp2_with fail
        refine hK.out _ _ hHeld (fun hHeld => ?_)
        clear hK K
        refine wpAnyH_ready (rs := [21]) (by kernel_rfl) (by simp) ?_
        refine AllReadyH.cons rfl (fun K hK => ?_) AllReadyH.nil
        go_simp
        refine (pick_any _ _ _ (by omega) (by omega) (by omega) (by omega)).mono ?_
        rintro e w1 ⟨rfl, rfl⟩
        go_wp2_with fail
        refine hK.out _ _ hHeld (fun hHeld => ?_)
        clear hK K
        refine wpAnyH_take (i := 22) (v := ?v22) rfl (by kernel_rfl) (by kernel_rfl) (by kernel_rfl) (fun _ _ _ h => h) (Or.inl ⟨by rfl, ?y22⟩) hHeld ?r22
        case y22 => ((intro W hSw; go_simp) <;> with_reducible rfl)
        try simp only [Act.put]
        try simp only [List.setIfInBounds_toArray]
        try simp only [List.set_cons_succ]
        try simp only [List.set_cons_zero]
        refine wpAnyH_ready (rs := [24]) (by kernel_rfl) (by simp) ?_
        refine AllReadyH.cons rfl (fun K hK => ?_) AllReadyH.nil
        go_simp
        refine hK.out _ _ ?_ (fun hHeld => ?_)
        · intro o
          rw [← hHeld o]
          simp [go_sem]
        clear hK K
        refine wpAnyH_done (by kernel_rfl) ?_ _
        refine NoPanic.normal ?_
        exact hQ
    · go_simp
      refine hK.out _ _ (fun o => (World.cell?_alloc_lt _ _ _ (by simp; omega)).trans (hHeld o)) (fun hHeld => ?_)
      clear hK K
      refine wpAnyH_ready (rs := [4]) (by kernel_rfl) (by simp) ?_
      refine AllReadyH.cons rfl (fun K hK => ?_) AllReadyH.nil
      go_simp
      refine (pick_any _ _ _ (by omega) (by omega) (by omega) (by omega)).mono ?_
      rintro e w1 ⟨rfl, rfl⟩
      go_wp2_with fail
      refine hK.out _ _ hHeld (fun hHeld => ?_)
      clear hK K
      refine wpAnyH_ready (rs := [7]) (by kernel_rfl) (by simp) ?_
      refine AllReadyH.cons rfl (fun K hK => ?_) AllReadyH.nil
      go_simp
      refine (pick_any _ _ _ (by omega) (by omega) (by omega) (by omega)).mono ?_
      rintro e w1 ⟨rfl, rfl⟩
      go_wp2_with fail
      refine hK.out _ _ hHeld (fun hHeld => ?_)
      clear hK K
      refine wpAnyH_ready (rs := [10]) (by kernel_rfl) (by simp) ?_
      refine AllReadyH.cons rfl (fun K hK => ?_) AllReadyH.nil
      go_simp
      refine (pick_any _ _ _ (by omega) (by omega) (by omega) (by omega)).mono ?_
      rintro e w1 ⟨rfl, rfl⟩
      go_wp2_with fail
      refine hK.out _ _ hHeld (fun hHeld => ?_)
      clear hK K
      refine wpAnyH_ready (rs := [13]) (by kernel_rfl) (by simp) ?_
      refine AllReadyH.cons rfl (fun K hK => ?_) AllReadyH.nil
      go_simp
      refine (pick_any _ _ _ (by omega) (by omega) (by omega) (by omega)).mono ?_
      rintro e w1 ⟨rfl, rfl⟩
      go_wp2_with fail
      refine hK.out _ _ hHeld (fun hHeld => ?_)
      clear hK K
      refine wpAnyH_ready (rs := [18]) (by kernel_rfl) (by simp) ?_
      refine AllReadyH.cons rfl (fun K hK => ?_) AllReadyH.nil
      go_simp
      refine (cut_any _ 500 _ hpy (by omega)).mono ?_
      rintro e w1 ⟨rfl, rfl⟩
      go_wp2_with fail
      refine hK.out _ _ hHeld (fun hHeld => ?_)
      clear hK K
      refine wpAnyH_ready (rs := [21]) (by kernel_rfl) (by simp) ?_
      refine AllReadyH.cons rfl (fun K hK => ?_) AllReadyH.nil
      go_simp
      refine (pick_any _ _ _ (by omega) (by omega) (by omega) (by omega)).mono ?_
      rintro e w1 ⟨rfl, rfl⟩
      go_wp2_with fail
      refine hK.out _ _ hHeld (fun hHeld => ?_)
      clear hK K
      refine wpAnyH_take (i := 22) (v := ?v23) rfl (by kernel_rfl) (by kernel_rfl) (by kernel_rfl) (fun _ _ _ h => h) (Or.inl ⟨by rfl, ?y23⟩) hHeld ?r23
      case y23 => ((intro W hSw; go_simp) <;> with_reducible rfl)
      try simp only [Act.put]
      try simp only [List.setIfInBounds_toArray]
      try simp only [List.set_cons_succ]
      try simp only [List.set_cons_zero]
      refine wpAnyH_ready (rs := [24]) (by kernel_rfl) (by simp) ?_
      refine AllReadyH.cons rfl (fun K hK => ?_) AllReadyH.nil
      go_simp
      refine hK.out _ _ ?_ (fun hHeld => ?_)
      · intro o
        rw [← hHeld o]
        simp [go_sem]
      clear hK K
      refine wpAnyH_done (by kernel_rfl) ?_ _
      refine NoPanic.normal ?_
      exact hQ
  have hinfo : (Try.prog.info? 3).map (fun i => (i.zero, i.size, i.bytes)) = some (some (.int .i64 0), 1, 8) := by kernel_rfl
  obtain ⟨i0, hi, hz0, hz1, hz2⟩ := info_parts hinfo
  have Hi : Hid (Try.prog.info? 3 = some i0 ∧ i0.zero = some (.int .i64 0) ∧ i0.size = 1 ∧ i0.bytes = 8) := ⟨hi, hz0, hz1, hz2⟩
  clear hi hz0 hz1 hz2 hinfo
  go_wp2
  go_loopw [4] (fun i wr => ∃ (k : Nat) (v : Value), k ≤ 15 ∧ k ≤ rl.length ∧ i = .int .i64 k ∧ PS w wr ex (.slice ao rl.length cap) pr en (.bool mk) (.int .i64 (pickF ty 128)) (.int .i64 (pickF nu 65536)) (.int .i64 (pickF ti 4294967296)) (.int .i64 (pickF so 4294967296)) v (.bool ex) (.int .i64 0) (.string ⟨#[]⟩) (.string (cutF py 500)) (.int .i64 (pickF pa 256)) ∧ OwnInts wr (w.heap.size + 1 + 1 + 1) v ((rl.take k).map fun c => pickF c 4294967296)) (fun i _ => 15 - (intOf i).toNat)
  case atStart => exact ⟨0, .slice none 0 0, by omega, by omega, rfl, PS.init .., World.ownsRow_nil _ _ _ _⟩
  case round =>
    obtain ⟨k, v, hk15, hkl, rfl, hPS, hown⟩ := hrel
    have hlk : ((rl.take k).map fun c => pickF c 4294967296).length = k := by rw [List.length_map, List.length_take]; omega
    obtain ⟨a1, c1, hv⟩ := hown.shape
    rw [hlk] at hv
    subst hv
    have hq1 := hPS.q1
    have hq6 := hPS.q6
    by_cases hlt : k < rl.length ∧ k < 15
    · obtain ⟨hl1, hl2⟩ := hlt
      obtain ⟨b, off, rfl, hb, hcell⟩ := Hc.out k hl1
      have Hcell : Hid (w.cell? ⟨b, off + k, none⟩ = some (.int .i64 (rl.getD k 0))) := hcell
      have hcr : wr.cell? ⟨b, off + k, none⟩ = some (.int .i64 (rl.getD k 0)) := (hPS.bel.cell (p := ⟨b, off + k, none⟩) hb).trans hcell
      have Htk : Hid ((rl.take (k + 1)).map (fun c => pickF c 4294967296) = (rl.take k).map (fun c => pickF c 4294967296) ++ [pickF (rl.getD k 0) 4294967296]) := by
        show _ = _
        rw [List.take_succ_eq_append_getElem hl1, List.map_append]
        simp [hl1]
      have hq := Hrl.out (rl.getD k 0) (by simp [List.getD, hl1])
      generalize rl.getD k 0 = q at *
      have hlk1 : Hid (((rl.take (k + 1)).map fun c => pickF c 4294967296).length = k + 1) := by show _ = _; rw [List.length_map, List.length_take]; omega
      have hsz := hPS.siz
      have hy5 := hPS.y5
      have hal : ∀ o, (wr.alloc o).cell? ⟨w.heap.size + 1 + 1, 5, none⟩ = _ := fun o => cell_alloc hy5 o
      have HPS : Hid (PS w wr ex (.slice (some ⟨b, off, none⟩) rl.length cap) pr en (.bool mk) (.int .i64 (pickF ty 128)) (.int .i64 (pickF nu 65536)) (.int .i64 (pickF ti 4294967296)) (.int .i64 (pickF so 4294967296)) (.slice a1 k c1) (.bool ex) (.int .i64 0) (.string ⟨#[]⟩) (.string (cutF py 500)) (.int .i64 (pickF pa 256))) := hPS
      have Hown : Hid (wr.ownsRow (w.heap.size + 1 + 1 + 1) 3 1 (.slice a1 k c1) k (((rl.take k).map fun c => pickF c 4294967296).map (Value.int .i64))) := by have h : wr.ownsRow _ _ _ _ _ _ := hown; rw [hlk] at h; exact h
      have hl1' : (k : Int) < rl.length := by omega
      have hl2' : (k : Int) < 15 := by omega
      clear hPS hown hcell hlk
      go_wp2
      refine region_once3 (R := fun a' c' w1 => OwnInts w1 (w.heap.size + 1 + 1 + 1) (.slice a' (k + 1) c') ((rl.take (k + 1)).map fun c => pickF c 4294967296) ∧ PS w w1 ex (.slice (some ⟨b, off, none⟩) rl.length cap) pr en (.bool mk) (.int .i64 (pickF ty 128)) (.int .i64 (pickF nu 65536)) (.int .i64 (pickF ti 4294967296)) (.int .i64 (pickF so 4294967296)) (.slice a1 k c1) (.bool ex) (.int .i64 0) (.string ⟨#[]⟩) (.string (cutF py 500)) (.int .i64 (pickF pa 256))) (fa := ?fa3) (fw := ?fw3) ?g1 ?g2
      case g1 =>
        intro hQ
        refine wp_region_noPanic ?_
        refine wp_region_held_drew (S := fun W => W.cell? ⟨w.heap.size, 6, none⟩ = some (.slice (some ⟨b, off, none⟩) rl.length cap) ∧ W.cell? ⟨b, off + k, none⟩ = some (.int .i64 q)) (by kernel_rfl) ⟨hq6, hcr⟩ (fun hHeld => ?_)
        refine wpAnyH_take (i := 0) (v := ?v1004) rfl (by kernel_rfl) (by kernel_rfl) (by kernel_rfl) (fun _ _ _ h => h) (Or.inl ⟨by rfl, ?y1004⟩) hHeld ?r1004
        case y1004 => ((intro W hSw; go_simp) <;> with_reducible rfl)
        try simp only [Act.put]
        try simp only [List.setIfInBounds_toArray]
        try simp only [List.set_cons_succ]
        try simp only [List.set_cons_zero]
        refine wpAnyH_take (i := 2) (v := ?v1005) rfl (by kernel_rfl) (by kernel_rfl) (by kernel_rfl) (fun _ _ _ h => h) (Or.inl ⟨by rfl, ?y1005⟩) hHeld ?r1005
        case y1005 => ((intro W hSw; go_simp) <;> with_reducible rfl)
        try simp only [Act.put]
        try simp only [List.setIfInBounds_toArray]
        try simp only [List.set_cons_succ]
        try simp only [List.set_cons_zero]
        refine wpAnyH_take (i := 3) (v := ?v1006) rfl (by kernel_rfl) (by kernel_rfl) (by kernel_rfl) (fun _ _ _ h => h) (Or.inl ⟨by rfl, ?y1006⟩) hHeld ?r1006
        case y1006 => ((intro W hSw; go_simp) <;> with_reducible rfl)
        try simp only [Act.put]
        try simp only [List.setIfInBounds_toArray]
        try simp only [List.set_cons_succ]
        try simp only [List.set_cons_zero]
        refine wpAnyH_take (i := 4) (v := ?v1007) rfl (by kernel_rfl) (by kernel_rfl) (by kernel_rfl) (fun _ _ _ h => h) (Or.inl ⟨by rfl, ?y1007⟩) hHeld ?r1007
        case y1007 => ((intro W hSw; go_simp) <;> with_reducible rfl)
        try simp only [Act.put]
        try simp only [List.setIfInBounds_toArray]
        try simp only [List.set_cons_succ]
        try simp only [List.set_cons_zero]
        refine wpAnyH_take (i := 5) (v := ?v1008) rfl (by kernel_rfl) (by kernel_rfl) (by kernel_rfl) (fun _ _ _ h => h) (Or.inl ⟨by rfl, ?y1008⟩) hHeld ?r1008
        case y1008 => ((intro W hSw; go_simp) <;> with_reducible rfl)
        try simp only [Act.put]
        try simp only [List.setIfInBounds_toArray]
        try simp only [List.set_cons_succ]
        try simp only [List.set_cons_zero]
        refine wpAnyH_take (i := 6) (v := ?v1009) rfl (by kernel_rfl) (by kernel_rfl) (by kernel_rfl) (fun _ _ _ h => h) (Or.inl ⟨by rfl, ?y1009⟩) hHeld ?r1009
        case y1009 => ((intro W hSw; go_simp) <;> with_reducible rfl)
        try simp only [Act.put]
        try simp only [List.setIfInBounds_toArray]
        try simp only [List.set_cons_succ]
        try simp only [List.set_cons_zero]
        refine wpAnyH_ready (rs := [1, 7]) (by kernel_rfl) (by simp) ?_
        refine AllReadyH.cons rfl (fun K hK => ?_) (AllReadyH.cons rfl (fun K hK => ?_) AllReadyH.nil)
        · go_simp
          refine hK.out _ _ hHeld (fun hHeld => ?_)
          clear hK K
          refine wpAnyH_ready (rs := [7]) (by kernel_rfl) (by simp) ?_
          refine AllReadyH.cons rfl (fun K hK => ?_) AllReadyH.nil
          go_simp
          refine (pick_any _ _ _ hq.1 hq.2 (by omega) (by omega)).mono ?_
          rintro e w1 ⟨rfl, rfl⟩
          go_wp2_with fail
          refine hK.out _ _ hHeld (fun hHeld => ?_)
          clear hK K
          refine wpAnyH_ready (rs := [8]) (by kernel_rfl) (by simp) ?_
          refine AllReadyH.cons rfl (fun K hK => ?_) AllReadyH.nil
          go_simp
          refine hK.out _ _ ⟨cell_alloc hHeld.1 _, cell_alloc hHeld.2 _⟩ (fun hHeld => ?_)
          clear hK K
          refine wpAnyH_ready (rs := [9]) (by kernel_rfl) (by simp) ?_
          refine AllReadyH.cons rfl (fun K hK => ?_) AllReadyH.nil
          rw [if_pos (by rfl)]
          refine wp_append_own _ (.tmp 41) (.tmp 48) 27 rfl (w.heap.size + 1 + 1 + 1) 3 i0 (.int .i64 0) 1 8 Try.underlying27 Hi.out.1 Hi.out.2.1 Hi.out.2.2.1 Hi.out.2.2.2 rfl (by decide) (.slice a1 k c1) k (((rl.take k).map fun c => pickF c 4294967296).map (Value.int .i64)) (by rfl) (World.ownsRow.drew (World.ownsRow.alloc Hown.out _)) _ 1 1 [.int .i64 (pickF q 4294967296)] (by rfl) rfl (cell_one_new _ _ _) ?_ ?_ ?_ ?_ ?_
          · intro u hu; simp at hu; subst hu; rfl
          · unfold maxLen; omega
          · omega
          · have := hsz; simp; omega
          intro v' w1 hown' hgrow _
          have R1 : OwnInts w1 (w.heap.size + 1 + 1 + 1) v' ((rl.take (k + 1)).map fun c => pickF c 4294967296) := by show w1.ownsRow _ _ _ _ _ _; rw [hlk1.out, Htk.out, List.map_append]; exact hown'
          have R2 : PS w w1 ex (.slice (some ⟨b, off, none⟩) rl.length cap) pr en (.bool mk) (.int .i64 (pickF ty 128)) (.int .i64 (pickF nu 65536)) (.int .i64 (pickF ti 4294967296)) (.int .i64 (pickF so 4294967296)) (.slice a1 k c1) (.bool ex) (.int .i64 0) (.string ⟨#[]⟩) (.string (cutF py 500)) (.int .i64 (pickF pa 256)) := (HPS.out.below (((Below.refl _ _).alloc (Nat.succ_le_of_lt hsz) _).drew)).below ((Below.refl _ _).grown hgrow (by have := hsz; simp; omega) (fun g hg => (World.ownsRow.lt Hown.out g hg).1))
          have R3 : w1.cell? ⟨b, off + k, none⟩ = some (.int .i64 q) := (R2.bel.cell (p := ⟨b, off + k, none⟩) hb).trans Hcell.out
          obtain ⟨a', c', hv'⟩ := R1.shape
          rw [hlk1.out] at hv'
          subst hv'
          refine hK.out _ _ ⟨R2.q6, R3⟩ (fun hHeld => ?_)
          clear hK K hown' hgrow
          try simp only [Act.put]
          try simp only [List.setIfInBounds_toArray]
          try simp only [List.set_cons_succ]
          try simp only [List.set_cons_zero]
          refine wpAnyH_take (i := 10) (v := ?v1001) rfl (by kernel_rfl) (by kernel_rfl) (by kernel_rfl) (fun _ _ _ h => h) (Or.inl ⟨by rfl, ?y1001⟩) hHeld ?r1001
          case y1001 => ((intro W hSw; go_simp) <;> with_reducible rfl)
          try simp only [Act.put]
          try simp only [List.setIfInBounds_toArray]
          try simp only [List.set_cons_succ]
          try simp only [List.set_cons_zero]
          refine wpAnyH_ready (rs := [11]) (by kernel_rfl) (by simp) ?_
          refine AllReadyH.cons rfl (fun K hK => ?_) AllReadyH.nil
          have yy := R2.y5
          have ff := R2.fy
          go_simp
          refine hK.out _ _ ⟨(R2.set5 _).q6, ?_⟩ (fun hHeld => ?_)
          · rw [World.cell?_setCell_other _ _ _ _ (by simp <;> omega)]; exact R3
          clear hK K
          refine wpAnyH_done (by kernel_rfl) ?_ _
          refine NoPanic.normal ?_
          exact hQ a' c' w1 ⟨R1, R2⟩
        · go_simp
          refine (pick_any _ _ _ hq.1 hq.2 (by omega) (by omega)).mono ?_
          rintro e w1 ⟨rfl, rfl⟩
          go_wp2_with fail
          refine hK.out _ _ hHeld (fun hHeld => ?_)
          clear hK K
          refine wpAnyH_ready (rs := [1, 8]) (by kernel_rfl) (by simp) ?_
          refine AllReadyH.cons rfl (fun K hK => ?_) (AllReadyH.cons rfl (fun K hK => ?_) AllReadyH.nil)
          · go_simp
            refine hK.out _ _ hHeld (fun hHeld => ?_)
            clear hK K
            refine wpAnyH_ready (rs := [8]) (by kernel_rfl) (by simp) ?_
            refine AllReadyH.cons rfl (fun K hK => ?_) AllReadyH.nil
            go_simp
            refine hK.out _ _ ⟨cell_alloc hHeld.1 _, cell_alloc hHeld.2 _⟩ (fun hHeld => ?_)
            clear hK K
            refine wpAnyH_ready (rs := [9]) (by kernel_rfl) (by simp) ?_
            refine AllReadyH.cons rfl (fun K hK => ?_) AllReadyH.nil
            rw [if_pos (by rfl)]
            refine wp_append_own _ (.tmp 41) (.tmp 48) 27 rfl (w.heap.size + 1 + 1 + 1) 3 i0 (.int .i64 0) 1 8 Try.underlying27 Hi.out.1 Hi.out.2.1 Hi.out.2.2.1 Hi.out.2.2.2 rfl (by decide) (.slice a1 k c1) k (((rl.take k).map fun c => pickF c 4294967296).map (Value.int .i64)) (by rfl) (World.ownsRow.drew (World.ownsRow.alloc Hown.out _)) _ 1 1 [.int .i64 (pickF q 4294967296)] (by rfl) rfl (cell_one_new _ _ _) ?_ ?_ ?_ ?_ ?_
            · intro u hu; simp at hu; subst hu; rfl
            · unfold maxLen; omega
            · omega
            · have := hsz; simp; omega
            intro v' w1 hown' hgrow _
            have R1 : OwnInts w1 (w.heap.size + 1 + 1 + 1) v' ((rl.take (k + 1)).map fun c => pickF c 4294967296) := by show w1.ownsRow _ _ _ _ _ _; rw [hlk1.out, Htk.out, List.map_append]; exact hown'
            have R2 : PS w w1 ex (.slice (some ⟨b, off, none⟩) rl.length cap) pr en (.bool mk) (.int .i64 (pickF ty 128)) (.int .i64 (pickF nu 65536)) (.int .i64 (pickF ti 4294967296)) (.int .i64 (pickF so 4294967296)) (.slice a1 k c1) (.bool ex) (.int .i64 0) (.string ⟨#[]⟩) (.string (cutF py 500)) (.int .i64 (pickF pa 256)) := (HPS.out.below (((Below.refl _ _).alloc (Nat.succ_le_of_lt hsz) _).drew)).below ((Below.refl _ _).grown hgrow (by have := hsz; simp; omega) (fun g hg => (World.ownsRow.lt Hown.out g hg).1))
            have R3 : w1.cell? ⟨b, off + k, none⟩ = some (.int .i64 q) := (R2.bel.cell (p := ⟨b, off + k, none⟩) hb).trans Hcell.out
            obtain ⟨a', c', hv'⟩ := R1.shape
            rw [hlk1.out] at hv'
            subst hv'
            refine hK.out _ _ ⟨R2.q6, R3⟩ (fun hHeld => ?_)
            clear hK K hown' hgrow
            try simp only [Act.put]
            try simp only [List.setIfInBounds_toArray]
            try simp only [List.set_cons_succ]
            try simp only [List.set_cons_zero]
            refine wpAnyH_take (i := 10) (v := ?v1002) rfl (by kernel_rfl) (by kernel_rfl) (by kernel_rfl) (fun _ _ _ h => h) (Or.inl ⟨by rfl, ?y1002⟩) hHeld ?r1002
            case y1002 => ((intro W hSw; go_simp) <;> with_reducible rfl)
            try simp only [Act.put]
            try simp only [List.setIfInBounds_toArray]
            try simp only [List.set_cons_succ]
            try simp only [List.set_cons_zero]
            refine wpAnyH_ready (rs := [11]) (by kernel_rfl) (by simp) ?_
            refine AllReadyH.cons rfl (fun K hK => ?_) AllReadyH.nil
            have yy := R2.y5
            have ff := R2.fy
            go_simp
            refine hK.out _ _ ⟨(R2.set5 _).q6, ?_⟩ (fun hHeld => ?_)
            · rw [World.cell?_setCell_other _ _ _ _ (by simp <;> omega)]; exact R3
            clear hK K
            refine wpAnyH_done (by kernel_rfl) ?_ _
            refine NoPanic.normal ?_
            exact hQ a' c' w1 ⟨R1, R2⟩
          · go_simp
            refine hK.out _ _ ⟨cell_alloc hHeld.1 _, cell_alloc hHeld.2 _⟩ (fun hHeld => ?_)
            clear hK K
            refine wpAnyH_ready (rs := [1]) (by kernel_rfl) (by simp) ?_
            refine AllReadyH.cons rfl (fun K hK => ?_) AllReadyH.nil
            go_simp
            refine hK.out _ _ hHeld (fun hHeld => ?_)
            clear hK K
            refine wpAnyH_ready (rs := [9]) (by kernel_rfl) (by simp) ?_
            refine AllReadyH.cons rfl (fun K hK => ?_) AllReadyH.nil
            rw [if_pos (by rfl)]
            refine wp_append_own _ (.tmp 41) (.tmp 48) 27 rfl (w.heap.size + 1 + 1 + 1) 3 i0 (.int .i64 0) 1 8 Try.underlying27 Hi.out.1 Hi.out.2.1 Hi.out.2.2.1 Hi.out.2.2.2 rfl (by decide) (.slice a1 k c1) k (((rl.take k).map fun c => pickF c 4294967296).map (Value.int .i64)) (by rfl) (World.ownsRow.drew (World.ownsRow.alloc Hown.out _)) _ 1 1 [.int .i64 (pickF q 4294967296)] (by rfl) rfl (cell_one_new _ _ _) ?_ ?_ ?_ ?_ ?_
            · intro u hu; simp at hu; subst hu; rfl
            · unfold maxLen; omega
            · omega
            · have := hsz; simp; omega
            intro v' w1 hown' hgrow _
            have R1 : OwnInts w1 (w.heap.size + 1 + 1 + 1) v' ((rl.take (k + 1)).map fun c => pickF c 4294967296) := by show w1.ownsRow _ _ _ _ _ _; rw [hlk1.out, Htk.out, List.map_append]; exact hown'
            have R2 : PS w w1 ex (.slice (some ⟨b, off, none⟩) rl.length cap) pr en (.bool mk) (.int .i64 (pickF ty 128)) (.int .i64 (pickF nu 65536)) (.int .i64 (pickF ti 4294967296)) (.int .i64 (pickF so 4294967296)) (.slice a1 k c1) (.bool ex) (.int .i64 0) (.string ⟨#[]⟩) (.string (cutF py 500)) (.int .i64 (pickF pa 256)) := (HPS.out.below (((Below.refl _ _).alloc (Nat.succ_le_of_lt hsz) _).drew)).below ((Below.refl _ _).grown hgrow (by have := hsz; simp; omega) (fun g hg => (World.ownsRow.lt Hown.out g hg).1))
            have R3 : w1.cell? ⟨b, off + k, none⟩ = some (.int .i64 q) := (R2.bel.cell (p := ⟨b, off + k, none⟩) hb).trans Hcell.out
            obtain ⟨a', c', hv'⟩ := R1.shape
            rw [hlk1.out] at hv'
            subst hv'
            refine hK.out _ _ ⟨R2.q6, R3⟩ (fun hHeld => ?_)
            clear hK K hown' hgrow
            try simp only [Act.put]
            try simp only [List.setIfInBounds_toArray]
            try simp only [List.set_cons_succ]
            try simp only [List.set_cons_zero]
            refine wpAnyH_take (i := 10) (v := ?v1003) rfl (by kernel_rfl) (by kernel_rfl) (by kernel_rfl) (fun _ _ _ h => h) (Or.inl ⟨by rfl, ?y1003⟩) hHeld ?r1003
            case y1003 => ((intro W hSw; go_simp) <;> with_reducible rfl)
            try simp only [Act.put]
            try simp only [List.setIfInBounds_toArray]
            try simp only [List.set_cons_succ]
            try simp only [List.set_cons_zero]
            refine wpAnyH_ready (rs := [11]) (by kernel_rfl) (by simp) ?_
            refine AllReadyH.cons rfl (fun K hK => ?_) AllReadyH.nil
            have yy := R2.y5
            have ff := R2.fy
            go_simp
            refine hK.out _ _ ⟨(R2.set5 _).q6, ?_⟩ (fun hHeld => ?_)
            · rw [World.cell?_setCell_other _ _ _ _ (by simp <;> omega)]; exact R3
            clear hK K
            refine wpAnyH_done (by kernel_rfl) ?_ _
            refine NoPanic.normal ?_
            exact hQ a' c' w1 ⟨R1, R2⟩
      intro a' c' w1 hR
      obtain ⟨R1, R2⟩ := hR
      have hPS := R2.set5 (.slice a' (k + 1) c')
      have hown := R1.setCell (a := ⟨w.heap.size + 1 + 1, 5, none⟩) (by simp) (.slice a' (k + 1) c')
      clear R1 R2
      go_wp2
      go_roundw
      case rel => exact ⟨k + 1, _, by omega, by omega, by go_num, hPS, hown⟩
      case measure => simp [intOf]; omega
    · have hst : Hid (OwnInts wr (w.heap.size + 1 + 1 + 1) (.slice a1 k c1) ((rl.take 15).map fun c => pickF c 4294967296)) := by
        have e : rl.take 15 = rl.take k := by
          rcases (show rl.length ≤ k ∨ k = 15 by omega) with h | h
          · rw [List.take_of_length_le h, List.take_of_length_le (by omega)]
          · rw [h]
        show OwnInts _ _ _ _
        rw [e]
        exact hown
      have hcnt : Hid (((rl.take 15).map fun c => pickF c 4294967296).length = k ∧ k ≤ 15) := by
        have h2 := hst.out.1
        obtain ⟨a2, c2, e2⟩ := hst.out.shape
        simp only [Value.slice.injEq] at e2
        exact ⟨e2.2.1.symm, hk15⟩
      have hno : (decide ((k : Int) < rl.length) && decide ((k : Int) < 15)) = false := by
        rw [Bool.and_eq_false_iff, decide_eq_false_iff_not, decide_eq_false_iff_not]; omega
      obtain ⟨bel, siz, q1, q6, q7, q9, r0, r1, r2, r3, r4, r5, r6, r7, r8, r9, r10, y0, y1, y2, y3, y4, y5, y6, y7, y8, y9, y10, fr, fy⟩ := hPS
      clear hown Hc Hrl hq1 hq6
      have hpick := Pk.picks ty nu ti so pa
      have hin : Hid (allIn ((rl.take 15).map fun c => pickF c 4294967296) 4294967295 = true) := picks_in _
      have hpyl := cutF_size py 500
      have hcase : ((k : Int) < rl.length ∧ ¬ (k : Int) < 15) ∨ ¬ (k : Int) < rl.length := by omega
      cases ex
      · rcases hcase with ⟨hk1, hk2⟩ | hk1
        all_goals
          go_wp2
          obtain ⟨f1, f2⟩ := told_fin1 (v := .slice a1 k c1) bel hst.out
          refine bodyPost_ret (v := .agg #[.bool mk, .int .i64 (pickF ty 128), .int .i64 (pickF nu 65536), .int .i64 (pickF ti 4294967296), .int .i64 (pickF so 4294967296), .slice a1 k c1, .bool false, .int .i64 0, .string ⟨#[]⟩, .string (cutF py 500), .int .i64 (pickF pa 256)]) (by simp [results, Try.results16, go_sem, r0, r1, r2, r3, r4, r5, r6, r7, r8, r9, r10]) rfl ⟨f1, ?_⟩
          refine ⟨⟨mk, false, pickF ty 128, pickF nu 65536, pickF ti 4294967296, pickF so 4294967296, 0, pickF pa 256, (rl.take 15).map fun c => pickF c 4294967296, ⟨#[]⟩, cutF py 500⟩, _, rfl, ?_⟩
          obtain ⟨g1, g2⟩ := right_ok false _ _ _ _ 0 _ _ ⟨#[]⟩ _ hpick.1 hpick.2.1 hpick.2.2.1 hpick.2.2.2.1 (by rw [hcnt.out.1]; exact hcnt.out.2) hin.out rfl hpick.2.2.2.2 (Nat.zero_le _) hpyl
          exact ⟨g1, g2, f2.mono (by omega)⟩
      · have hel := cutF_size en 500
        rcases hcase with ⟨hk1, hk2⟩ | hk1
        all_goals
          go_wp2_with fail
          refine (cut_any _ 500 _ hen (by omega)).mono ?_
          rintro e w1 ⟨rfl, rfl⟩
          generalize cutF en 500 = e5 at *
          go_wp2_with fail
          refine (pick_any _ _ _ hpr.1 hpr.2 (by omega) (by omega)).mono ?_
          rintro e w1 ⟨rfl, rfl⟩
          go_wp2
          obtain ⟨f1, f2⟩ := told_fin1 (v := .slice a1 k c1) ((bel.setCell (p := ⟨w.heap.size + 1 + 1, 7, none⟩) (by simp <;> omega) _).setCell (p := ⟨w.heap.size + 1 + 1, 8, none⟩) (by simp <;> omega) _) ((hst.out.setCell (a := ⟨w.heap.size + 1 + 1, 7, none⟩) (by simp) _).setCell (a := ⟨w.heap.size + 1 + 1, 8, none⟩) (by simp) _)
          have hes : (e5.extract 0 (e5.size / 4 * 4)).size = e5.size / 4 * 4 := by rw [ByteArray.size_extract]; omega
          have hxo : extOk true (pickF pr 65536) (e5.extract 0 (e5.size / 4 * 4)) = true := by
            have c1 := pickF_lo pr 65536 (by omega)
            have c2 := pickF_hi pr 65536 (by omega)
            rw [extOk_yes, Bool.and_eq_true, decide_eq_true_eq, decide_eq_true_eq, hes]
            omega
          refine bodyPost_ret (v := .agg #[.bool mk, .int .i64 (pickF ty 128), .int .i64 (pickF nu 65536), .int .i64 (pickF ti 4294967296), .int .i64 (pickF so 4294967296), .slice a1 k c1, .bool true, .int .i64 (pickF pr 65536), .string (e5.extract 0 (e5.size / 4 * 4)), .string (cutF py 500), .int .i64 (pickF pa 256)]) (by simp [results, Try.results16, go_sem, r0, r1, r2, r3, r4, r5, r6, r7, r8, r9, r10]) rfl ⟨f1, ?_⟩
          refine ⟨⟨mk, true, pickF ty 128, pickF nu 65536, pickF ti 4294967296, pickF so 4294967296, pickF pr 65536, pickF pa 256, (rl.take 15).map fun c => pickF c 4294967296, e5.extract 0 (e5.size / 4 * 4), cutF py 500⟩, _, rfl, ?_⟩
          obtain ⟨g1, g2⟩ := right_ok true _ _ _ _ _ _ _ _ _ hpick.1 hpick.2.1 hpick.2.2.1 hpick.2.2.2.1 (by rw [hcnt.out.1]; exact hcnt.out.2) hin.out hxo hpick.2.2.2.2 (by rw [hes]; omega) hpyl
          exact ⟨g1, g2, f2.mono (by omega)⟩

end Go.Proofs.Ytdjhhnolcafkiaa
