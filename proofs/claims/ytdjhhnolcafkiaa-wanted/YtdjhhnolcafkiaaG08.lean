/- findWant, knows. -/
import Derived.Test.YtdjhhnolcafkiaaG07
import Derived.Deep.RegionHeld
import Derived.Test.YtdjhhnolcafkiaaG01
namespace Go.Proofs.Ytdjhhnolcafkiaa
open Go.RowKit
namespace Pk
def posI : Option Nat → Int
  | some i => i
  | none => -1
/-- where a want that has a source is -/
def hasPos (M : Md) (source : Int) : Option Nat := M.wns.findIdx? fun x => hasW x source
def knowsF (M : Md) (source : Int) : Bool := (sndPos M source).isSome || (hasPos M source).isSome
end Pk
open Pk

set_option maxHeartbeats 1000000 in
theorem findW1_any (wb : Nat) (x : Wn) (a : Int) (B : Nat) (W : World) {C : Nat → Prop} {base : Nat} {v : Value} (h : WnAt C W base wb v x) (hB : W.cell? ⟨B, 0, none⟩ = some (.int .i64 a)) :
    Calls Try.prog 111 #[.pointer (some ⟨wb, 0, none⟩), .pointer (some ⟨B, 0, none⟩)] W fun e w' => e = .returned (.bool (decide (x.id = a))) ∧ Below W.heap.size W w' := by
  have y3 := h.c3
  have He : Hid ((x.id == a) = decide (x.id = a)) := eq_dec _ _
  go_enter Try.func111, Try.ntmps111
  go_wp2
  refine wp_region_noPanic ?_
  refine wp_region_held_drew (S := fun W => W.cell? ⟨B, 0, none⟩ = some (.int .i64 a)) (by kernel_rfl) hB (fun hHeld => ?_)
  refine wpAnyH_take (i := 0) (v := ?vt1) rfl (by kernel_rfl) (by kernel_rfl) (by kernel_rfl) (fun _ _ _ h => h) (Or.inl ⟨by rfl, ?yt1⟩) hHeld ?rt1
  case yt1 => ((intro W hSw; have hS0 := hSw; go_simp) <;> with_reducible rfl)
  try simp only [Act.put]
  try simp only [List.getElem_toArray]
  try simp only [List.getElem_cons_succ]
  try simp only [List.getElem_cons_zero]
  try simp only [List.setIfInBounds_toArray]
  try simp only [List.set_cons_succ]
  try simp only [List.set_cons_zero]
  refine wpAnyH_take (i := 2) (v := ?vt2) rfl (by kernel_rfl) (by kernel_rfl) (by kernel_rfl) (fun _ _ _ h => h) (Or.inl ⟨by rfl, ?yt2⟩) hHeld ?rt2
  case yt2 => ((intro W hSw; have hS0 := hSw; go_simp) <;> with_reducible rfl)
  try simp only [Act.put]
  try simp only [List.getElem_toArray]
  try simp only [List.getElem_cons_succ]
  try simp only [List.getElem_cons_zero]
  try simp only [List.setIfInBounds_toArray]
  try simp only [List.set_cons_succ]
  try simp only [List.set_cons_zero]
  refine wpAnyH_ready (rs := [1]) (by kernel_rfl) (by simp) ?_
  refine AllReadyH.cons rfl (fun K hK => ?_) AllReadyH.nil
  go_simp
  refine (wantID_any wb x.id W.drew y3).mono ?_
  rintro e w1 ⟨rfl, hw1⟩
  rw [hw1]
  clear hw1
  go_wp2_with fail
  refine hK.out _ _ hB (fun hHeld => ?_)
  clear hK K
  refine wpAnyH_take (i := 3) (v := ?vt3) rfl (by kernel_rfl) (by kernel_rfl) (by kernel_rfl) (fun _ _ _ h => h) (Or.inl ⟨by rfl, ?yt3⟩) hHeld ?rt3
  case yt3 => ((intro W hSw; have hS0 := hSw; go_simp) <;> with_reducible rfl)
  try simp only [Act.put]
  try simp only [List.getElem_toArray]
  try simp only [List.getElem_cons_succ]
  try simp only [List.getElem_cons_zero]
  try simp only [List.setIfInBounds_toArray]
  try simp only [List.set_cons_succ]
  try simp only [List.set_cons_zero]
  refine wpAnyH_take (i := 4) (v := ?vt4) rfl (by kernel_rfl) (by kernel_rfl) (by kernel_rfl) (fun _ _ _ h => h) (Or.inl ⟨by rfl, ?yt4⟩) hHeld ?rt4
  case yt4 => ((intro W hSw; have hS0 := hSw; go_simp) <;> with_reducible rfl)
  try simp only [Act.put]
  try simp only [List.getElem_toArray]
  try simp only [List.getElem_cons_succ]
  try simp only [List.getElem_cons_zero]
  try simp only [List.setIfInBounds_toArray]
  try simp only [List.set_cons_succ]
  try simp only [List.set_cons_zero]
  refine wpAnyH_done (by kernel_rfl) ?_ _
  refine NoPanic.normal ?_
  go_wp2
  go_ret
  exact ⟨ret_bool He.out, (Below.refl _ _).drew⟩

set_option maxHeartbeats 1000000 in
theorem knowsW1_any (wb : Nat) (x : Wn) (a : Int) (B : Nat) (W : World) {C : Nat → Prop} {base : Nat} {v : Value} (h : WnAt C W base wb v x) (hB : W.cell? ⟨B, 0, none⟩ = some (.int .i64 a)) :
    Calls Try.prog 103 #[.pointer (some ⟨wb, 0, none⟩), .pointer (some ⟨B, 0, none⟩)] W fun e w' => e = .returned (.bool (hasW x a)) ∧ Below W.heap.size W w' := by
  have H : Hid (WnAt C W base wb v x) := h
  clear h
  have Hh : Hid (hasW x a = (decide (x.src = a) || decide (x.pl.second = a))) := rfl
  go_enter Try.func103, Try.ntmps103
  go_wp2_with fail
  refine (wantHas_any wb x.src x.pl.second a _ H.out.c0 H.out.c6).mono ?_
  rintro e w1 ⟨rfl, hw1⟩
  rw [hw1, ← Hh.out]
  clear hw1
  go_wp2
  go_ret
  exact ⟨rfl, Below.refl _ _⟩

set_option maxRecDepth 20000 in
set_option maxHeartbeats 2000000 in
theorem indexfindW_any (ρ : Nat → Nat) (mb B : Nat) (M : Md) (sv wv : Value) (SB WB : List (Nat × Value)) (a : Int) (w : World) (h : MdAt w ρ mb M sv wv SB WB) (hB : w.cell? ⟨B, 0, none⟩ = some (.int .i64 a)) (h8 : M.wns.length ≤ 8) :
    Calls Try.prog 110 #[wv, .func (.func 111) #[] #[.pointer (some ⟨B, 0, none⟩)]] w fun e w' => e = .returned (.int .i64 (posI (wntPos M a))) ∧ Below w.heap.size w w' := by
  obtain ⟨ao, cap, rfl⟩ := rowA_shape h.wr
  have H : Hid (MdAt w ρ mb M sv (.slice ao WB.length cap) SB WB) := h
  have HB : Hid (w.cell? ⟨B, 0, none⟩ = some (.int .i64 a)) := hB
  have hw8 : WB.length ≤ 8 := by have := h.wl; omega
  clear h hB
  go_enter Try.func110, Try.ntmps110
  go_wp2
  go_loopw [8] (fun s8 wr => ∃ k : Nat, k ≤ WB.length ∧ s8 = .int .i64 k ∧ (∀ m (hm : m < M.wns.length), m < k → decide ((M.wns[m]).id = a) = false) ∧ Below w.heap.size w wr) (fun s8 _ => WB.length - (intOf s8).toNat)
  case atStart => exact ⟨0, Nat.zero_le _, rfl, fun m _ hm => by omega, Below.refl _ _⟩
  case round =>
    obtain ⟨k, hk, rfl, hno, hbel⟩ := hrel
    have Hno : Hid (∀ m (hm : m < M.wns.length), m < k → decide ((M.wns[m]).id = a) = false) := hno
    have Hbel : Hid (Below w.heap.size w wr) := hbel
    clear hno hbel
    by_cases hlt : k < WB.length
    · have hlt' : (k : Int) < WB.length := by omega
      have HW := H.out.below Hbel.out
      obtain ⟨g, rfl⟩ := rowA_some HW.wr (by omega)
      have hks : k < M.wns.length := by rw [← H.out.wl]; exact hlt
      have hp : WB[k]? = some WB[k] := List.getElem?_eq_getElem hlt
      have hs : M.wns[k]? = some M.wns[k] := List.getElem?_eq_getElem hks
      have d0 : wr.cell? ⟨g, k, none⟩ = some (ptr (WB[k]).1) := by
        have h := HW.wr.cellAt k (by omega)
        rw [h, List.getElem?_map, hp]
        rfl
      obtain ⟨hWn, _, _⟩ := HW.wa k _ _ hp hs
      have hcB : wr.cell? ⟨B, 0, none⟩ = some (.int .i64 a) := (Hbel.out.cell (p := ⟨B, 0, none⟩) (lt_of_cell HB.out)).trans HB.out
      obtain ⟨p, hpe⟩ : ∃ p, WB[k] = p := ⟨_, rfl⟩
      obtain ⟨x, hxe⟩ : ∃ x, M.wns[k] = x := ⟨_, rfl⟩
      have Hxe : Hid (M.wns[k] = x) := hxe
      rw [hpe] at d0 hWn
      rw [hxe] at hWn
      unfold ptr at d0
      have HWn : Hid (WnAt (fun b => ρ b = 4) wr (p.1 + 1) p.1 p.2 x) := hWn
      clear hpe hxe hp hs hWn HW
      go_wp2_with fail
      refine (findW1_any p.1 x a B _ HWn.out hcB).mono ?_
      rintro e w1 ⟨rfl, hb1⟩
      have Hb1 : Hid (Below w.heap.size w w1) := Hbel.out.trans (hb1.mono Hbel.out.size)
      clear hb1 d0 hcB
      cases he : decide ((x).id = a) with
      | true =>
        have Hi : Hid (wntPos M a = some k) := idx_some hks Hno.out (by rw [Hxe.out]; exact he)
        clear he
        go_wp2
        go_ret
        exact ⟨by rw [Hi.out]; rfl, Hb1.out⟩
      | false =>
        have He : Hid (decide ((x).id = a) = false) := he
        clear he
        go_wp2
        go_roundw
        case rel => exact ⟨k + 1, by omega, by go_num, fun m hm hmk => by
          rcases Nat.lt_or_ge m k with h | h
          · exact Hno.out m hm h
          · obtain rfl : m = k := by omega
            rw [Hxe.out]; exact He.out, Hb1.out⟩
        case measure => simp [intOf]; omega
    · have hlt' : ¬ (k : Int) < WB.length := by omega
      have Hi : Hid (wntPos M a = none) := idx_none (k := k) (by rw [← H.out.wl]; omega) Hno.out
      go_wp2
      go_ret
      exact ⟨by rw [Hi.out]; rfl, Hbel.out⟩

set_option maxRecDepth 20000 in
set_option maxHeartbeats 2000000 in
theorem indexknowsW_any (ρ : Nat → Nat) (mb B : Nat) (M : Md) (sv wv : Value) (SB WB : List (Nat × Value)) (a : Int) (w : World) (h : MdAt w ρ mb M sv wv SB WB) (hB : w.cell? ⟨B, 0, none⟩ = some (.int .i64 a)) (h8 : M.wns.length ≤ 8) :
    Calls Try.prog 110 #[wv, .func (.func 103) #[] #[.pointer (some ⟨B, 0, none⟩)]] w fun e w' => e = .returned (.int .i64 (posI (hasPos M a))) ∧ Below w.heap.size w w' := by
  obtain ⟨ao, cap, rfl⟩ := rowA_shape h.wr
  have H : Hid (MdAt w ρ mb M sv (.slice ao WB.length cap) SB WB) := h
  have HB : Hid (w.cell? ⟨B, 0, none⟩ = some (.int .i64 a)) := hB
  have hw8 : WB.length ≤ 8 := by have := h.wl; omega
  clear h hB
  go_enter Try.func110, Try.ntmps110
  go_wp2
  go_loopw [8] (fun s8 wr => ∃ k : Nat, k ≤ WB.length ∧ s8 = .int .i64 k ∧ (∀ m (hm : m < M.wns.length), m < k → hasW (M.wns[m]) a = false) ∧ Below w.heap.size w wr) (fun s8 _ => WB.length - (intOf s8).toNat)
  case atStart => exact ⟨0, Nat.zero_le _, rfl, fun m _ hm => by omega, Below.refl _ _⟩
  case round =>
    obtain ⟨k, hk, rfl, hno, hbel⟩ := hrel
    have Hno : Hid (∀ m (hm : m < M.wns.length), m < k → hasW (M.wns[m]) a = false) := hno
    have Hbel : Hid (Below w.heap.size w wr) := hbel
    clear hno hbel
    by_cases hlt : k < WB.length
    · have hlt' : (k : Int) < WB.length := by omega
      have HW := H.out.below Hbel.out
      obtain ⟨g, rfl⟩ := rowA_some HW.wr (by omega)
      have hks : k < M.wns.length := by rw [← H.out.wl]; exact hlt
      have hp : WB[k]? = some WB[k] := List.getElem?_eq_getElem hlt
      have hs : M.wns[k]? = some M.wns[k] := List.getElem?_eq_getElem hks
      have d0 : wr.cell? ⟨g, k, none⟩ = some (ptr (WB[k]).1) := by
        have h := HW.wr.cellAt k (by omega)
        rw [h, List.getElem?_map, hp]
        rfl
      obtain ⟨hWn, _, _⟩ := HW.wa k _ _ hp hs
      have hcB : wr.cell? ⟨B, 0, none⟩ = some (.int .i64 a) := (Hbel.out.cell (p := ⟨B, 0, none⟩) (lt_of_cell HB.out)).trans HB.out
      obtain ⟨p, hpe⟩ : ∃ p, WB[k] = p := ⟨_, rfl⟩
      obtain ⟨x, hxe⟩ : ∃ x, M.wns[k] = x := ⟨_, rfl⟩
      have Hxe : Hid (M.wns[k] = x) := hxe
      rw [hpe] at d0 hWn
      rw [hxe] at hWn
      unfold ptr at d0
      have HWn : Hid (WnAt (fun b => ρ b = 4) wr (p.1 + 1) p.1 p.2 x) := hWn
      clear hpe hxe hp hs hWn HW
      go_wp2_with fail
      refine (knowsW1_any p.1 x a B _ HWn.out hcB).mono ?_
      rintro e w1 ⟨rfl, hb1⟩
      have Hb1 : Hid (Below w.heap.size w w1) := Hbel.out.trans (hb1.mono Hbel.out.size)
      clear hb1 d0 hcB
      cases he : hasW (x) a with
      | true =>
        have Hi : Hid (hasPos M a = some k) := idx_some hks Hno.out (by rw [Hxe.out]; exact he)
        clear he
        go_wp2
        go_ret
        exact ⟨by rw [Hi.out]; rfl, Hb1.out⟩
      | false =>
        have He : Hid (hasW (x) a = false) := he
        clear he
        go_wp2
        go_roundw
        case rel => exact ⟨k + 1, by omega, by go_num, fun m hm hmk => by
          rcases Nat.lt_or_ge m k with h | h
          · exact Hno.out m hm h
          · obtain rfl : m = k := by omega
            rw [Hxe.out]; exact He.out, Hb1.out⟩
        case measure => simp [intOf]; omega
    · have hlt' : ¬ (k : Int) < WB.length := by omega
      have Hi : Hid (hasPos M a = none) := idx_none (k := k) (by rw [← H.out.wl]; omega) Hno.out
      go_wp2
      go_ret
      exact ⟨by rw [Hi.out]; rfl, Hbel.out⟩


set_option maxRecDepth 20000 in
set_option maxHeartbeats 1000000 in
theorem findWant_any (ρ : Nat → Nat) (mb : Nat) (M : Md) (sv wv : Value) (SB WB : List (Nat × Value)) (id : Int) (w : World) (h : MdAt w ρ mb M sv wv SB WB) (h8 : M.wns.length ≤ 8) :
    Calls Try.prog 95 #[.pointer (some ⟨mb, 0, none⟩), .int .i64 id] w fun e w' => e = .returned (.int .i64 (posI (wntPos M id))) ∧ Below w.heap.size w w' := by
  obtain ⟨ao, cap, rfl⟩ := rowA_shape h.wr
  have H : Hid (MdAt w ρ mb M sv (.slice ao WB.length cap) SB WB) := h
  have y19 : w.cell? ⟨mb, 19, none⟩ = some (.slice ao WB.length cap) := h.k 19 _ rfl
  have hlt := h.lt
  have hne : mb ≠ w.heap.size := by omega
  clear h
  go_enter Try.func95, Try.ntmps95
  go_wp2_with fail
  refine (indexfindW_any ρ mb w.heap.size M sv _ SB WB id _ (H.out.below ((Below.refl _ _).alloc (Nat.le_refl _) _)) (cell_new _ _ _ 0) h8).mono ?_
  rintro e w1 ⟨rfl, hb1⟩
  have Hb1 : Hid (Below w.heap.size w w1) := ((Below.refl _ _).alloc (Nat.le_refl _) _).trans (hb1.mono (by simp))
  clear hb1
  generalize hr : posI (wntPos M id) = r at *
  have Hr : Hid (posI (wntPos M id) = r) := hr
  clear hr
  go_wp2
  go_ret
  rw [Hr.out]
  exact ⟨rfl, Hb1.out⟩

set_option maxRecDepth 20000 in
set_option maxHeartbeats 1000000 in
theorem containsW_any (ρ : Nat → Nat) (mb B : Nat) (M : Md) (sv wv : Value) (SB WB : List (Nat × Value)) (a : Int) (w : World) (h : MdAt w ρ mb M sv wv SB WB) (hB : w.cell? ⟨B, 0, none⟩ = some (.int .i64 a)) (h8 : M.wns.length ≤ 8) :
    Calls Try.prog 102 #[wv, .func (.func 103) #[] #[.pointer (some ⟨B, 0, none⟩)]] w fun e w' => e = .returned (.bool (hasPos M a).isSome) ∧ Below w.heap.size w w' := by
  have H : Hid (MdAt w ρ mb M sv wv SB WB) := h
  have HB : Hid (w.cell? ⟨B, 0, none⟩ = some (.int .i64 a)) := hB
  obtain ⟨ao, cap, rfl⟩ := rowA_shape h.wr
  clear h hB
  have Hr : Hid (decide (0 ≤ posI (hasPos M a)) = (hasPos M a).isSome) := by
    show _ = _
    cases hasPos M a with
    | none => rfl
    | some i => simp [posI]
  go_enter Try.func102, Try.ntmps102
  go_wp2_with fail
  refine (indexknowsW_any ρ mb B M sv _ SB WB a _ H.out HB.out h8).mono ?_
  rintro e w1 ⟨rfl, hb1⟩
  have Hb1 : Hid (Below w.heap.size w w1) := hb1
  clear hb1
  generalize posI (hasPos M a) = r at *
  go_wp2
  go_ret
  exact ⟨ret_bool Hr.out, Hb1.out⟩

set_option maxRecDepth 20000 in
set_option maxHeartbeats 1000000 in
theorem knows_any (ρ : Nat → Nat) (mb : Nat) (M : Md) (sv wv : Value) (SB WB : List (Nat × Value)) (source : Int) (w : World) (h : MdAt w ρ mb M sv wv SB WB) (h8 : M.wns.length ≤ 8) :
    Calls Try.prog 85 #[.pointer (some ⟨mb, 0, none⟩), .int .i64 source] w fun e w' => e = .returned (.bool (knowsF M source)) ∧ Below w.heap.size w w' := by
  obtain ⟨ao, cap, rfl⟩ := rowA_shape h.wr
  have H : Hid (MdAt w ρ mb M sv (.slice ao WB.length cap) SB WB) := h
  have y19 : w.cell? ⟨mb, 19, none⟩ = some (.slice ao WB.length cap) := h.k 19 _ rfl
  have hlt := h.lt
  have hne : mb ≠ w.heap.size := by omega
  have HA : Hid (∀ o, MdAt (w.alloc o) ρ mb M sv (.slice ao WB.length cap) SB WB) := fun o => h.below ((Below.refl _ _).alloc (Nat.le_refl _) _)
  clear h
  go_enter Try.func85, Try.ntmps85
  go_wp2_with fail
  refine (sender_any ρ mb M sv _ SB WB source _ (HA.out _)).mono ?_
  rintro e w1 ⟨hw1, ⟨hn, rfl⟩ | ⟨i, p, s, hi, h1, h2, h3, rfl⟩⟩
  · have Hk : Hid (knowsF M source = (hasPos M source).isSome) := by show _ = _; unfold knowsF; rw [hn]; rfl
    rw [hw1]
    clear hn hw1
    go_wp2_with fail
    refine (containsW_any ρ mb w.heap.size M sv _ SB WB source _ (HA.out _) (cell_new _ _ _ 0) h8).mono ?_
    rintro e w2 ⟨rfl, hb2⟩
    have Hb2 : Hid (Below w.heap.size w w2) := ((Below.refl _ _).alloc (Nat.le_refl _) _).trans (hb2.mono (by simp))
    rw [← Hk.out]
    clear hb2
    generalize hr : knowsF M source = r at *
    have Hr : Hid (knowsF M source = r) := hr
    clear hr
    go_wp2
    go_ret
    rw [Hr.out]
    exact ⟨rfl, Hb2.out⟩
  · have Hk : Hid (true = knowsF M source) := by show _ = _; unfold knowsF; rw [hi]; rfl
    rw [hw1]
    unfold ptr
    clear hi h1 h2 h3 hw1
    go_wp2
    go_ret
    exact ⟨ret_bool Hk.out, (Below.refl _ _).alloc (Nat.le_refl _) _⟩

end Go.Proofs.Ytdjhhnolcafkiaa

/- New, orNone, made, NewSender, NewWant, configFits, wantFits. -/
namespace Go.Proofs.Ytdjhhnolcafkiaa
open Go.RowKit
namespace Pk
def cfgOk (c : Cfg) : Bool := decide ((1 ≤ c.ring ∧ c.ring ≤ 64) ∧ (1 ≤ c.window ∧ c.window ≤ 200) ∧ (0 ≤ c.delay ∧ c.delay ≤ 1000000) ∧ (0 ≤ c.rate ∧ c.rate ≤ 100000) ∧ (0 ≤ c.burst ∧ c.burst ≤ 1000000) ∧ (1 ≤ c.retry ∧ c.retry ≤ 1000000) ∧ (0 ≤ c.tries ∧ c.tries ≤ 10))
def plOk (p : Plan) : Bool := decide ((0 ≤ p.source ∧ p.source ≤ 4294967295) ∧ (0 ≤ p.second ∧ p.second ≤ 4294967295) ∧ (0 ≤ p.ty ∧ p.ty ≤ 127) ∧ (0 ≤ p.secondTy ∧ p.secondTy ≤ 127) ∧ (0 ≤ p.first ∧ p.first ≤ 65535) ∧ (0 ≤ p.secondFirst ∧ p.secondFirst ≤ 65535) ∧ p.source ≠ p.second)
def plV (p : Plan) : List Value := [.int .i64 p.source, .int .i64 p.second, .int .i64 p.ty, .int .i64 p.secondTy, .int .i64 p.first, .int .i64 p.secondFirst]
/-- a new mender -/
def newM (c : Cfg) : Md := ⟨c, ⟨0, c.burst, 0, 0, 0, 0, 0, 0, 0, 0, 0⟩, [], [], 0⟩
theorem ret_b {a b : Bool} (h : a = b) : Ending.returned (.bool a) = .returned (.bool b) := by rw [h]
end Pk
open Pk

set_option maxRecDepth 20000 in
set_option maxHeartbeats 2000000 in
theorem configFits_any (c : Cfg) (w : World) :
    Calls Try.prog 83 #[.agg #[.int .i64 c.ring, .int .i64 c.window, .int .i64 c.delay, .int .i64 c.rate, .int .i64 c.burst, .int .i64 c.retry, .int .i64 c.tries]] w fun e w' => e = .returned (.bool (cfgOk c)) ∧ Below w.heap.size w w' := by
  obtain ⟨r, hr⟩ : ∃ r, cfgOk c = r := ⟨_, rfl⟩
  have Hr : Hid (cfgOk c = r) := hr
  rw [hr]
  clear hr
  go_enter Try.func83, Try.ntmps83
  go_wp2_with (first | (go_at_call 84; refine (between_any _ _ _ _).mono ?_; rintro e w' ⟨rfl, rfl⟩))
  all_goals go_ret
  all_goals refine ⟨Pk.ret_b ?_, (Below.refl _ _).alloc (Nat.le_refl _) _⟩
  all_goals rw [← Hr.out]
  all_goals unfold cfgOk
  all_goals first
    | exact (decide_eq_true (by omega)).symm
    | exact (decide_eq_false (by omega)).symm
    | (symm; rw [Bool.eq_iff_iff]; simp only [decide_eq_true_eq, Bool.and_eq_true]; omega)

set_option maxRecDepth 20000 in
set_option maxHeartbeats 2000000 in
theorem wantFits_any (p : Plan) (w : World) :
    Calls Try.prog 88 #[.agg #[.int .i64 p.source, .int .i64 p.second, .int .i64 p.ty, .int .i64 p.secondTy, .int .i64 p.first, .int .i64 p.secondFirst]] w fun e w' => e = .returned (.bool (plOk p)) ∧ Below w.heap.size w w' := by
  obtain ⟨r, hr⟩ : ∃ r, plOk p = r := ⟨_, rfl⟩
  have Hr : Hid (plOk p = r) := hr
  rw [hr]
  clear hr
  go_enter Try.func88, Try.ntmps88
  go_wp2_with (first | (go_at_call 84; refine (between_any _ _ _ _).mono ?_; rintro e w' ⟨rfl, rfl⟩))
  all_goals go_ret
  all_goals refine ⟨Pk.ret_b ?_, (Below.refl _ _).alloc (Nat.le_refl _) _⟩
  all_goals rw [← Hr.out]
  all_goals unfold plOk
  all_goals first
    | exact (decide_eq_true (by omega)).symm
    | exact (decide_eq_false (by omega)).symm
    | (symm; rw [Bool.eq_iff_iff]; simp only [decide_eq_true_eq, bne_iff_ne, ne_eq]; omega)

set_option maxHeartbeats 1000000 in
theorem newSender_any (source : Int) (w : World) :
    Calls Try.prog 87 #[.int .i64 source] w fun e w' => e = .returned (ptr w.heap.size) ∧ w' = w.alloc (.cells #[.int .i64 source, .bool false, .slice none 0 0, .int .u16 0] 147) := by
  go_enter Try.func87, Try.ntmps87
  go_wp2
  go_ret
  exact ⟨rfl, rfl⟩

set_option maxHeartbeats 1000000 in
theorem newWant_any (id of_ : Int) (p : Plan) (n : Nat) (w : World) (h : p.secondFirst = n) (hn : n < 65536) :
    Calls Try.prog 89 #[.int .i64 id, .int .i64 of_, .agg #[.int .i64 p.source, .int .i64 p.second, .int .i64 p.ty, .int .i64 p.secondTy, .int .i64 p.first, .int .i64 p.secondFirst]] w fun e w' => e = .returned (ptr (w.heap.size + 1)) ∧
      w' = (w.alloc (.cells #[.int .i64 p.source, .int .i64 p.second, .int .i64 p.ty, .int .i64 p.secondTy, .int .i64 p.first, .int .i64 p.secondFirst] 102)).alloc (.cells #[.int .i64 p.source, .bool false, .slice none 0 0, .int .i64 id, .int .i64 of_, .int .i64 p.source, .int .i64 p.second, .int .i64 p.ty, .int .i64 p.secondTy, .int .i64 p.first, .int .i64 p.secondFirst, .int .u16 0, .int .u16 n] 165) := by
  have e1 := u16_id n hn
  rw [h]
  go_enter Try.func89, Try.ntmps89
  go_wp2
  go_ret
  exact ⟨rfl, rfl⟩

set_option maxHeartbeats 1000000 in
theorem orNone_any (mb : Nat) (w : World) :
    Calls Try.prog 53 #[.pointer (some ⟨mb, 0, none⟩)] w fun e w' => e = .returned (.pointer (some ⟨mb, 0, none⟩)) ∧ w' = w := by
  go_enter Try.func53, Try.ntmps53
  go_wp2
  go_ret
  exact ⟨rfl, rfl⟩

set_option maxHeartbeats 1000000 in
theorem made_any (mb : Nat) (ring : Int) (w : World) (h : w.cell? ⟨mb, 0, none⟩ = some (.int .i64 ring)) (hr : 1 ≤ ring) :
    Calls Try.prog 86 #[.pointer (some ⟨mb, 0, none⟩)] w fun e w' => e = .returned (.bool true) ∧ w' = w := by
  have h0 : (0 : Int) < ring := by omega
  go_enter Try.func86, Try.ntmps86
  go_wp2
  go_ret
  exact ⟨ret_bool (by first | (simp; done) | (simp; omega)), rfl⟩

/-- the roles of a new mender -/
def newRoleM (mb b : Nat) : Nat := if b = mb then 1 else 0

theorem newM_at (w : World) (c : Cfg) : MdAt (w.alloc (.cells #[.int .i64 c.ring, .int .i64 c.window, .int .i64 c.delay, .int .i64 c.rate, .int .i64 c.burst, .int .i64 c.retry, .int .i64 c.tries, .int .i64 0, .int .i64 c.burst, .int .i64 0, .int .i64 0, .int .i64 0, .int .i64 0, .int .i64 0, .int .i64 0, .int .i64 0, .int .i64 0, .int .i64 0, .slice none 0 0, .slice none 0 0, .int .i64 0] 107)) (newRoleM w.heap.size) w.heap.size (newM c) (.slice none 0 0) (.slice none 0 0) [] [] := by
  refine ⟨fun i u hu => ?_, fun o => frozen_new _ _ _ o, World.ownsRow_nil _ _ _ _, World.ownsRow_nil _ _ _ _, rfl, rfl, by simp [newM], fun i p s h => (by simp at h), fun i p x h => (by simp at h), fun i j x y _ h => (by simp [newM] at h), by simp [newRoleM], fun b hb => (by cases hb), fun b hb => (by cases hb), fun b hb => ?_⟩
  · rw [cell_new, ← hu, List.getElem?_toArray]
    rfl
  · unfold newRoleM
    rw [if_neg (by simp at hb; omega)]

set_option maxRecDepth 20000 in
set_option maxHeartbeats 2000000 in
theorem new_any (c : Cfg) (w : World) :
    Calls Try.prog 50 #[.agg #[.int .i64 c.ring, .int .i64 c.window, .int .i64 c.delay, .int .i64 c.rate, .int .i64 c.burst, .int .i64 c.retry, .int .i64 c.tries]] w fun e w' => Below w.heap.size w w' ∧
      ((cfgOk c = false ∧ e = .returned (.tuple #[.pointer none, .int .i64 2])) ∨ (cfgOk c = true ∧ ∃ mb ρ, w.heap.size ≤ mb ∧ e = .returned (.tuple #[.pointer (some ⟨mb, 0, none⟩), .int .i64 0]) ∧ MdAt w' ρ mb (newM c) (.slice none 0 0) (.slice none 0 0) [] [] ∧ ∀ b, ρ b ≠ 0 → w.heap.size ≤ b)) := by
  go_enter Try.func50, Try.ntmps50
  go_wp2_with fail
  refine (configFits_any c _).mono ?_
  rintro e w1 ⟨rfl, hb1⟩
  have hc1 := box_below hb1 w.heap.size (by simp)
  have Hb1 : Hid (Below w.heap.size w w1) := ((Below.refl _ _).alloc (Nat.le_refl _) _).trans (hb1.mono (by simp))
  have hs1 := Hb1.out.size
  clear hb1
  cases hr : cfgOk c with
  | false =>
    have Hr : Hid (cfgOk c = false) := hr
    clear hr
    go_wp2
    go_ret2
    exact ⟨Hb1.out, .inl ⟨Hr.out, rfl⟩⟩
  | true =>
    have Hr : Hid (cfgOk c = true) := hr
    clear hr
    have q0 : w1.cell? ⟨w.heap.size, 0, none⟩ = some (.int .i64 c.ring) := (hc1 0).trans (cell_new _ _ _ 0)
    have q1 : w1.cell? ⟨w.heap.size, 1, none⟩ = some (.int .i64 c.window) := (hc1 1).trans (cell_new _ _ _ 1)
    have q2 : w1.cell? ⟨w.heap.size, 2, none⟩ = some (.int .i64 c.delay) := (hc1 2).trans (cell_new _ _ _ 2)
    have q3 : w1.cell? ⟨w.heap.size, 3, none⟩ = some (.int .i64 c.rate) := (hc1 3).trans (cell_new _ _ _ 3)
    have q4 : w1.cell? ⟨w.heap.size, 4, none⟩ = some (.int .i64 c.burst) := (hc1 4).trans (cell_new _ _ _ 4)
    have q5 : w1.cell? ⟨w.heap.size, 5, none⟩ = some (.int .i64 c.retry) := (hc1 5).trans (cell_new _ _ _ 5)
    have q6 : w1.cell? ⟨w.heap.size, 6, none⟩ = some (.int .i64 c.tries) := (hc1 6).trans (cell_new _ _ _ 6)
    clear hc1
    go_wp2
    go_ret2
    refine ⟨Hb1.out.alloc hs1 _, .inr ⟨Hr.out, w1.heap.size, newRoleM w1.heap.size, hs1, rfl, newM_at w1 c, fun b hb => ?_⟩⟩
    unfold newRoleM at hb
    split at hb
    · omega
    · exact absurd rfl hb

end Go.Proofs.Ytdjhhnolcafkiaa

/- A sender more, a want more: plain facts. -/
namespace Go.Proofs.Ytdjhhnolcafkiaa
open Go.RowKit
namespace Pk
section
variable {W W' : World} {ρ : Nat → Nat} {mb : Nat} {M : Md} {sv wv : Value} {SB WB : List (Nat × Value)}

theorem snoc_at {α : Type} {l : List α} {a : α} {i : Nat} {x : α} (h : (l ++ [a])[i]? = some x) : (i < l.length ∧ l[i]? = some x) ∨ (i = l.length ∧ x = a) := by
  rcases Nat.lt_or_ge i l.length with hi | hi
  · rw [List.getElem?_append_left hi] at h
    exact .inl ⟨hi, h⟩
  · rw [List.getElem?_append_right hi] at h
    have hlt := (List.getElem?_eq_some_iff.1 h).1
    simp at hlt
    have e : i - l.length = 0 := by omega
    rw [e] at h
    simp at h
    exact .inr ⟨by omega, h.symm⟩

theorem MdAt.addS {sb : Nat} {sv' : Value} {s : Sd} (h : MdAt W ρ mb M sv wv SB WB) (hl : SB.length < 4) (hc : Chg (fun b => b = mb ∨ sv.ownBlock = some b) W W') (hk : ∀ i u, (mdV M sv' wv)[i]? = some u → W'.cell? ⟨mb, i, none⟩ = some u) (hf : ∀ o, W'.frozen? ⟨mb, o, none⟩ = false)
    (hr : W'.ownsRow (mb + 1) 108 1 sv' (SB.length + 1) (SB.map (fun p => ptr p.1) ++ [ptr sb])) (hS : SdAt W' (sb + 1) sb (.slice none 0 0) s) (hsb : W.heap.size ≤ sb) (hv : ∀ b, sv'.ownBlock = some b → (sv.ownBlock = some b ∨ W.heap.size ≤ b) ∧ b ≠ sb) :
    MdAt W' (fun b => if b = sb then 10 + 2 * SB.length else if sv'.ownBlock = some b then 2 else ρ b) mb { M with sds := M.sds ++ [s] } sv' wv (SB ++ [(sb, .slice none 0 0)]) WB ∧ (∀ b, b < W.heap.size → ρ b = 0 → (if b = sb then 10 + 2 * SB.length else if sv'.ownBlock = some b then 2 else ρ b) = 0) ∧ Chg (fun b => ρ b ≠ 0) W W' := by
  have tr : ∀ y, (y = mb ∨ sv.ownBlock = some y) → ρ y = 1 ∨ ρ y = 2 := fun y hy => by
    rcases hy with e | e
    · exact .inl (by rw [e]; exact h.rm)
    · exact .inr (h.rs y e)
  have k2 : ∀ y r, ρ y = r → r ≠ 0 → r ≠ 2 → (if y = sb then 10 + 2 * SB.length else if sv'.ownBlock = some y then 2 else ρ y) = r := fun y r e1 e2 e3 => by
    have hne : y ≠ sb := fun e => by rw [e, h.hi sb hsb] at e1; omega
    rw [if_neg hne, if_neg (fun e => by
      rcases (hv y e).1 with e' | e'
      · rw [h.rs y e'] at e1; omega
      · rw [h.hi y e'] at e1; omega), e1]
  have kC : ∀ y, y < W'.heap.size → (ρ y = 4 ↔ (if y = sb then 10 + 2 * SB.length else if sv'.ownBlock = some y then 2 else ρ y) = 4) := fun y _ => by
    constructor
    · intro e; rw [k2 y 4 e (by omega) (by omega)]
    · intro e
      split at e
      · omega
      · split at e
        · omega
        · exact e
  refine ⟨⟨?_, hf, ?_, rowA_chg hc h.wr (fun y hy e => by have := h.rw y hy; rcases tr y e with e' | e' <;> omega), by simp [h.sl], h.wl, by simp [← h.sl]; omega, ?_, ?_, h.ids, k2 mb 1 h.rm (by omega) (by omega), ?_, fun y hy => k2 y 3 (h.rw y hy) (by omega) (by omega), ?_⟩, ?_, ?_⟩
  · exact hk
  · rw [List.length_append, List.map_append]
    exact hr
  · intro i p t g1 g2
    rcases snoc_at g1 with ⟨hi, g1⟩ | ⟨hi, rfl⟩
    · have g2' : M.sds[i]? = some t := by
        have h' : (M.sds ++ [s])[i]? = some t := g2
        rwa [List.getElem?_append_left (by rw [← h.sl]; exact hi)] at h'
      obtain ⟨_, b', c'⟩ := h.sa i p t g1 g2'
      exact ⟨(h.part hc i p).1 t g1 g2' (fun y hy => by rcases tr y hy with e' | e' <;> omega), k2 p.1 _ b' (by omega) (by omega), fun y hy => k2 y _ (c' y hy) (by omega) (by omega)⟩
    · have g2' : t = s := by
        have h' : (M.sds ++ [s])[i]? = some t := g2
        rw [hi, h.sl] at h'
        simpa using h'.symm
      subst g2'
      refine ⟨hS, by rw [hi]; simp, fun y hy => by cases hy⟩
  · intro i p t g1 g2
    obtain ⟨_, b', c'⟩ := h.wa i p t g1 g2
    have hw := (h.part hc i p).2 t g1 g2 (fun y hy => by rcases tr y hy with e' | e' <;> omega)
    exact ⟨hw.mono kC, k2 p.1 _ b' (by omega) (by omega), fun y hy => k2 y _ (c' y hy) (by omega) (by omega)⟩
  · intro y hy
    rw [if_neg (hv y hy).2, if_pos hy]
  · intro y hy
    rw [if_neg (fun e => by have := hS.lt; omega), if_neg (fun e => by have := (hr.lt y e).2; omega)]
    exact h.hi y (Nat.le_trans hc.size hy)
  · intro y hy h0
    rw [if_neg (by omega), if_neg (fun e => by
      rcases (hv y e).1 with e' | e'
      · rw [h.rs y e'] at h0; omega
      · omega)]
    exact h0
  · exact hc.mono (fun y _ e => by rcases tr y e with e' | e' <;> omega)

theorem MdAt.addW {wb : Nat} {wv' : Value} {x : Wn} {last : Int} (h : MdAt W ρ mb M sv wv SB WB) (hc : Chg (fun b => b = mb ∨ wv.ownBlock = some b) W W') (hk : ∀ i u, (mdV { M with last := last } sv wv')[i]? = some u → W'.cell? ⟨mb, i, none⟩ = some u) (hf : ∀ o, W'.frozen? ⟨mb, o, none⟩ = false)
    (hr : W'.ownsRow (mb + 1) 141 1 wv' (WB.length + 1) (WB.map (fun p => ptr p.1) ++ [ptr wb])) (hS : WnAt (fun _ => False) W' (wb + 1) wb (.slice none 0 0) x) (hxk : x.kept = []) (hwb : W.heap.size ≤ wb) (hv : ∀ b, wv'.ownBlock = some b → (wv.ownBlock = some b ∨ W.heap.size ≤ b) ∧ b ≠ wb) (hid : ∀ y ∈ M.wns, y.id.toNat ≠ x.id.toNat) :
    MdAt W' (fun b => if b = wb then 1000 + 2 * x.id.toNat else if wv'.ownBlock = some b then 3 else ρ b) mb { M with wns := M.wns ++ [x], last := last } sv wv' SB (WB ++ [(wb, .slice none 0 0)]) ∧ (∀ b, b < W.heap.size → ρ b = 0 → (if b = wb then 1000 + 2 * x.id.toNat else if wv'.ownBlock = some b then 3 else ρ b) = 0) ∧ Chg (fun b => ρ b ≠ 0) W W' := by
  have tr : ∀ y, (y = mb ∨ wv.ownBlock = some y) → ρ y = 1 ∨ ρ y = 3 := fun y hy => by
    rcases hy with e | e
    · exact .inl (by rw [e]; exact h.rm)
    · exact .inr (h.rw y e)
  have k2 : ∀ y r, ρ y = r → r ≠ 0 → r ≠ 3 → (if y = wb then 1000 + 2 * x.id.toNat else if wv'.ownBlock = some y then 3 else ρ y) = r := fun y r e1 e2 e3 => by
    have hne : y ≠ wb := fun e => by rw [e, h.hi wb hwb] at e1; omega
    rw [if_neg hne, if_neg (fun e => by
      rcases (hv y e).1 with e' | e'
      · rw [h.rw y e'] at e1; omega
      · rw [h.hi y e'] at e1; omega), e1]
  have kC : ∀ y, y < W'.heap.size → (ρ y = 4 ↔ (if y = wb then 1000 + 2 * x.id.toNat else if wv'.ownBlock = some y then 3 else ρ y) = 4) := fun y _ => by
    constructor
    · intro e; rw [k2 y 4 e (by omega) (by omega)]
    · intro e
      split at e
      · omega
      · split at e
        · omega
        · exact e
  refine ⟨⟨?_, hf, rowA_chg hc h.sr (fun y hy e => by have := h.rs y hy; rcases tr y e with e' | e' <;> omega), ?_, h.sl, by simp [h.wl], h.s4, ?_, ?_, ?_, k2 mb 1 h.rm (by omega) (by omega), fun y hy => k2 y 2 (h.rs y hy) (by omega) (by omega), ?_, ?_⟩, ?_, ?_⟩
  · exact hk
  · rw [List.length_append, List.map_append]
    exact hr
  · intro i p t g1 g2
    have g3 : M.sds[i]? = some t := g2
    have hj : i < 4 := by have := (List.getElem?_eq_some_iff.1 g3).1; have := h.s4; omega
    obtain ⟨_, b', c'⟩ := h.sa i p t g1 g2
    exact ⟨(h.part hc i p).1 t g1 g2 (fun y hy => by rcases tr y hy with e' | e' <;> omega), k2 p.1 _ b' (by omega) (by omega), fun y hy => k2 y _ (c' y hy) (by omega) (by omega)⟩
  · intro i p t g1 g2
    rcases snoc_at g1 with ⟨hi, g1⟩ | ⟨hi, rfl⟩
    · have g2' : M.wns[i]? = some t := by
        have h' : (M.wns ++ [x])[i]? = some t := g2
        rwa [List.getElem?_append_left (by rw [← h.wl]; exact hi)] at h'
      obtain ⟨_, b', c'⟩ := h.wa i p t g1 g2'
      have hw := (h.part hc i p).2 t g1 g2' (fun y hy => by rcases tr y hy with e' | e' <;> omega)
      exact ⟨hw.mono kC, k2 p.1 _ b' (by omega) (by omega), fun y hy => k2 y _ (c' y hy) (by omega) (by omega)⟩
    · have g2' : t = x := by
        have h' : (M.wns ++ [x])[i]? = some t := g2
        rw [hi, h.wl] at h'
        simpa using h'.symm
      subst g2'
      refine ⟨⟨hS.c0, hS.c1, hS.c2, hS.c3, hS.c4, hS.c5, hS.c6, hS.c7, hS.c8, hS.c9, hS.c10, hS.c11, hS.c12, hS.fz, hS.row, hS.sb, fun k hk' => (by rw [hxk] at hk'; cases hk'), fun e => by simp at e; omega, fun y hy => by cases hy⟩, by simp, fun y hy => by cases hy⟩
  · intro i j y z hij g1 g2
    have g1' : (M.wns ++ [x])[i]? = some y := g1
    have g2' : (M.wns ++ [x])[j]? = some z := g2
    rcases snoc_at g1' with ⟨hi, g3⟩ | ⟨hi, rfl⟩
    · rcases snoc_at g2' with ⟨hj, g4⟩ | ⟨hj, rfl⟩
      · exact h.ids i j y z hij g3 g4
      · exact hid y (List.mem_of_getElem? g3)
    · rcases snoc_at g2' with ⟨hj, g4⟩ | ⟨hj, e⟩
      · exact Ne.symm (hid z (List.mem_of_getElem? g4))
      · omega
  · intro y hy
    rw [if_neg (hv y hy).2, if_pos hy]
  · intro y hy
    rw [if_neg (fun e => by have := hS.lt; omega), if_neg (fun e => by have := (hr.lt y e).2; omega)]
    exact h.hi y (Nat.le_trans hc.size hy)
  · intro y hy h0
    rw [if_neg (by omega), if_neg (fun e => by
      rcases (hv y e).1 with e' | e'
      · rw [h.rw y e'] at h0; omega
      · omega)]
    exact h0
  · exact hc.mono (fun y _ e => by rcases tr y e with e' | e' <;> omega)

/-- one cell of the mender's block is stored: the others are as they were -/
theorem mdV_set {a b : World} {mb : Nat} {M M' : Md} {sv wv sv' wv' : Value} (j : Nat) (y : Value) (h : ∀ i u, (mdV M sv wv)[i]? = some u → a.cell? ⟨mb, i, none⟩ = some u) (hb : ∀ o, b.cell? ⟨mb, o, none⟩ = a.cell? ⟨mb, o, none⟩) (hj : j < 21) (he : mdV M' sv' wv' = (mdV M sv wv).set j y) :
    ∀ i u, (mdV M' sv' wv')[i]? = some u → (b.setCell ⟨mb, j, none⟩ y).cell? ⟨mb, i, none⟩ = some u := by
  intro i u hu
  rw [he, List.getElem?_set] at hu
  by_cases e : j = i
  · subst e
    rw [if_pos rfl, if_pos (by simpa [mdV, cfgV, sttV] using hj)] at hu
    cases hu
    have hl : j < (mdV M sv wv).length := by simpa [mdV, cfgV, sttV] using hj
    exact World.cell?_setCell_same _ _ _ ((hb j).trans (h j _ (List.getElem?_eq_getElem hl)))
  · rw [if_neg e] at hu
    rw [World.cell?_setCell_other _ _ _ _ (fun e' => e (by injection e')), hb]
    exact h i u hu
end
end Pk
end Go.Proofs.Ytdjhhnolcafkiaa

/- AddSender. -/
namespace Go.Proofs.Ytdjhhnolcafkiaa
open Go.RowKit
namespace Pk
theorem infoS : (Try.prog.info? 108).map (fun i => (i.zero, i.size, i.bytes)) = some (some (.pointer none), 1, 8) := by kernel_rfl
/-- a mender turned -/
def Moved (w w' : World) (ρ : Nat → Nat) (mb : Nat) (M' : Md) : Prop :=
  ∃ ρ' sv' wv' SB' WB', MdAt w' ρ' mb M' sv' wv' SB' WB' ∧ (∀ b, b < w.heap.size → ρ b = 0 → ρ' b = 0) ∧ Chg (fun b => ρ b ≠ 0) w w'
theorem Moved.mk {w w' : World} {ρ ρ' : Nat → Nat} {mb : Nat} {M' : Md} {sv' wv' : Value} {SB' WB' : List (Nat × Value)} (h : MdAt w' ρ' mb M' sv' wv' SB' WB' ∧ (∀ b, b < w.heap.size → ρ b = 0 → ρ' b = 0) ∧ Chg (fun b => ρ b ≠ 0) w w') : Moved w w' ρ mb M' := ⟨ρ', sv', wv', SB', WB', h⟩
theorem Moved.same {w w' : World} {ρ : Nat → Nat} {mb : Nat} {M : Md} {sv wv : Value} {SB WB : List (Nat × Value)} (h : MdAt w ρ mb M sv wv SB WB) (hb : Below w.heap.size w w') : Moved w w' ρ mb M := ⟨ρ, sv, wv, SB, WB, h.below hb, fun _ _ e => e, Chg.ofBelow hb⟩
theorem Moved.before {w w1 w' : World} {ρ : Nat → Nat} {mb : Nat} {M : Md} (hb : Below w.heap.size w w1) (h : Moved w1 w' ρ mb M) : Moved w w' ρ mb M := by
  obtain ⟨ρ', a, b, c, d, h1, h2, h3⟩ := h
  exact ⟨ρ', a, b, c, d, h1, fun x hx => h2 x (Nat.lt_of_lt_of_le hx hb.size), (Chg.ofBelow hb).trans h3 (fun _ _ e => e)⟩
def addSM (M : Md) (source : Int) : Md × Int :=
  if ¬ (0 ≤ source ∧ source ≤ 4294967295) then (M, 2) else if knowsF M source = true then (M, 3) else if 4 ≤ M.sds.length then (M, 5) else ({ M with sds := M.sds ++ [⟨source, false, [], 0⟩] }, 0)
theorem Moved.addS {w1 w3 : World} {ρ : Nat → Nat} {mb : Nat} {M : Md} {ao a3 : Option Addr} {cap c3 : Nat} {wv : Value} {SB WB : List (Nat × Value)} {source : Int} (h : MdAt w1 ρ mb M (.slice ao SB.length cap) wv SB WB) (hl : SB.length < 4) (ob : Obj)
    (hg : World.grownBy ((w1.alloc (.cells #[.int .i64 source, .bool false, .slice none 0 0, .int .u16 0] 147)).alloc ob).drew w3 (Value.slice ao SB.length cap).ownBlock)
    (hown : w3.ownsRow (mb + 1) 108 1 (.slice a3 (SB.length + 1) c3) (SB.length + 1) (SB.map (fun p => ptr p.1) ++ [ptr w1.heap.size]))
    (hob : (Value.slice a3 (SB.length + 1) c3).ownBlock = (Value.slice ao SB.length cap).ownBlock ∨ (Value.slice a3 (SB.length + 1) c3).ownBlock = some ((w1.alloc (.cells #[.int .i64 source, .bool false, .slice none 0 0, .int .u16 0] 147)).alloc ob).drew.heap.size) :
    Moved w1 (w3.setCell ⟨mb, 18, none⟩ (.slice a3 (SB.length + 1) c3)) ρ mb { M with sds := M.sds ++ [⟨source, false, [], 0⟩] } := by
  have hneM : (Value.slice ao SB.length cap).ownBlock ≠ some mb := fun e => by have := h.rs mb e; rw [h.rm] at this; cases this
  have hobl : ∀ b, (Value.slice ao SB.length cap).ownBlock = some b → b < w1.heap.size := fun b hb => (h.sr.lt b hb).2
  have hlt := h.lt
  have hcA : Chg (fun b => (Value.slice ao SB.length cap).ownBlock = some b) (w1.alloc (.cells #[.int .i64 source, .bool false, .slice none 0 0, .int .u16 0] 147)) w3 := Chg.ofGrown (((World.grownBy_alloc _ _ _).trans (World.grownBy_drewX _ _)).trans hg)
  have hc1 : Chg (fun b => (Value.slice ao SB.length cap).ownBlock = some b) w1 w3 := Chg.ofGrown ((((World.grownBy_alloc _ _ _).trans (World.grownBy_alloc _ _ _)).trans (World.grownBy_drewX _ _)).trans hg)
  have hcS : Chg (fun b => b = mb) w3 (w3.setCell ⟨mb, 18, none⟩ (.slice a3 (SB.length + 1) c3)) := (Chg.refl (fun b => b = mb) _).setCell ⟨mb, 18, none⟩ (.inl rfl) _
  have hcA' : Chg (fun b => b = mb ∨ (Value.slice ao SB.length cap).ownBlock = some b) (w1.alloc (.cells #[.int .i64 source, .bool false, .slice none 0 0, .int .u16 0] 147)) (w3.setCell ⟨mb, 18, none⟩ (.slice a3 (SB.length + 1) c3)) := (hcA.mono (fun _ _ e => .inr e)).trans hcS (fun _ _ e => .inl e)
  have hc' : Chg (fun b => b = mb ∨ (Value.slice ao SB.length cap).ownBlock = some b) w1 (w3.setCell ⟨mb, 18, none⟩ (.slice a3 (SB.length + 1) c3)) := (hc1.mono (fun _ _ e => .inr e)).trans hcS (fun _ _ e => .inl e)
  have hnT : ¬ (w1.heap.size = mb ∨ (Value.slice ao SB.length cap).ownBlock = some w1.heap.size) := by
    rintro (e | e)
    · omega
    · have := hobl _ e; omega
  have hsz : ((w1.alloc (.cells #[.int .i64 source, .bool false, .slice none 0 0, .int .u16 0] 147)).alloc ob).drew.heap.size = w1.heap.size + 1 + 1 := by simp
  have hne3 : (Value.slice a3 (SB.length + 1) c3).ownBlock ≠ some mb := fun e => by
    have := (hown.lt mb e).1
    omega
  have hh := MdAt.addS (sb := w1.heap.size) (sv' := .slice a3 (SB.length + 1) c3) (s := ⟨source, false, [], 0⟩) h hl hc'
  refine Moved.mk (hh ?_ ?_ ?_ ?_ (Nat.le_refl _) ?_)
  · exact mdV_set 18 _ h.k (fun o => World.cell?_of_block (hc1.block mb hlt hneM)) (by omega) rfl
  · intro o
    rw [World.frozen?_setCell]
    exact (hc1.frozen (p := ⟨mb, o, none⟩) hlt hneM).trans (h.fz o)
  · exact rowA_chg hcS hown (fun y hy e => hne3 (e ▸ hy))
  · refine ⟨hcA'.cell (cell_new _ _ _ 0) hnT, hcA'.cell (cell_new _ _ _ 1) hnT, hcA'.cell (cell_new _ _ _ 2) hnT, hcA'.cell (cell_new _ _ _ 3) hnT, fun o => (hcA'.frozen (p := ⟨w1.heap.size, o, none⟩) (by simp) hnT).trans (frozen_new _ _ _ o), World.ownsRow_nil _ _ _ _, by omega⟩
  · intro b hb
    rcases hob with e | e
    · rw [e] at hb
      have := hobl b hb
      exact ⟨.inl hb, by omega⟩
    · rw [e, hsz] at hb
      cases hb
      exact ⟨.inr (by omega), by omega⟩
end Pk
open Pk

set_option maxRecDepth 20000 in
set_option maxHeartbeats 1000000 in
theorem addSender_any (ρ : Nat → Nat) (mb : Nat) (M : Md) (sv wv : Value) (SB WB : List (Nat × Value)) (source : Int) (w : World) (h : MdAt w ρ mb M sv wv SB WB) (h8 : M.wns.length ≤ 8) (hr : 1 ≤ M.c.ring) :
    Calls Try.prog 51 #[.pointer (some ⟨mb, 0, none⟩), .int .i64 source] w fun e w' => e = .returned (.int .i64 (addSM M source).2) ∧ Moved w w' ρ mb (addSM M source).1 := by
  obtain ⟨ao, cap, rfl⟩ := rowA_shape h.sr
  have H : Hid (MdAt w ρ mb M (.slice ao SB.length cap) wv SB WB) := h
  have hlt := h.lt
  clear h
  go_enter Try.func51, Try.ntmps51
  go_wp2_with fail
  refine (orNone_any mb _).mono ?_
  rintro e w1 ⟨rfl, hw1⟩
  rw [hw1]
  clear hw1
  go_wp2_with fail
  refine (between_any _ _ _ _).mono ?_
  rintro e w1 ⟨rfl, hw1⟩
  rw [hw1]
  clear hw1
  by_cases hin : 0 ≤ source ∧ source ≤ 4294967295
  · rw [decide_eq_true hin]
    have Hin : Hid (0 ≤ source ∧ source ≤ 4294967295) := hin
    clear hin
    go_wp2_with fail
    refine (knows_any ρ mb M _ wv SB WB source _ H.out h8).mono ?_
    rintro e w1 ⟨rfl, hb1⟩
    have Hb1 : Hid (Below w.heap.size w w1) := hb1
    have H1 : Hid (MdAt w1 ρ mb M (.slice ao SB.length cap) wv SB WB) := H.out.below hb1
    clear hb1
    cases hk : knowsF M source with
    | true =>
      have HA : Hid (addSM M source = (M, 3)) := by show _ = _; unfold addSM; rw [if_neg (fun e => e Hin.out), if_pos hk]
      clear hk
      go_wp2
      go_ret
      rw [HA.out]
      exact ⟨rfl, Moved.same H.out Hb1.out⟩
    | false =>
    have y18 : w1.cell? ⟨mb, 18, none⟩ = some (.slice ao SB.length cap) := H1.out.k 18 _ rfl
    by_cases h4 : 4 ≤ SB.length
    · have h4' : (4 : Int) ≤ SB.length := by omega
      have HA : Hid (addSM M source = (M, 5)) := by show _ = _; unfold addSM; rw [if_neg (fun e => e Hin.out), if_neg (by rw [hk]; decide), if_pos (by rw [← H.out.sl]; exact h4)]
      clear hk
      go_wp2
      go_ret
      rw [HA.out]
      exact ⟨rfl, Moved.same H.out Hb1.out⟩
    · have h4' : ¬ (4 : Int) ≤ SB.length := by omega
      have HA : Hid (addSM M source = ({ M with sds := M.sds ++ [⟨source, false, [], 0⟩] }, 0)) := by show _ = _; unfold addSM; rw [if_neg (fun e => e Hin.out), if_neg (by rw [hk]; decide), if_neg (by rw [← H.out.sl]; exact h4)]
      clear hk
      obtain ⟨i0, hi0, hz0, hz1, hz2⟩ := info_parts infoS
      have Hi : Hid (Try.prog.info? 108 = some i0 ∧ i0.zero = _ ∧ i0.size = 1 ∧ i0.bytes = 8) := ⟨hi0, hz0, hz1, hz2⟩
      clear hi0 hz0 hz1 hz2
      go_wp2_with fail
      refine (made_any mb M.c.ring _ (H1.out.k 0 _ rfl) hr).mono ?_
      rintro e w2 ⟨rfl, hw2⟩
      rw [hw2]
      clear hw2
      have hs1 : mb < w1.heap.size := H1.out.lt
      have hneM : (Value.slice ao SB.length cap).ownBlock ≠ some mb := fun e => by have := H1.out.rs mb e; rw [H1.out.rm] at this; cases this
      have yf : ∀ o, w1.frozen? ⟨mb, o, none⟩ = false := H1.out.fz
      go_wp2
      refine wp_region_noPanic ?_
      refine wp_region_held_drew (S := fun _ => True) (by kernel_rfl) trivial (fun hHeld => ?_)
      refine wpAnyH_take (i := 0) (v := ?vt1) rfl (by kernel_rfl) (by kernel_rfl) (by kernel_rfl) (fun _ _ _ h => h) (Or.inl ⟨by rfl, ?yt1⟩) hHeld ?rt1
      case yt1 => ((intro W hSw; go_simp) <;> with_reducible rfl)
      try simp only [Act.put]
      try simp only [List.getElem_toArray]
      try simp only [List.getElem_cons_succ]
      try simp only [List.getElem_cons_zero]
      try simp only [List.setIfInBounds_toArray]
      try simp only [List.set_cons_succ]
      try simp only [List.set_cons_zero]
      refine wpAnyH_take (i := 1) (v := ?vt2) rfl (by kernel_rfl) (by kernel_rfl) (by kernel_rfl) (fun _ _ _ h => h) (Or.inl ⟨by rfl, ?yt2⟩) hHeld ?rt2
      case yt2 => ((intro W hSw; go_simp) <;> with_reducible rfl)
      try simp only [Act.put]
      try simp only [List.getElem_toArray]
      try simp only [List.getElem_cons_succ]
      try simp only [List.getElem_cons_zero]
      try simp only [List.setIfInBounds_toArray]
      try simp only [List.set_cons_succ]
      try simp only [List.set_cons_zero]
      refine wpAnyH_take (i := 2) (v := ?vt3) rfl (by kernel_rfl) (by kernel_rfl) (by kernel_rfl) (fun _ _ _ h => h) (Or.inl ⟨by rfl, ?yt3⟩) hHeld ?rt3
      case yt3 => ((intro W hSw; go_simp) <;> with_reducible rfl)
      try simp only [Act.put]
      try simp only [List.getElem_toArray]
      try simp only [List.getElem_cons_succ]
      try simp only [List.getElem_cons_zero]
      try simp only [List.setIfInBounds_toArray]
      try simp only [List.set_cons_succ]
      try simp only [List.set_cons_zero]
      refine wpAnyH_take (i := 3) (v := ?vt4) rfl (by kernel_rfl) (by kernel_rfl) (by kernel_rfl) (fun _ _ _ h => h) (Or.inl ⟨by rfl, ?yt4⟩) hHeld ?rt4
      case yt4 => ((intro W hSw; go_simp) <;> with_reducible rfl)
      try simp only [Act.put]
      try simp only [List.getElem_toArray]
      try simp only [List.getElem_cons_succ]
      try simp only [List.getElem_cons_zero]
      try simp only [List.setIfInBounds_toArray]
      try simp only [List.set_cons_succ]
      try simp only [List.set_cons_zero]
      refine wpAnyH_take (i := 5) (v := ?vt5) rfl (by kernel_rfl) (by kernel_rfl) (by kernel_rfl) (fun _ _ _ h => h) (Or.inl ⟨by rfl, ?yt5⟩) hHeld ?rt5
      case yt5 => ((intro W hSw; go_simp) <;> with_reducible rfl)
      try simp only [Act.put]
      try simp only [List.getElem_toArray]
      try simp only [List.getElem_cons_succ]
      try simp only [List.getElem_cons_zero]
      try simp only [List.setIfInBounds_toArray]
      try simp only [List.set_cons_succ]
      try simp only [List.set_cons_zero]
      refine wpAnyH_ready (rs := [4, 6]) (by kernel_rfl) (by simp) ?_
      refine AllReadyH.cons rfl (fun K hK => ?_) (AllReadyH.cons rfl (fun K hK => ?_) AllReadyH.nil)
      · go_simp
        refine hK.out _ _ trivial (fun hHeld => ?_)
        clear hK K
        try simp only [Act.put]
        try simp only [List.getElem_toArray]
        try simp only [List.getElem_cons_succ]
        try simp only [List.getElem_cons_zero]
        try simp only [List.setIfInBounds_toArray]
        try simp only [List.set_cons_succ]
        try simp only [List.set_cons_zero]
        refine wpAnyH_ready (rs := [6]) (by kernel_rfl) (by simp) ?_
        refine AllReadyH.cons rfl (fun K hK => ?_) AllReadyH.nil
        go_simp
        refine (newSender_any source _).mono ?_
        rintro e w2 ⟨rfl, hw2⟩
        rw [hw2]
        clear hw2
        unfold ptr
        go_simp
        refine hK.out _ _ trivial (fun hHeld => ?_)
        clear hK K
        try simp only [Act.put]
        try simp only [List.getElem_toArray]
        try simp only [List.getElem_cons_succ]
        try simp only [List.getElem_cons_zero]
        try simp only [List.setIfInBounds_toArray]
        try simp only [List.set_cons_succ]
        try simp only [List.set_cons_zero]
        refine wpAnyH_ready (rs := [7]) (by kernel_rfl) (by simp) ?_
        refine AllReadyH.cons rfl (fun K hK => ?_) AllReadyH.nil
        go_simp
        refine hK.out _ _ trivial (fun hHeld => ?_)
        clear hK K
        try simp only [Act.put]
        try simp only [List.getElem_toArray]
        try simp only [List.getElem_cons_succ]
        try simp only [List.getElem_cons_zero]
        try simp only [List.setIfInBounds_toArray]
        try simp only [List.set_cons_succ]
        try simp only [List.set_cons_zero]
        refine wpAnyH_ready (rs := [8]) (by kernel_rfl) (by simp) ?_
        refine AllReadyH.cons rfl (fun K hK => ?_) AllReadyH.nil
        rw [if_pos (by rfl)]
        refine wp_append_at (.tmp 31) (.tmp 34) 104 rfl (mb + 1) 108 i0 _ 1 8 Try.underlying104 Hi.out.1 Hi.out.2.1 Hi.out.2.2.1 Hi.out.2.2.2 rfl (by decide) (.slice ao SB.length cap) SB.length (SB.map fun p => ptr p.1) (by rfl) (World.ownsRow.drew (World.ownsRow.alloc (World.ownsRow.alloc H1.out.sr _) _)) _ 1 1 [ptr w1.heap.size] (by rfl) rfl (cells_newAt _ [ptr w1.heap.size] _ _ (by simp)) ?_ (by unfold maxLen; omega) (by omega) (by simp; omega) ?_
        · intro u hu
          simp at hu
          subst hu
          rfl
        intro v' w3 hown' hgrow hob
        obtain ⟨a3, c3, rfl⟩ := rowA_shape hown'
        have hc3 : Chg (fun x => (Value.slice ao SB.length cap).ownBlock = some x) w1 w3 := Chg.ofGrown ((((World.grownBy_alloc _ _ _).trans (World.grownBy_alloc _ _ _)).trans (World.grownBy_drewX _ _)).trans hgrow)
        have z18 : w3.cell? ⟨mb, 18, none⟩ = some (.slice ao SB.length cap) := hc3.cell y18 hneM
        have zf : ∀ o, w3.frozen? ⟨mb, o, none⟩ = false := fun o => (hc3.frozen (p := ⟨mb, o, none⟩) hs1 hneM).trans (yf o)
        have HM : Hid (Moved w1 (w3.setCell ⟨mb, 18, none⟩ (.slice a3 (SB.length + 1) c3)) ρ mb { M with sds := M.sds ++ [⟨source, false, [], 0⟩] }) := Moved.addS H1.out (by omega) _ hgrow hown' hob
        refine hK.out _ _ trivial (fun hHeld => ?_)
        clear hK K hown' hgrow hob hc3 y18 yf
        try simp only [Act.put]
        try simp only [List.getElem_toArray]
        try simp only [List.getElem_cons_succ]
        try simp only [List.getElem_cons_zero]
        try simp only [List.setIfInBounds_toArray]
        try simp only [List.set_cons_succ]
        try simp only [List.set_cons_zero]
        refine wpAnyH_take (i := 9) (v := ?vt6) rfl (by kernel_rfl) (by kernel_rfl) (by kernel_rfl) (fun _ _ _ h => h) (Or.inl ⟨by rfl, ?yt6⟩) hHeld ?rt6
        case yt6 => ((intro W hSw; go_simp) <;> with_reducible rfl)
        try simp only [Act.put]
        try simp only [List.getElem_toArray]
        try simp only [List.getElem_cons_succ]
        try simp only [List.getElem_cons_zero]
        try simp only [List.setIfInBounds_toArray]
        try simp only [List.set_cons_succ]
        try simp only [List.set_cons_zero]
        refine wpAnyH_take (i := 10) (v := ?vt7) rfl (by kernel_rfl) (by kernel_rfl) (by kernel_rfl) (fun _ _ _ h => h) (Or.inl ⟨by rfl, ?yt7⟩) hHeld ?rt7
        case yt7 => ((intro W hSw; go_simp) <;> with_reducible rfl)
        try simp only [Act.put]
        try simp only [List.getElem_toArray]
        try simp only [List.getElem_cons_succ]
        try simp only [List.getElem_cons_zero]
        try simp only [List.setIfInBounds_toArray]
        try simp only [List.set_cons_succ]
        try simp only [List.set_cons_zero]
        refine wpAnyH_ready (rs := [11]) (by kernel_rfl) (by simp) ?_
        refine AllReadyH.cons rfl (fun K hK => ?_) AllReadyH.nil
        go_simp
        refine hK.out _ _ trivial (fun hHeld => ?_)
        clear hK K
        refine wpAnyH_done (by kernel_rfl) ?_ _
        refine NoPanic.normal ?_
        go_wp2
        go_ret
        rw [HA.out]
        exact ⟨rfl, Moved.before Hb1.out HM.out⟩
      · go_simp
        refine (newSender_any source _).mono ?_
        rintro e w2 ⟨rfl, hw2⟩
        rw [hw2]
        clear hw2
        unfold ptr
        go_simp
        refine hK.out _ _ trivial (fun hHeld => ?_)
        clear hK K
        try simp only [Act.put]
        try simp only [List.getElem_toArray]
        try simp only [List.getElem_cons_succ]
        try simp only [List.getElem_cons_zero]
        try simp only [List.setIfInBounds_toArray]
        try simp only [List.set_cons_succ]
        try simp only [List.set_cons_zero]
        refine wpAnyH_ready (rs := [4, 7]) (by kernel_rfl) (by simp) ?_
        refine AllReadyH.cons rfl (fun K hK => ?_) (AllReadyH.cons rfl (fun K hK => ?_) AllReadyH.nil)
        · go_simp
          refine hK.out _ _ trivial (fun hHeld => ?_)
          clear hK K
          try simp only [Act.put]
          try simp only [List.getElem_toArray]
          try simp only [List.getElem_cons_succ]
          try simp only [List.getElem_cons_zero]
          try simp only [List.setIfInBounds_toArray]
          try simp only [List.set_cons_succ]
          try simp only [List.set_cons_zero]
          refine wpAnyH_ready (rs := [7]) (by kernel_rfl) (by simp) ?_
          refine AllReadyH.cons rfl (fun K hK => ?_) AllReadyH.nil
          go_simp
          refine hK.out _ _ trivial (fun hHeld => ?_)
          clear hK K
          try simp only [Act.put]
          try simp only [List.getElem_toArray]
          try simp only [List.getElem_cons_succ]
          try simp only [List.getElem_cons_zero]
          try simp only [List.setIfInBounds_toArray]
          try simp only [List.set_cons_succ]
          try simp only [List.set_cons_zero]
          refine wpAnyH_ready (rs := [8]) (by kernel_rfl) (by simp) ?_
          refine AllReadyH.cons rfl (fun K hK => ?_) AllReadyH.nil
          rw [if_pos (by rfl)]
          refine wp_append_at (.tmp 31) (.tmp 34) 104 rfl (mb + 1) 108 i0 _ 1 8 Try.underlying104 Hi.out.1 Hi.out.2.1 Hi.out.2.2.1 Hi.out.2.2.2 rfl (by decide) (.slice ao SB.length cap) SB.length (SB.map fun p => ptr p.1) (by rfl) (World.ownsRow.drew (World.ownsRow.alloc (World.ownsRow.alloc H1.out.sr _) _)) _ 1 1 [ptr w1.heap.size] (by rfl) rfl (cells_newAt _ [ptr w1.heap.size] _ _ (by simp)) ?_ (by unfold maxLen; omega) (by omega) (by simp; omega) ?_
          · intro u hu
            simp at hu
            subst hu
            rfl
          intro v' w3 hown' hgrow hob
          obtain ⟨a3, c3, rfl⟩ := rowA_shape hown'
          have hc3 : Chg (fun x => (Value.slice ao SB.length cap).ownBlock = some x) w1 w3 := Chg.ofGrown ((((World.grownBy_alloc _ _ _).trans (World.grownBy_alloc _ _ _)).trans (World.grownBy_drewX _ _)).trans hgrow)
          have z18 : w3.cell? ⟨mb, 18, none⟩ = some (.slice ao SB.length cap) := hc3.cell y18 hneM
          have zf : ∀ o, w3.frozen? ⟨mb, o, none⟩ = false := fun o => (hc3.frozen (p := ⟨mb, o, none⟩) hs1 hneM).trans (yf o)
          have HM : Hid (Moved w1 (w3.setCell ⟨mb, 18, none⟩ (.slice a3 (SB.length + 1) c3)) ρ mb { M with sds := M.sds ++ [⟨source, false, [], 0⟩] }) := Moved.addS H1.out (by omega) _ hgrow hown' hob
          refine hK.out _ _ trivial (fun hHeld => ?_)
          clear hK K hown' hgrow hob hc3 y18 yf
          try simp only [Act.put]
          try simp only [List.getElem_toArray]
          try simp only [List.getElem_cons_succ]
          try simp only [List.getElem_cons_zero]
          try simp only [List.setIfInBounds_toArray]
          try simp only [List.set_cons_succ]
          try simp only [List.set_cons_zero]
          refine wpAnyH_take (i := 9) (v := ?vt8) rfl (by kernel_rfl) (by kernel_rfl) (by kernel_rfl) (fun _ _ _ h => h) (Or.inl ⟨by rfl, ?yt8⟩) hHeld ?rt8
          case yt8 => ((intro W hSw; go_simp) <;> with_reducible rfl)
          try simp only [Act.put]
          try simp only [List.getElem_toArray]
          try simp only [List.getElem_cons_succ]
          try simp only [List.getElem_cons_zero]
          try simp only [List.setIfInBounds_toArray]
          try simp only [List.set_cons_succ]
          try simp only [List.set_cons_zero]
          refine wpAnyH_take (i := 10) (v := ?vt9) rfl (by kernel_rfl) (by kernel_rfl) (by kernel_rfl) (fun _ _ _ h => h) (Or.inl ⟨by rfl, ?yt9⟩) hHeld ?rt9
          case yt9 => ((intro W hSw; go_simp) <;> with_reducible rfl)
          try simp only [Act.put]
          try simp only [List.getElem_toArray]
          try simp only [List.getElem_cons_succ]
          try simp only [List.getElem_cons_zero]
          try simp only [List.setIfInBounds_toArray]
          try simp only [List.set_cons_succ]
          try simp only [List.set_cons_zero]
          refine wpAnyH_ready (rs := [11]) (by kernel_rfl) (by simp) ?_
          refine AllReadyH.cons rfl (fun K hK => ?_) AllReadyH.nil
          go_simp
          refine hK.out _ _ trivial (fun hHeld => ?_)
          clear hK K
          refine wpAnyH_done (by kernel_rfl) ?_ _
          refine NoPanic.normal ?_
          go_wp2
          go_ret
          rw [HA.out]
          exact ⟨rfl, Moved.before Hb1.out HM.out⟩
        · go_simp
          refine hK.out _ _ trivial (fun hHeld => ?_)
          clear hK K
          try simp only [Act.put]
          try simp only [List.getElem_toArray]
          try simp only [List.getElem_cons_succ]
          try simp only [List.getElem_cons_zero]
          try simp only [List.setIfInBounds_toArray]
          try simp only [List.set_cons_succ]
          try simp only [List.set_cons_zero]
          refine wpAnyH_ready (rs := [4]) (by kernel_rfl) (by simp) ?_
          refine AllReadyH.cons rfl (fun K hK => ?_) AllReadyH.nil
          go_simp
          refine hK.out _ _ trivial (fun hHeld => ?_)
          clear hK K
          try simp only [Act.put]
          try simp only [List.getElem_toArray]
          try simp only [List.getElem_cons_succ]
          try simp only [List.getElem_cons_zero]
          try simp only [List.setIfInBounds_toArray]
          try simp only [List.set_cons_succ]
          try simp only [List.set_cons_zero]
          refine wpAnyH_ready (rs := [8]) (by kernel_rfl) (by simp) ?_
          refine AllReadyH.cons rfl (fun K hK => ?_) AllReadyH.nil
          rw [if_pos (by rfl)]
          refine wp_append_at (.tmp 31) (.tmp 34) 104 rfl (mb + 1) 108 i0 _ 1 8 Try.underlying104 Hi.out.1 Hi.out.2.1 Hi.out.2.2.1 Hi.out.2.2.2 rfl (by decide) (.slice ao SB.length cap) SB.length (SB.map fun p => ptr p.1) (by rfl) (World.ownsRow.drew (World.ownsRow.alloc (World.ownsRow.alloc H1.out.sr _) _)) _ 1 1 [ptr w1.heap.size] (by rfl) rfl (cells_newAt _ [ptr w1.heap.size] _ _ (by simp)) ?_ (by unfold maxLen; omega) (by omega) (by simp; omega) ?_
          · intro u hu
            simp at hu
            subst hu
            rfl
          intro v' w3 hown' hgrow hob
          obtain ⟨a3, c3, rfl⟩ := rowA_shape hown'
          have hc3 : Chg (fun x => (Value.slice ao SB.length cap).ownBlock = some x) w1 w3 := Chg.ofGrown ((((World.grownBy_alloc _ _ _).trans (World.grownBy_alloc _ _ _)).trans (World.grownBy_drewX _ _)).trans hgrow)
          have z18 : w3.cell? ⟨mb, 18, none⟩ = some (.slice ao SB.length cap) := hc3.cell y18 hneM
          have zf : ∀ o, w3.frozen? ⟨mb, o, none⟩ = false := fun o => (hc3.frozen (p := ⟨mb, o, none⟩) hs1 hneM).trans (yf o)
          have HM : Hid (Moved w1 (w3.setCell ⟨mb, 18, none⟩ (.slice a3 (SB.length + 1) c3)) ρ mb { M with sds := M.sds ++ [⟨source, false, [], 0⟩] }) := Moved.addS H1.out (by omega) _ hgrow hown' hob
          refine hK.out _ _ trivial (fun hHeld => ?_)
          clear hK K hown' hgrow hob hc3 y18 yf
          try simp only [Act.put]
          try simp only [List.getElem_toArray]
          try simp only [List.getElem_cons_succ]
          try simp only [List.getElem_cons_zero]
          try simp only [List.setIfInBounds_toArray]
          try simp only [List.set_cons_succ]
          try simp only [List.set_cons_zero]
          refine wpAnyH_take (i := 9) (v := ?vt10) rfl (by kernel_rfl) (by kernel_rfl) (by kernel_rfl) (fun _ _ _ h => h) (Or.inl ⟨by rfl, ?yt10⟩) hHeld ?rt10
          case yt10 => ((intro W hSw; go_simp) <;> with_reducible rfl)
          try simp only [Act.put]
          try simp only [List.getElem_toArray]
          try simp only [List.getElem_cons_succ]
          try simp only [List.getElem_cons_zero]
          try simp only [List.setIfInBounds_toArray]
          try simp only [List.set_cons_succ]
          try simp only [List.set_cons_zero]
          refine wpAnyH_take (i := 10) (v := ?vt11) rfl (by kernel_rfl) (by kernel_rfl) (by kernel_rfl) (fun _ _ _ h => h) (Or.inl ⟨by rfl, ?yt11⟩) hHeld ?rt11
          case yt11 => ((intro W hSw; go_simp) <;> with_reducible rfl)
          try simp only [Act.put]
          try simp only [List.getElem_toArray]
          try simp only [List.getElem_cons_succ]
          try simp only [List.getElem_cons_zero]
          try simp only [List.setIfInBounds_toArray]
          try simp only [List.set_cons_succ]
          try simp only [List.set_cons_zero]
          refine wpAnyH_ready (rs := [11]) (by kernel_rfl) (by simp) ?_
          refine AllReadyH.cons rfl (fun K hK => ?_) AllReadyH.nil
          go_simp
          refine hK.out _ _ trivial (fun hHeld => ?_)
          clear hK K
          refine wpAnyH_done (by kernel_rfl) ?_ _
          refine NoPanic.normal ?_
          go_wp2
          go_ret
          rw [HA.out]
          exact ⟨rfl, Moved.before Hb1.out HM.out⟩

  · rw [decide_eq_false hin]
    have HA : Hid (addSM M source = (M, 2)) := by show _ = _; unfold addSM; rw [if_pos hin]
    clear hin
    go_wp2
    go_ret
    rw [HA.out]
    exact ⟨rfl, Moved.same H.out (Below.refl _ _)⟩

end Go.Proofs.Ytdjhhnolcafkiaa

/- AddWant. -/
namespace Go.Proofs.Ytdjhhnolcafkiaa
open Go.RowKit
namespace Pk
theorem i64_id (n : Int) (h0 : -9000000000000000000 ≤ n) (h : n ≤ 9000000000000000000) : IntKind.i64.wrap n = n := by simp [IntKind.wrap, IntKind.signed, IntKind.bits]; omega
theorem infoW : (Try.prog.info? 141).map (fun i => (i.zero, i.size, i.bytes)) = some (some (.pointer none), 1, 8) := by kernel_rfl
def newW (id of_ : Int) (p : Plan) (n : Nat) : Wn := ⟨p.source, false, [], id, of_, p, 0, n⟩
def addWM (M : Md) (of_ : Int) (p : Plan) : Md × Int × Int :=
  if sndPos M of_ = none then (M, 0, 4) else if plOk p = false then (M, 0, 2) else if (knowsF M p.source || knowsF M p.second) = true then (M, 0, 3) else if 8 ≤ M.wns.length then (M, 0, 5) else ({ M with wns := M.wns ++ [newW (M.last + 1) of_ p p.secondFirst.toNat], last := M.last + 1 }, M.last + 1, 0)
/-- the cells of a plan -/
def PlAt (B : Nat) (p : Plan) (W : World) : Prop := W.cell? ⟨B, 0, none⟩ = some (.int .i64 p.source) ∧ W.cell? ⟨B, 1, none⟩ = some (.int .i64 p.second) ∧ W.cell? ⟨B, 2, none⟩ = some (.int .i64 p.ty) ∧ W.cell? ⟨B, 3, none⟩ = some (.int .i64 p.secondTy) ∧ W.cell? ⟨B, 4, none⟩ = some (.int .i64 p.first) ∧ W.cell? ⟨B, 5, none⟩ = some (.int .i64 p.secondFirst)
def PlS (mb B : Nat) (l : Int) (p : Plan) (W : World) : Prop := W.cell? ⟨mb, 20, none⟩ = some (.int .i64 l) ∧ W.cell? ⟨B, 0, none⟩ = some (.int .i64 p.source) ∧ W.cell? ⟨B, 1, none⟩ = some (.int .i64 p.second) ∧ W.cell? ⟨B, 2, none⟩ = some (.int .i64 p.ty) ∧ W.cell? ⟨B, 3, none⟩ = some (.int .i64 p.secondTy) ∧ W.cell? ⟨B, 4, none⟩ = some (.int .i64 p.first) ∧ W.cell? ⟨B, 5, none⟩ = some (.int .i64 p.secondFirst)
theorem PlAt.chg {T : Nat → Prop} {W W' : World} {B : Nat} {p : Plan} (h : PlAt B p W) (hc : Chg T W W') (h2 : ¬ T B) : PlAt B p W' := ⟨hc.cell h.1 h2, hc.cell h.2.1 h2, hc.cell h.2.2.1 h2, hc.cell h.2.2.2.1 h2, hc.cell h.2.2.2.2.1 h2, hc.cell h.2.2.2.2.2 h2⟩
theorem PlAt.below {W W' : World} {B : Nat} {p : Plan} (h : PlAt B p W) (hb : Below W.heap.size W W') : PlAt B p W' := h.chg (T := fun _ => False) (Chg.ofBelow hb) (fun e => e)
theorem PlS.chg {T : Nat → Prop} {W W' : World} {mb B : Nat} {l : Int} {p : Plan} (h : PlS mb B l p W) (hc : Chg T W W') (h1 : ¬ T mb) (h2 : ¬ T B) : PlS mb B l p W' := ⟨hc.cell h.1 h1, PlAt.chg h.2 hc h2⟩
theorem PlS.below {W W' : World} {mb B : Nat} {l : Int} {p : Plan} (h : PlS mb B l p W) (hb : Below W.heap.size W W') : PlS mb B l p W' := h.chg (T := fun _ => False) (Chg.ofBelow hb) (fun e => e) (fun e => e)
theorem PlS.set19 {W : World} {mb B : Nat} {l : Int} {p : Plan} (h : PlS mb B l p W) (hne : mb ≠ B) (v : Value) : PlS mb B l p (W.setCell ⟨mb, 19, none⟩ v) :=
  ⟨(World.cell?_setCell_other _ _ _ _ (fun e => by injection e with _ e _; omega)).trans h.1, PlAt.chg h.2 ((Chg.refl (fun b => b = mb) _).setCell ⟨mb, 19, none⟩ (.inl rfl) _) (fun e => hne e.symm)⟩
/-- the mender's own block turned ahead of a turn -/
theorem Moved.then0 {w w1 w' : World} {ρ : Nat → Nat} {mb : Nat} {M : Md} (h : Chg (fun b => ρ b ≠ 0) w w1) (k : Moved w1 w' ρ mb M) : Moved w w' ρ mb M := by
  obtain ⟨ρ', a, b, c, d, h1, h2, h3⟩ := k
  exact ⟨ρ', a, b, c, d, h1, fun x hx => h2 x (Nat.lt_of_lt_of_le hx h.size), h.trans h3 (fun _ _ e => e)⟩
theorem Moved.addW {w1 w3 : World} {ρ : Nat → Nat} {mb : Nat} {M : Md} {ao a3 : Option Addr} {cap c3 : Nat} {sv : Value} {SB WB : List (Nat × Value)} {of_ : Int} {p : Plan} {n : Nat} (h : MdAt w1 ρ mb { M with last := M.last + 1 } sv (.slice ao WB.length cap) SB WB) (hids : ∀ y ∈ M.wns, 0 < y.id ∧ y.id ≤ M.last) (hlast : 0 ≤ M.last) (ob : Obj)
    (hg : World.grownBy (((w1.alloc (.cells #[.int .i64 p.source, .int .i64 p.second, .int .i64 p.ty, .int .i64 p.secondTy, .int .i64 p.first, .int .i64 p.secondFirst] 102)).alloc (.cells #[.int .i64 p.source, .bool false, .slice none 0 0, .int .i64 (M.last + 1), .int .i64 of_, .int .i64 p.source, .int .i64 p.second, .int .i64 p.ty, .int .i64 p.secondTy, .int .i64 p.first, .int .i64 p.secondFirst, .int .u16 0, .int .u16 n] 165)).alloc ob).drew w3 (Value.slice ao WB.length cap).ownBlock)
    (hown : w3.ownsRow (mb + 1) 141 1 (.slice a3 (WB.length + 1) c3) (WB.length + 1) (WB.map (fun p => ptr p.1) ++ [ptr (w1.heap.size + 1)]))
    (hob : (Value.slice a3 (WB.length + 1) c3).ownBlock = (Value.slice ao WB.length cap).ownBlock ∨ (Value.slice a3 (WB.length + 1) c3).ownBlock = some (((w1.alloc (.cells #[.int .i64 p.source, .int .i64 p.second, .int .i64 p.ty, .int .i64 p.secondTy, .int .i64 p.first, .int .i64 p.secondFirst] 102)).alloc (.cells #[.int .i64 p.source, .bool false, .slice none 0 0, .int .i64 (M.last + 1), .int .i64 of_, .int .i64 p.source, .int .i64 p.second, .int .i64 p.ty, .int .i64 p.secondTy, .int .i64 p.first, .int .i64 p.secondFirst, .int .u16 0, .int .u16 n] 165)).alloc ob).drew.heap.size) :
    Moved w1 (w3.setCell ⟨mb, 19, none⟩ (.slice a3 (WB.length + 1) c3)) ρ mb { M with wns := M.wns ++ [newW (M.last + 1) of_ p n], last := M.last + 1 } := by
  have hneM : (Value.slice ao WB.length cap).ownBlock ≠ some mb := fun e => by have := h.rw mb e; rw [h.rm] at this; cases this
  have hobl : ∀ b, (Value.slice ao WB.length cap).ownBlock = some b → b < w1.heap.size := fun b hb => (h.wr.lt b hb).2
  have hlt := h.lt
  have hsA : (w1.alloc (.cells #[.int .i64 p.source, .int .i64 p.second, .int .i64 p.ty, .int .i64 p.secondTy, .int .i64 p.first, .int .i64 p.secondFirst] 102)).heap.size = w1.heap.size + 1 := by simp
  have hcA : Chg (fun b => (Value.slice ao WB.length cap).ownBlock = some b) ((w1.alloc (.cells #[.int .i64 p.source, .int .i64 p.second, .int .i64 p.ty, .int .i64 p.secondTy, .int .i64 p.first, .int .i64 p.secondFirst] 102)).alloc (.cells #[.int .i64 p.source, .bool false, .slice none 0 0, .int .i64 (M.last + 1), .int .i64 of_, .int .i64 p.source, .int .i64 p.second, .int .i64 p.ty, .int .i64 p.secondTy, .int .i64 p.first, .int .i64 p.secondFirst, .int .u16 0, .int .u16 n] 165)) w3 := Chg.ofGrown (((World.grownBy_alloc _ _ _).trans (World.grownBy_drewX _ _)).trans hg)
  have hc1 : Chg (fun b => (Value.slice ao WB.length cap).ownBlock = some b) w1 w3 := Chg.ofGrown (((((World.grownBy_alloc _ _ _).trans (World.grownBy_alloc _ _ _)).trans (World.grownBy_alloc _ _ _)).trans (World.grownBy_drewX _ _)).trans hg)
  have hcS : Chg (fun b => b = mb) w3 (w3.setCell ⟨mb, 19, none⟩ (.slice a3 (WB.length + 1) c3)) := (Chg.refl (fun b => b = mb) _).setCell ⟨mb, 19, none⟩ (.inl rfl) _
  have hcA' : Chg (fun b => b = mb ∨ (Value.slice ao WB.length cap).ownBlock = some b) ((w1.alloc (.cells #[.int .i64 p.source, .int .i64 p.second, .int .i64 p.ty, .int .i64 p.secondTy, .int .i64 p.first, .int .i64 p.secondFirst] 102)).alloc (.cells #[.int .i64 p.source, .bool false, .slice none 0 0, .int .i64 (M.last + 1), .int .i64 of_, .int .i64 p.source, .int .i64 p.second, .int .i64 p.ty, .int .i64 p.secondTy, .int .i64 p.first, .int .i64 p.secondFirst, .int .u16 0, .int .u16 n] 165)) (w3.setCell ⟨mb, 19, none⟩ (.slice a3 (WB.length + 1) c3)) := (hcA.mono (fun _ _ e => .inr e)).trans hcS (fun _ _ e => .inl e)
  have hc' : Chg (fun b => b = mb ∨ (Value.slice ao WB.length cap).ownBlock = some b) w1 (w3.setCell ⟨mb, 19, none⟩ (.slice a3 (WB.length + 1) c3)) := (hc1.mono (fun _ _ e => .inr e)).trans hcS (fun _ _ e => .inl e)
  have hnT : ¬ (w1.heap.size + 1 = mb ∨ (Value.slice ao WB.length cap).ownBlock = some (w1.heap.size + 1)) := by
    rintro (e | e)
    · omega
    · have := hobl _ e; omega
  have hsz : (((w1.alloc (.cells #[.int .i64 p.source, .int .i64 p.second, .int .i64 p.ty, .int .i64 p.secondTy, .int .i64 p.first, .int .i64 p.secondFirst] 102)).alloc (.cells #[.int .i64 p.source, .bool false, .slice none 0 0, .int .i64 (M.last + 1), .int .i64 of_, .int .i64 p.source, .int .i64 p.second, .int .i64 p.ty, .int .i64 p.secondTy, .int .i64 p.first, .int .i64 p.secondFirst, .int .u16 0, .int .u16 n] 165)).alloc ob).drew.heap.size = w1.heap.size + 1 + 1 + 1 := by simp
  have hne3 : (Value.slice a3 (WB.length + 1) c3).ownBlock ≠ some mb := fun e => by
    have := (hown.lt mb e).1
    omega
  have nc : ∀ o u, (#[.int .i64 p.source, .bool false, .slice none 0 0, .int .i64 (M.last + 1), .int .i64 of_, .int .i64 p.source, .int .i64 p.second, .int .i64 p.ty, .int .i64 p.secondTy, .int .i64 p.first, .int .i64 p.secondFirst, .int .u16 0, .int .u16 n] : Array Value)[o]? = some u → (w3.setCell ⟨mb, 19, none⟩ (.slice a3 (WB.length + 1) c3)).cell? ⟨w1.heap.size + 1, o, none⟩ = some u := fun o u hu => hcA'.cell (p := ⟨w1.heap.size + 1, o, none⟩) (by
    have := cell_new (w1.alloc (.cells #[.int .i64 p.source, .int .i64 p.second, .int .i64 p.ty, .int .i64 p.secondTy, .int .i64 p.first, .int .i64 p.secondFirst] 102)) #[.int .i64 p.source, .bool false, .slice none 0 0, .int .i64 (M.last + 1), .int .i64 of_, .int .i64 p.source, .int .i64 p.second, .int .i64 p.ty, .int .i64 p.secondTy, .int .i64 p.first, .int .i64 p.secondFirst, .int .u16 0, .int .u16 n] 165 o
    rw [hsA] at this
    exact this.trans hu) hnT
  have hh := MdAt.addW (wb := w1.heap.size + 1) (wv' := .slice a3 (WB.length + 1) c3) (x := newW (M.last + 1) of_ p n) (last := M.last + 1) h hc'
  refine Moved.mk (hh ?_ ?_ ?_ ?_ rfl (by omega) ?_ ?_)
  · exact mdV_set 19 _ h.k (fun o => World.cell?_of_block (hc1.block mb hlt hneM)) (by omega) rfl
  · intro o
    rw [World.frozen?_setCell]
    exact (hc1.frozen (p := ⟨mb, o, none⟩) hlt hneM).trans (h.fz o)
  · exact rowA_chg hcS hown (fun y hy e => hne3 (e ▸ hy))
  · refine ⟨nc 0 _ rfl, nc 1 _ rfl, nc 2 _ rfl, nc 3 _ rfl, nc 4 _ rfl, nc 5 _ rfl, nc 6 _ rfl, nc 7 _ rfl, nc 8 _ rfl, nc 9 _ rfl, nc 10 _ rfl, nc 11 _ rfl, nc 12 _ rfl, fun o => (hcA'.frozen (p := ⟨w1.heap.size + 1, o, none⟩) (by simp) hnT).trans (by
      have := frozen_new (w1.alloc (.cells #[.int .i64 p.source, .int .i64 p.second, .int .i64 p.ty, .int .i64 p.secondTy, .int .i64 p.first, .int .i64 p.secondFirst] 102)) #[.int .i64 p.source, .bool false, .slice none 0 0, .int .i64 (M.last + 1), .int .i64 of_, .int .i64 p.source, .int .i64 p.second, .int .i64 p.ty, .int .i64 p.secondTy, .int .i64 p.first, .int .i64 p.secondFirst, .int .u16 0, .int .u16 n] 165 o
      rw [hsA] at this
      exact this), World.ownsRow_nil _ _ _ _, by omega, fun k hk => (by cases hk), fun e => e, fun _ _ e => e⟩
  · intro b hb
    rcases hob with e | e
    · rw [e] at hb
      have := hobl b hb
      exact ⟨.inl hb, by omega⟩
    · rw [e, hsz] at hb
      cases hb
      exact ⟨.inr (by omega), by omega⟩
  · intro y hy
    have h1 := hids y hy
    show y.id.toNat ≠ (M.last + 1).toNat
    omega
end Pk
open Pk

set_option maxRecDepth 20000 in
set_option maxHeartbeats 1000000 in
theorem addWant_any (ρ : Nat → Nat) (mb : Nat) (M : Md) (sv wv : Value) (SB WB : List (Nat × Value)) (of_ : Int) (p : Plan) (w : World) (h : MdAt w ρ mb M sv wv SB WB) (h8 : M.wns.length ≤ 8) (hids : ∀ y ∈ M.wns, 0 < y.id ∧ y.id ≤ M.last) (hlast : 0 ≤ M.last) (hlast2 : M.last ≤ 1000000000000) :
    Calls Try.prog 52 #[.pointer (some ⟨mb, 0, none⟩), .int .i64 of_, .agg #[.int .i64 p.source, .int .i64 p.second, .int .i64 p.ty, .int .i64 p.secondTy, .int .i64 p.first, .int .i64 p.secondFirst]] w fun e w' => e = .returned (.tuple #[.int .i64 (addWM M of_ p).2.1, .int .i64 (addWM M of_ p).2.2]) ∧ Moved w w' ρ mb (addWM M of_ p).1 := by
  obtain ⟨ao, cap, rfl⟩ := rowA_shape h.wr
  have H : Hid (MdAt w ρ mb M sv (.slice ao WB.length cap) SB WB) := h
  have Hids : Hid (∀ y ∈ M.wns, 0 < y.id ∧ y.id ≤ M.last) := hids
  have hlt := h.lt
  have hbx : mb ≠ w.heap.size := by omega
  clear h hids
  go_enter Try.func52, Try.ntmps52
  go_wp2_with fail
  refine (orNone_any mb _).mono ?_
  rintro e w1 ⟨rfl, hw1⟩
  rw [hw1]
  clear hw1
  have Hb0 : Hid (Below w.heap.size w (w.alloc (.cells #[.int .i64 p.source, .int .i64 p.second, .int .i64 p.ty, .int .i64 p.secondTy, .int .i64 p.first, .int .i64 p.secondFirst] 102))) := (Below.refl _ _).alloc (Nat.le_refl _) _
  have H0 : Hid (MdAt (w.alloc (.cells #[.int .i64 p.source, .int .i64 p.second, .int .i64 p.ty, .int .i64 p.secondTy, .int .i64 p.first, .int .i64 p.secondFirst] 102)) ρ mb M sv (.slice ao WB.length cap) SB WB) := H.out.below Hb0.out
  have HP0 : Hid (PlAt w.heap.size p (w.alloc (.cells #[.int .i64 p.source, .int .i64 p.second, .int .i64 p.ty, .int .i64 p.secondTy, .int .i64 p.first, .int .i64 p.secondFirst] 102))) := ⟨cell_new _ _ _ 0, cell_new _ _ _ 1, cell_new _ _ _ 2, cell_new _ _ _ 3, cell_new _ _ _ 4, cell_new _ _ _ 5⟩
  generalize w.alloc (.cells #[.int .i64 p.source, .int .i64 p.second, .int .i64 p.ty, .int .i64 p.secondTy, .int .i64 p.first, .int .i64 p.secondFirst] 102) = wA at *
  go_wp2_with fail
  refine (sender_any ρ mb M sv _ SB WB of_ _ H0.out).mono ?_
  rintro e w1 ⟨hw1, ⟨hn, rfl⟩ | ⟨i, pp, s, hi, h1, h2, h3, rfl⟩⟩
  · rw [hw1]
    have HA : Hid (addWM M of_ p = (M, 0, 4)) := by show _ = _; unfold addWM; rw [if_pos hn]
    clear hn hw1
    go_wp2
    go_ret2
    rw [HA.out]
    exact ⟨rfl, Moved.same H.out Hb0.out⟩
  rw [hw1]
  have Hsn : Hid (¬ sndPos M of_ = none) := fun e => by rw [hi] at e; cases e
  unfold ptr
  clear hi h1 h2 h3 hw1
  obtain ⟨q0, q1, q2, q3, q4, q5⟩ := HP0.out
  go_wp2_with fail
  refine (wantFits_any p _).mono ?_
  rintro e w1 ⟨rfl, hb1⟩
  have Hb1 : Hid (Below w.heap.size w w1) := Hb0.out.trans (hb1.mono Hb0.out.size)
  have H1 : Hid (MdAt w1 ρ mb M sv (.slice ao WB.length cap) SB WB) := H0.out.below hb1
  have HP1 : Hid (PlAt w.heap.size p w1) := PlAt.below HP0.out hb1
  clear hb1 H0 HP0 Hb0 q0 q1 q2 q3 q4 q5
  cases hpl : plOk p with
  | false =>
    have HA : Hid (addWM M of_ p = (M, 0, 2)) := by show _ = _; unfold addWM; rw [if_neg Hsn.out, if_pos hpl]
    clear hpl
    go_wp2
    go_ret2
    rw [HA.out]
    exact ⟨rfl, Moved.same H.out Hb1.out⟩
  | true =>
  have Hpl : Hid (plOk p = true) := hpl
  obtain ⟨n, hn0, hn⟩ : ∃ n : Nat, p.secondFirst = n ∧ n < 65536 := by
    unfold plOk at hpl
    have h := of_decide_eq_true hpl
    exact ⟨p.secondFirst.toNat, by omega, by omega⟩
  have Hn : Hid (p.secondFirst.toNat = n) := by show _ = _; omega
  have Hn0 : Hid (p.secondFirst = n) := hn0
  clear hpl hn0
  obtain ⟨q0, q1, -⟩ := HP1.out
  go_wp2_with fail
  refine (knows_any ρ mb M _ _ SB WB p.source _ H1.out h8).mono ?_
  rintro e w2 ⟨rfl, hb2⟩
  have Hb2 : Hid (Below w.heap.size w w2) := Hb1.out.trans (hb2.mono Hb1.out.size)
  have H2 : Hid (MdAt w2 ρ mb M sv (.slice ao WB.length cap) SB WB) := H1.out.below hb2
  have HP2 : Hid (PlAt w.heap.size p w2) := PlAt.below HP1.out hb2
  clear hb2 H1 HP1 Hb1 q0 q1
  cases hk : knowsF M p.source with
  | true =>
    have HA : Hid (addWM M of_ p = (M, 0, 3)) := by show _ = _; unfold addWM; rw [if_neg Hsn.out, if_neg (by rw [Hpl.out]; decide), if_pos (by rw [hk]; rfl)]
    clear hk
    go_wp2
    go_ret2
    rw [HA.out]
    exact ⟨rfl, Moved.same H.out Hb2.out⟩
  | false =>
  have Hk1 : Hid (knowsF M p.source = false) := hk
  clear hk
  obtain ⟨q0, q1, -⟩ := HP2.out
  go_wp2_with fail
  refine (knows_any ρ mb M _ _ SB WB p.second _ H2.out h8).mono ?_
  rintro e w3 ⟨rfl, hb3⟩
  have Hb3 : Hid (Below w.heap.size w w3) := Hb2.out.trans (hb3.mono Hb2.out.size)
  have H3' : Hid (MdAt w3 ρ mb M sv (.slice ao WB.length cap) SB WB) := H2.out.below hb3
  have HP3 : Hid (PlAt w.heap.size p w3) := PlAt.below HP2.out hb3
  clear hb3 H2 HP2 Hb2 q0 q1
  cases hk : knowsF M p.second with
  | true =>
    have HA : Hid (addWM M of_ p = (M, 0, 3)) := by show _ = _; unfold addWM; rw [if_neg Hsn.out, if_neg (by rw [Hpl.out]; decide), if_pos (by rw [hk, Hk1.out]; rfl)]
    clear hk
    go_wp2
    go_ret2
    rw [HA.out]
    exact ⟨rfl, Moved.same H.out Hb3.out⟩
  | false =>
  have y19 : w3.cell? ⟨mb, 19, none⟩ = some (.slice ao WB.length cap) := H3'.out.k 19 _ rfl
  by_cases h4 : 8 ≤ WB.length
  · have h4' : (8 : Int) ≤ WB.length := by omega
    have HA : Hid (addWM M of_ p = (M, 0, 5)) := by show _ = _; unfold addWM; rw [if_neg Hsn.out, if_neg (by rw [Hpl.out]; decide), if_neg (by rw [hk, Hk1.out]; decide), if_pos (by rw [← H.out.wl]; exact h4)]
    clear hk
    go_wp2
    go_ret2
    rw [HA.out]
    exact ⟨rfl, Moved.same H.out Hb3.out⟩
  have h4' : ¬ (8 : Int) ≤ WB.length := by omega
  have HA : Hid (addWM M of_ p = ({ M with wns := M.wns ++ [newW (M.last + 1) of_ p n], last := M.last + 1 }, M.last + 1, 0)) := by show _ = _; unfold addWM; rw [if_neg Hsn.out, if_neg (by rw [Hpl.out]; decide), if_neg (by rw [hk, Hk1.out]; decide), if_neg (by rw [← H.out.wl]; exact h4), Hn.out]
  clear hk
  obtain ⟨i0, hi0, hz0, hz1, hz2⟩ := info_parts infoW
  have Hi : Hid (Try.prog.info? 141 = some i0 ∧ i0.zero = _ ∧ i0.size = 1 ∧ i0.bytes = 8) := ⟨hi0, hz0, hz1, hz2⟩
  clear hi0 hz0 hz1 hz2
  have hw1 : IntKind.i64.wrap (M.last + 1) = M.last + 1 := i64_id _ (by omega) (by omega)
  have y20 : w3.cell? ⟨mb, 20, none⟩ = some (.int .i64 M.last) := H3'.out.k 20 _ rfl
  have yf0 : ∀ o, w3.frozen? ⟨mb, o, none⟩ = false := H3'.out.fz
  have hcm : Chg (fun b => b = mb) w3 (w3.setCell ⟨mb, 20, none⟩ (.int .i64 (M.last + 1))) := (Chg.refl (fun b => b = mb) _).setCell ⟨mb, 20, none⟩ (.inl rfl) _
  have HM0 : Hid (Chg (fun b => ρ b ≠ 0) w3 (w3.setCell ⟨mb, 20, none⟩ (.int .i64 (M.last + 1)))) := hcm.mono (fun y _ e => by rw [e, H3'.out.rm]; decide)
  have H3 : Hid (MdAt (w3.setCell ⟨mb, 20, none⟩ (.int .i64 (M.last + 1))) ρ mb { M with last := M.last + 1 } sv (.slice ao WB.length cap) SB WB) := H3'.out.own hcm (mdV_set 20 _ H3'.out.k (fun _ => rfl) (by omega) rfl) (fun o => by rw [World.frozen?_setCell]; exact yf0 o) rfl rfl rfl rfl
  have HP4 : Hid (PlAt w.heap.size p (w3.setCell ⟨mb, 20, none⟩ (.int .i64 (M.last + 1)))) := PlAt.chg HP3.out hcm (fun e => hbx e.symm)
  have hs1 : mb < (w3.setCell ⟨mb, 20, none⟩ (.int .i64 (M.last + 1))).heap.size := H3.out.lt
  clear hcm
  go_wp2
  have HS : Hid (PlS mb w.heap.size (M.last + 1) p (w3.setCell ⟨mb, 20, none⟩ (.int .i64 (M.last + 1)))) := ⟨H3.out.k 20 _ rfl, HP4.out⟩
  have hneM : (Value.slice ao WB.length cap).ownBlock ≠ some mb := fun e => by have := H3.out.rw mb e; rw [H3.out.rm] at this; cases this
  have hneB : (Value.slice ao WB.length cap).ownBlock ≠ some w.heap.size := fun e => by have := (H.out.wr.lt _ e).2; omega
  clear y19 y20 yf0
  have y19 : (w3.setCell ⟨mb, 20, none⟩ (.int .i64 (M.last + 1))).cell? ⟨mb, 19, none⟩ = some (.slice ao WB.length cap) := H3.out.k 19 _ rfl
  have yf : ∀ o, (w3.setCell ⟨mb, 20, none⟩ (.int .i64 (M.last + 1))).frozen? ⟨mb, o, none⟩ = false := H3.out.fz
  clear H3' HP3 HP4
  generalize w3.setCell ⟨mb, 20, none⟩ (.int .i64 (M.last + 1)) = W0 at *
  refine wp_region_noPanic ?_
  refine wp_region_held_drew (S := PlS mb w.heap.size (M.last + 1) p) (by kernel_rfl) HS.out (fun hHeld => ?_)
  refine wpAnyH_take (i := 0) (v := ?vt1) rfl (by kernel_rfl) (by kernel_rfl) (by kernel_rfl) (fun _ _ _ h => h) (Or.inl ⟨by rfl, ?yt1⟩) hHeld ?rt1
  case yt1 => ((intro W hSw; obtain ⟨hS0, hS1, hS2, hS3, hS4, hS5, hS6⟩ := hSw; go_simp) <;> with_reducible rfl)
  try simp only [Act.put]
  try simp only [List.getElem_toArray]
  try simp only [List.getElem_cons_succ]
  try simp only [List.getElem_cons_zero]
  try simp only [List.setIfInBounds_toArray]
  try simp only [List.set_cons_succ]
  try simp only [List.set_cons_zero]
  refine wpAnyH_take (i := 1) (v := ?vt2) rfl (by kernel_rfl) (by kernel_rfl) (by kernel_rfl) (fun _ _ _ h => h) (Or.inl ⟨by rfl, ?yt2⟩) hHeld ?rt2
  case yt2 => ((intro W hSw; obtain ⟨hS0, hS1, hS2, hS3, hS4, hS5, hS6⟩ := hSw; go_simp) <;> with_reducible rfl)
  try simp only [Act.put]
  try simp only [List.getElem_toArray]
  try simp only [List.getElem_cons_succ]
  try simp only [List.getElem_cons_zero]
  try simp only [List.setIfInBounds_toArray]
  try simp only [List.set_cons_succ]
  try simp only [List.set_cons_zero]
  refine wpAnyH_take (i := 2) (v := ?vt3) rfl (by kernel_rfl) (by kernel_rfl) (by kernel_rfl) (fun _ _ _ h => h) (Or.inl ⟨by rfl, ?yt3⟩) hHeld ?rt3
  case yt3 => ((intro W hSw; obtain ⟨hS0, hS1, hS2, hS3, hS4, hS5, hS6⟩ := hSw; go_simp) <;> with_reducible rfl)
  try simp only [Act.put]
  try simp only [List.getElem_toArray]
  try simp only [List.getElem_cons_succ]
  try simp only [List.getElem_cons_zero]
  try simp only [List.setIfInBounds_toArray]
  try simp only [List.set_cons_succ]
  try simp only [List.set_cons_zero]
  refine wpAnyH_take (i := 3) (v := ?vt4) rfl (by kernel_rfl) (by kernel_rfl) (by kernel_rfl) (fun _ _ _ h => h) (Or.inl ⟨by rfl, ?yt4⟩) hHeld ?rt4
  case yt4 => ((intro W hSw; obtain ⟨hS0, hS1, hS2, hS3, hS4, hS5, hS6⟩ := hSw; go_simp) <;> with_reducible rfl)
  try simp only [Act.put]
  try simp only [List.getElem_toArray]
  try simp only [List.getElem_cons_succ]
  try simp only [List.getElem_cons_zero]
  try simp only [List.setIfInBounds_toArray]
  try simp only [List.set_cons_succ]
  try simp only [List.set_cons_zero]
  refine wpAnyH_take (i := 5) (v := ?vt5) rfl (by kernel_rfl) (by kernel_rfl) (by kernel_rfl) (fun _ _ _ h => h) (Or.inl ⟨by rfl, ?yt5⟩) hHeld ?rt5
  case yt5 => ((intro W hSw; obtain ⟨hS0, hS1, hS2, hS3, hS4, hS5, hS6⟩ := hSw; go_simp) <;> with_reducible rfl)
  try simp only [Act.put]
  try simp only [List.getElem_toArray]
  try simp only [List.getElem_cons_succ]
  try simp only [List.getElem_cons_zero]
  try simp only [List.setIfInBounds_toArray]
  try simp only [List.set_cons_succ]
  try simp only [List.set_cons_zero]
  refine wpAnyH_take (i := 6) (v := ?vt6) rfl (by kernel_rfl) (by kernel_rfl) (by kernel_rfl) (fun _ _ _ h => h) (Or.inl ⟨by rfl, ?yt6⟩) hHeld ?rt6
  case yt6 => ((intro W hSw; obtain ⟨hS0, hS1, hS2, hS3, hS4, hS5, hS6⟩ := hSw; go_simp) <;> with_reducible rfl)
  try simp only [Act.put]
  try simp only [List.getElem_toArray]
  try simp only [List.getElem_cons_succ]
  try simp only [List.getElem_cons_zero]
  try simp only [List.setIfInBounds_toArray]
  try simp only [List.set_cons_succ]
  try simp only [List.set_cons_zero]
  refine wpAnyH_take (i := 7) (v := ?vt7) rfl (by kernel_rfl) (by kernel_rfl) (by kernel_rfl) (fun _ _ _ h => h) (Or.inl ⟨by rfl, ?yt7⟩) hHeld ?rt7
  case yt7 => ((intro W hSw; obtain ⟨hS0, hS1, hS2, hS3, hS4, hS5, hS6⟩ := hSw; go_simp) <;> with_reducible rfl)
  try simp only [Act.put]
  try simp only [List.getElem_toArray]
  try simp only [List.getElem_cons_succ]
  try simp only [List.getElem_cons_zero]
  try simp only [List.setIfInBounds_toArray]
  try simp only [List.set_cons_succ]
  try simp only [List.set_cons_zero]
  refine wpAnyH_take (i := 8) (v := ?vt8) rfl (by kernel_rfl) (by kernel_rfl) (by kernel_rfl) (fun _ _ _ h => h) (Or.inl ⟨by rfl, ?yt8⟩) hHeld ?rt8
  case yt8 => ((intro W hSw; obtain ⟨hS0, hS1, hS2, hS3, hS4, hS5, hS6⟩ := hSw; go_simp) <;> with_reducible rfl)
  try simp only [Act.put]
  try simp only [List.getElem_toArray]
  try simp only [List.getElem_cons_succ]
  try simp only [List.getElem_cons_zero]
  try simp only [List.setIfInBounds_toArray]
  try simp only [List.set_cons_succ]
  try simp only [List.set_cons_zero]
  refine wpAnyH_take (i := 9) (v := ?vt9) rfl (by kernel_rfl) (by kernel_rfl) (by kernel_rfl) (fun _ _ _ h => h) (Or.inl ⟨by rfl, ?yt9⟩) hHeld ?rt9
  case yt9 => ((intro W hSw; obtain ⟨hS0, hS1, hS2, hS3, hS4, hS5, hS6⟩ := hSw; go_simp) <;> with_reducible rfl)
  try simp only [Act.put]
  try simp only [List.getElem_toArray]
  try simp only [List.getElem_cons_succ]
  try simp only [List.getElem_cons_zero]
  try simp only [List.setIfInBounds_toArray]
  try simp only [List.set_cons_succ]
  try simp only [List.set_cons_zero]
  refine wpAnyH_take (i := 10) (v := ?vt10) rfl (by kernel_rfl) (by kernel_rfl) (by kernel_rfl) (fun _ _ _ h => h) (Or.inl ⟨by rfl, ?yt10⟩) hHeld ?rt10
  case yt10 => ((intro W hSw; obtain ⟨hS0, hS1, hS2, hS3, hS4, hS5, hS6⟩ := hSw; go_simp) <;> with_reducible rfl)
  try simp only [Act.put]
  try simp only [List.getElem_toArray]
  try simp only [List.getElem_cons_succ]
  try simp only [List.getElem_cons_zero]
  try simp only [List.setIfInBounds_toArray]
  try simp only [List.set_cons_succ]
  try simp only [List.set_cons_zero]
  refine wpAnyH_ready (rs := [4, 11]) (by kernel_rfl) (by simp) ?_
  refine AllReadyH.cons rfl (fun K hK => ?_) (AllReadyH.cons rfl (fun K hK => ?_) AllReadyH.nil)
  · go_simp
    refine hK.out _ _ hHeld (fun hHeld => ?_)
    clear hK K
    try simp only [Act.put]
    try simp only [List.getElem_toArray]
    try simp only [List.getElem_cons_succ]
    try simp only [List.getElem_cons_zero]
    try simp only [List.setIfInBounds_toArray]
    try simp only [List.set_cons_succ]
    try simp only [List.set_cons_zero]
    refine wpAnyH_ready (rs := [11]) (by kernel_rfl) (by simp) ?_
    refine AllReadyH.cons rfl (fun K hK => ?_) AllReadyH.nil
    go_simp
    refine (newWant_any (M.last + 1) of_ p n _ Hn0.out hn).mono ?_
    rintro e w2 ⟨rfl, hw2⟩
    rw [hw2]
    clear hw2
    unfold ptr
    go_simp
    refine hK.out _ _ (PlS.below hHeld (((Below.refl _ _).alloc (Nat.le_refl _) _).alloc (by simp) _)) (fun hHeld => ?_)
    clear hK K
    try simp only [Act.put]
    try simp only [List.getElem_toArray]
    try simp only [List.getElem_cons_succ]
    try simp only [List.getElem_cons_zero]
    try simp only [List.setIfInBounds_toArray]
    try simp only [List.set_cons_succ]
    try simp only [List.set_cons_zero]
    refine wpAnyH_ready (rs := [12]) (by kernel_rfl) (by simp) ?_
    refine AllReadyH.cons rfl (fun K hK => ?_) AllReadyH.nil
    go_simp
    refine hK.out _ _ (PlS.below hHeld ((Below.refl _ _).alloc (Nat.le_refl _) _)) (fun hHeld => ?_)
    clear hK K
    try simp only [Act.put]
    try simp only [List.getElem_toArray]
    try simp only [List.getElem_cons_succ]
    try simp only [List.getElem_cons_zero]
    try simp only [List.setIfInBounds_toArray]
    try simp only [List.set_cons_succ]
    try simp only [List.set_cons_zero]
    refine wpAnyH_ready (rs := [13]) (by kernel_rfl) (by simp) ?_
    refine AllReadyH.cons rfl (fun K hK => ?_) AllReadyH.nil
    rw [if_pos (by rfl)]
    refine wp_append_at (.tmp 48) (.tmp 56) 105 rfl (mb + 1) 141 i0 _ 1 8 Try.underlying105 Hi.out.1 Hi.out.2.1 Hi.out.2.2.1 Hi.out.2.2.2 rfl (by decide) (.slice ao WB.length cap) WB.length (WB.map fun p => ptr p.1) (by rfl) (World.ownsRow.drew (World.ownsRow.alloc (World.ownsRow.alloc (World.ownsRow.alloc H3.out.wr _) _) _)) _ 1 1 [ptr (W0.heap.size + 1)] (by rfl) rfl (cells_newAt _ [ptr (W0.heap.size + 1)] _ _ (by simp)) ?_ (by unfold maxLen; omega) (by omega) (by simp; omega) ?_
    · intro u hu
      simp at hu
      subst hu
      rfl
    intro v' w3 hown' hgrow hob
    obtain ⟨a3, c3, rfl⟩ := rowA_shape hown'
    have hc3 : Chg (fun x => (Value.slice ao WB.length cap).ownBlock = some x) W0 w3 := Chg.ofGrown (((((World.grownBy_alloc _ _ _).trans (World.grownBy_alloc _ _ _)).trans (World.grownBy_alloc _ _ _)).trans (World.grownBy_drewX _ _)).trans hgrow)
    have z19 : w3.cell? ⟨mb, 19, none⟩ = some (.slice ao WB.length cap) := hc3.cell y19 hneM
    have zS : PlS mb w.heap.size (M.last + 1) p w3 := PlS.chg HS.out hc3 hneM hneB
    have zf : ∀ o, w3.frozen? ⟨mb, o, none⟩ = false := fun o => (hc3.frozen (p := ⟨mb, o, none⟩) hs1 hneM).trans (yf o)
    have HM : Hid (Moved W0 (w3.setCell ⟨mb, 19, none⟩ (.slice a3 (WB.length + 1) c3)) ρ mb { M with wns := M.wns ++ [newW (M.last + 1) of_ p n], last := M.last + 1 }) := Moved.addW H3.out Hids.out hlast _ hgrow hown' hob
    refine hK.out _ _ zS (fun hHeld => ?_)
    clear hK K hown' hgrow hob hc3 y19 yf
    try simp only [Act.put]
    try simp only [List.getElem_toArray]
    try simp only [List.getElem_cons_succ]
    try simp only [List.getElem_cons_zero]
    try simp only [List.setIfInBounds_toArray]
    try simp only [List.set_cons_succ]
    try simp only [List.set_cons_zero]
    refine wpAnyH_take (i := 14) (v := ?vt11) rfl (by kernel_rfl) (by kernel_rfl) (by kernel_rfl) (fun _ _ _ h => h) (Or.inl ⟨by rfl, ?yt11⟩) hHeld ?rt11
    case yt11 => ((intro W hSw; go_simp) <;> with_reducible rfl)
    try simp only [Act.put]
    try simp only [List.getElem_toArray]
    try simp only [List.getElem_cons_succ]
    try simp only [List.getElem_cons_zero]
    try simp only [List.setIfInBounds_toArray]
    try simp only [List.set_cons_succ]
    try simp only [List.set_cons_zero]
    refine wpAnyH_take (i := 15) (v := ?vt12) rfl (by kernel_rfl) (by kernel_rfl) (by kernel_rfl) (fun _ _ _ h => h) (Or.inl ⟨by rfl, ?yt12⟩) hHeld ?rt12
    case yt12 => ((intro W hSw; go_simp) <;> with_reducible rfl)
    try simp only [Act.put]
    try simp only [List.getElem_toArray]
    try simp only [List.getElem_cons_succ]
    try simp only [List.getElem_cons_zero]
    try simp only [List.setIfInBounds_toArray]
    try simp only [List.set_cons_succ]
    try simp only [List.set_cons_zero]
    refine wpAnyH_ready (rs := [16]) (by kernel_rfl) (by simp) ?_
    refine AllReadyH.cons rfl (fun K hK => ?_) AllReadyH.nil
    go_simp
    have zS' : PlS mb w.heap.size (M.last + 1) p (w3.setCell ⟨mb, 19, none⟩ (.slice a3 (WB.length + 1) c3)) := PlS.set19 zS hbx _
    refine hK.out _ _ zS' (fun hHeld => ?_)
    clear hK K
    refine wpAnyH_done (by kernel_rfl) ?_ _
    refine NoPanic.normal ?_
    have z20 := zS'.1
    generalize hW4 : w3.setCell ⟨mb, 19, none⟩ (.slice a3 (WB.length + 1) c3) = W4 at *
    clear hW4 z19 zf zS zS'
    go_wp2
    go_ret2
    rw [HA.out]
    exact ⟨rfl, Moved.before Hb3.out (Moved.then0 HM0.out HM.out)⟩
  · go_simp
    refine (newWant_any (M.last + 1) of_ p n _ Hn0.out hn).mono ?_
    rintro e w2 ⟨rfl, hw2⟩
    rw [hw2]
    clear hw2
    unfold ptr
    go_simp
    refine hK.out _ _ (PlS.below hHeld (((Below.refl _ _).alloc (Nat.le_refl _) _).alloc (by simp) _)) (fun hHeld => ?_)
    clear hK K
    try simp only [Act.put]
    try simp only [List.getElem_toArray]
    try simp only [List.getElem_cons_succ]
    try simp only [List.getElem_cons_zero]
    try simp only [List.setIfInBounds_toArray]
    try simp only [List.set_cons_succ]
    try simp only [List.set_cons_zero]
    refine wpAnyH_ready (rs := [4, 12]) (by kernel_rfl) (by simp) ?_
    refine AllReadyH.cons rfl (fun K hK => ?_) (AllReadyH.cons rfl (fun K hK => ?_) AllReadyH.nil)
    · go_simp
      refine hK.out _ _ hHeld (fun hHeld => ?_)
      clear hK K
      try simp only [Act.put]
      try simp only [List.getElem_toArray]
      try simp only [List.getElem_cons_succ]
      try simp only [List.getElem_cons_zero]
      try simp only [List.setIfInBounds_toArray]
      try simp only [List.set_cons_succ]
      try simp only [List.set_cons_zero]
      refine wpAnyH_ready (rs := [12]) (by kernel_rfl) (by simp) ?_
      refine AllReadyH.cons rfl (fun K hK => ?_) AllReadyH.nil
      go_simp
      refine hK.out _ _ (PlS.below hHeld ((Below.refl _ _).alloc (Nat.le_refl _) _)) (fun hHeld => ?_)
      clear hK K
      try simp only [Act.put]
      try simp only [List.getElem_toArray]
      try simp only [List.getElem_cons_succ]
      try simp only [List.getElem_cons_zero]
      try simp only [List.setIfInBounds_toArray]
      try simp only [List.set_cons_succ]
      try simp only [List.set_cons_zero]
      refine wpAnyH_ready (rs := [13]) (by kernel_rfl) (by simp) ?_
      refine AllReadyH.cons rfl (fun K hK => ?_) AllReadyH.nil
      rw [if_pos (by rfl)]
      refine wp_append_at (.tmp 48) (.tmp 56) 105 rfl (mb + 1) 141 i0 _ 1 8 Try.underlying105 Hi.out.1 Hi.out.2.1 Hi.out.2.2.1 Hi.out.2.2.2 rfl (by decide) (.slice ao WB.length cap) WB.length (WB.map fun p => ptr p.1) (by rfl) (World.ownsRow.drew (World.ownsRow.alloc (World.ownsRow.alloc (World.ownsRow.alloc H3.out.wr _) _) _)) _ 1 1 [ptr (W0.heap.size + 1)] (by rfl) rfl (cells_newAt _ [ptr (W0.heap.size + 1)] _ _ (by simp)) ?_ (by unfold maxLen; omega) (by omega) (by simp; omega) ?_
      · intro u hu
        simp at hu
        subst hu
        rfl
      intro v' w3 hown' hgrow hob
      obtain ⟨a3, c3, rfl⟩ := rowA_shape hown'
      have hc3 : Chg (fun x => (Value.slice ao WB.length cap).ownBlock = some x) W0 w3 := Chg.ofGrown (((((World.grownBy_alloc _ _ _).trans (World.grownBy_alloc _ _ _)).trans (World.grownBy_alloc _ _ _)).trans (World.grownBy_drewX _ _)).trans hgrow)
      have z19 : w3.cell? ⟨mb, 19, none⟩ = some (.slice ao WB.length cap) := hc3.cell y19 hneM
      have zS : PlS mb w.heap.size (M.last + 1) p w3 := PlS.chg HS.out hc3 hneM hneB
      have zf : ∀ o, w3.frozen? ⟨mb, o, none⟩ = false := fun o => (hc3.frozen (p := ⟨mb, o, none⟩) hs1 hneM).trans (yf o)
      have HM : Hid (Moved W0 (w3.setCell ⟨mb, 19, none⟩ (.slice a3 (WB.length + 1) c3)) ρ mb { M with wns := M.wns ++ [newW (M.last + 1) of_ p n], last := M.last + 1 }) := Moved.addW H3.out Hids.out hlast _ hgrow hown' hob
      refine hK.out _ _ zS (fun hHeld => ?_)
      clear hK K hown' hgrow hob hc3 y19 yf
      try simp only [Act.put]
      try simp only [List.getElem_toArray]
      try simp only [List.getElem_cons_succ]
      try simp only [List.getElem_cons_zero]
      try simp only [List.setIfInBounds_toArray]
      try simp only [List.set_cons_succ]
      try simp only [List.set_cons_zero]
      refine wpAnyH_take (i := 14) (v := ?vt13) rfl (by kernel_rfl) (by kernel_rfl) (by kernel_rfl) (fun _ _ _ h => h) (Or.inl ⟨by rfl, ?yt13⟩) hHeld ?rt13
      case yt13 => ((intro W hSw; go_simp) <;> with_reducible rfl)
      try simp only [Act.put]
      try simp only [List.getElem_toArray]
      try simp only [List.getElem_cons_succ]
      try simp only [List.getElem_cons_zero]
      try simp only [List.setIfInBounds_toArray]
      try simp only [List.set_cons_succ]
      try simp only [List.set_cons_zero]
      refine wpAnyH_take (i := 15) (v := ?vt14) rfl (by kernel_rfl) (by kernel_rfl) (by kernel_rfl) (fun _ _ _ h => h) (Or.inl ⟨by rfl, ?yt14⟩) hHeld ?rt14
      case yt14 => ((intro W hSw; go_simp) <;> with_reducible rfl)
      try simp only [Act.put]
      try simp only [List.getElem_toArray]
      try simp only [List.getElem_cons_succ]
      try simp only [List.getElem_cons_zero]
      try simp only [List.setIfInBounds_toArray]
      try simp only [List.set_cons_succ]
      try simp only [List.set_cons_zero]
      refine wpAnyH_ready (rs := [16]) (by kernel_rfl) (by simp) ?_
      refine AllReadyH.cons rfl (fun K hK => ?_) AllReadyH.nil
      go_simp
      have zS' : PlS mb w.heap.size (M.last + 1) p (w3.setCell ⟨mb, 19, none⟩ (.slice a3 (WB.length + 1) c3)) := PlS.set19 zS hbx _
      refine hK.out _ _ zS' (fun hHeld => ?_)
      clear hK K
      refine wpAnyH_done (by kernel_rfl) ?_ _
      refine NoPanic.normal ?_
      have z20 := zS'.1
      generalize hW4 : w3.setCell ⟨mb, 19, none⟩ (.slice a3 (WB.length + 1) c3) = W4 at *
      clear hW4 z19 zf zS zS'
      go_wp2
      go_ret2
      rw [HA.out]
      exact ⟨rfl, Moved.before Hb3.out (Moved.then0 HM0.out HM.out)⟩
    · go_simp
      refine hK.out _ _ (PlS.below hHeld ((Below.refl _ _).alloc (Nat.le_refl _) _)) (fun hHeld => ?_)
      clear hK K
      try simp only [Act.put]
      try simp only [List.getElem_toArray]
      try simp only [List.getElem_cons_succ]
      try simp only [List.getElem_cons_zero]
      try simp only [List.setIfInBounds_toArray]
      try simp only [List.set_cons_succ]
      try simp only [List.set_cons_zero]
      refine wpAnyH_ready (rs := [4]) (by kernel_rfl) (by simp) ?_
      refine AllReadyH.cons rfl (fun K hK => ?_) AllReadyH.nil
      have y19c : ∀ o1 o2 o3, (((W0.alloc o1).alloc o2).alloc o3).cell? ⟨mb, 19, none⟩ = some (.slice ao WB.length cap) := fun o1 o2 o3 => (World.cell?_alloc_lt _ _ _ (by simp; omega)).trans ((World.cell?_alloc_lt _ _ _ (by simp; omega)).trans ((World.cell?_alloc_lt _ _ _ hs1).trans y19))
      go_simp
      refine hK.out _ _ hHeld (fun hHeld => ?_)
      clear hK K
      try simp only [Act.put]
      try simp only [List.getElem_toArray]
      try simp only [List.getElem_cons_succ]
      try simp only [List.getElem_cons_zero]
      try simp only [List.setIfInBounds_toArray]
      try simp only [List.set_cons_succ]
      try simp only [List.set_cons_zero]
      clear y19c
      refine wpAnyH_ready (rs := [13]) (by kernel_rfl) (by simp) ?_
      refine AllReadyH.cons rfl (fun K hK => ?_) AllReadyH.nil
      rw [if_pos (by rfl)]
      refine wp_append_at (.tmp 48) (.tmp 56) 105 rfl (mb + 1) 141 i0 _ 1 8 Try.underlying105 Hi.out.1 Hi.out.2.1 Hi.out.2.2.1 Hi.out.2.2.2 rfl (by decide) (.slice ao WB.length cap) WB.length (WB.map fun p => ptr p.1) (by rfl) (World.ownsRow.drew (World.ownsRow.alloc (World.ownsRow.alloc (World.ownsRow.alloc H3.out.wr _) _) _)) _ 1 1 [ptr (W0.heap.size + 1)] (by rfl) rfl (cells_newAt _ [ptr (W0.heap.size + 1)] _ _ (by simp)) ?_ (by unfold maxLen; omega) (by omega) (by simp; omega) ?_
      · intro u hu
        simp at hu
        subst hu
        rfl
      intro v' w3 hown' hgrow hob
      obtain ⟨a3, c3, rfl⟩ := rowA_shape hown'
      have hc3 : Chg (fun x => (Value.slice ao WB.length cap).ownBlock = some x) W0 w3 := Chg.ofGrown (((((World.grownBy_alloc _ _ _).trans (World.grownBy_alloc _ _ _)).trans (World.grownBy_alloc _ _ _)).trans (World.grownBy_drewX _ _)).trans hgrow)
      have z19 : w3.cell? ⟨mb, 19, none⟩ = some (.slice ao WB.length cap) := hc3.cell y19 hneM
      have zS : PlS mb w.heap.size (M.last + 1) p w3 := PlS.chg HS.out hc3 hneM hneB
      have zf : ∀ o, w3.frozen? ⟨mb, o, none⟩ = false := fun o => (hc3.frozen (p := ⟨mb, o, none⟩) hs1 hneM).trans (yf o)
      have HM : Hid (Moved W0 (w3.setCell ⟨mb, 19, none⟩ (.slice a3 (WB.length + 1) c3)) ρ mb { M with wns := M.wns ++ [newW (M.last + 1) of_ p n], last := M.last + 1 }) := Moved.addW H3.out Hids.out hlast _ hgrow hown' hob
      refine hK.out _ _ zS (fun hHeld => ?_)
      clear hK K hown' hgrow hob hc3 y19 yf
      try simp only [Act.put]
      try simp only [List.getElem_toArray]
      try simp only [List.getElem_cons_succ]
      try simp only [List.getElem_cons_zero]
      try simp only [List.setIfInBounds_toArray]
      try simp only [List.set_cons_succ]
      try simp only [List.set_cons_zero]
      refine wpAnyH_take (i := 14) (v := ?vt15) rfl (by kernel_rfl) (by kernel_rfl) (by kernel_rfl) (fun _ _ _ h => h) (Or.inl ⟨by rfl, ?yt15⟩) hHeld ?rt15
      case yt15 => ((intro W hSw; go_simp) <;> with_reducible rfl)
      try simp only [Act.put]
      try simp only [List.getElem_toArray]
      try simp only [List.getElem_cons_succ]
      try simp only [List.getElem_cons_zero]
      try simp only [List.setIfInBounds_toArray]
      try simp only [List.set_cons_succ]
      try simp only [List.set_cons_zero]
      refine wpAnyH_take (i := 15) (v := ?vt16) rfl (by kernel_rfl) (by kernel_rfl) (by kernel_rfl) (fun _ _ _ h => h) (Or.inl ⟨by rfl, ?yt16⟩) hHeld ?rt16
      case yt16 => ((intro W hSw; go_simp) <;> with_reducible rfl)
      try simp only [Act.put]
      try simp only [List.getElem_toArray]
      try simp only [List.getElem_cons_succ]
      try simp only [List.getElem_cons_zero]
      try simp only [List.setIfInBounds_toArray]
      try simp only [List.set_cons_succ]
      try simp only [List.set_cons_zero]
      refine wpAnyH_ready (rs := [16]) (by kernel_rfl) (by simp) ?_
      refine AllReadyH.cons rfl (fun K hK => ?_) AllReadyH.nil
      go_simp
      have zS' : PlS mb w.heap.size (M.last + 1) p (w3.setCell ⟨mb, 19, none⟩ (.slice a3 (WB.length + 1) c3)) := PlS.set19 zS hbx _
      refine hK.out _ _ zS' (fun hHeld => ?_)
      clear hK K
      refine wpAnyH_done (by kernel_rfl) ?_ _
      refine NoPanic.normal ?_
      have z20 := zS'.1
      generalize hW4 : w3.setCell ⟨mb, 19, none⟩ (.slice a3 (WB.length + 1) c3) = W4 at *
      clear hW4 z19 zf zS zS'
      go_wp2
      go_ret2
      rw [HA.out]
      exact ⟨rfl, Moved.before Hb3.out (Moved.then0 HM0.out HM.out)⟩

end Go.Proofs.Ytdjhhnolcafkiaa
