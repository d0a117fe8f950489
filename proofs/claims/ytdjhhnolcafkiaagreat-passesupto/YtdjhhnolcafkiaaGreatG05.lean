/- (*Want).Pass. -/
import Derived.Test.YtdjhhnolcafkiaaGreatG01
import Derived.Test.YtdjhhnolcafkiaaGreatG04
import Derived.Deep.RegionHeld
import Derived.Outline
import Derived.Deep.QuietTactic
import Derived.BigQuiet
namespace Go.Proofs.YtdjhhnolcafkiaaGreat
open Go.RowKit
namespace Pk
theorem u16_id (n : Nat) (h : n < 65536) : IntKind.u16.wrap (n : Int) = (n : Int) := by simp [IntKind.wrap, IntKind.signed, IntKind.bits]; omega
theorem u16_add (a b : Nat) : IntKind.u16.wrap ((a : Int) + (b : Int)) = (((a + b) % 65536 : Nat) : Int) := by simp [IntKind.wrap, IntKind.signed, IntKind.bits]
/-- the packet's box, and the answer's -/
structure Bx2 (s : Nat) (W : World) (mk ex : Bool) (ty n ti so pr pa : Int) (cv : Value) (en py : ByteArray) : Prop where
  q0 : W.cell? ⟨s, 0, none⟩ = some (.bool mk)
  q1 : W.cell? ⟨s, 1, none⟩ = some (.int .i64 ty)
  q2 : W.cell? ⟨s, 2, none⟩ = some (.int .i64 n)
  q3 : W.cell? ⟨s, 3, none⟩ = some (.int .i64 ti)
  q4 : W.cell? ⟨s, 4, none⟩ = some (.int .i64 so)
  q5 : W.cell? ⟨s, 5, none⟩ = some (cv)
  q6 : W.cell? ⟨s, 6, none⟩ = some (.bool ex)
  q7 : W.cell? ⟨s, 7, none⟩ = some (.int .i64 pr)
  q8 : W.cell? ⟨s, 8, none⟩ = some (.string en)
  q9 : W.cell? ⟨s, 9, none⟩ = some (.string py)
  q10 : W.cell? ⟨s, 10, none⟩ = some (.int .i64 pa)
  z0 : W.cell? ⟨s + 1, 0, none⟩ = some (.bool false)
  z1 : W.cell? ⟨s + 1, 1, none⟩ = some (.int .i64 0)
  z2 : W.cell? ⟨s + 1, 2, none⟩ = some (.int .i64 0)
  z3 : W.cell? ⟨s + 1, 3, none⟩ = some (.int .i64 0)
  z4 : W.cell? ⟨s + 1, 4, none⟩ = some (.int .i64 0)
  z5 : W.cell? ⟨s + 1, 5, none⟩ = some (.slice none 0 0)
  z6 : W.cell? ⟨s + 1, 6, none⟩ = some (.bool false)
  z7 : W.cell? ⟨s + 1, 7, none⟩ = some (.int .i64 0)
  z8 : W.cell? ⟨s + 1, 8, none⟩ = some (.string ⟨#[]⟩)
  z9 : W.cell? ⟨s + 1, 9, none⟩ = some (.string ⟨#[]⟩)
  z10 : W.cell? ⟨s + 1, 10, none⟩ = some (.int .i64 0)
  f0 : ∀ o, W.frozen? ⟨s, o, none⟩ = false
  f1 : ∀ o, W.frozen? ⟨s + 1, o, none⟩ = false
theorem Bx2.chg {T : Nat → Prop} {s : Nat} {W W' : World} {mk ex : Bool} {ty n ti so pr pa : Int} {cv : Value} {en py : ByteArray} (h : Bx2 s W mk ex ty n ti so pr pa cv en py) (hc : Chg T W W') (h0 : ¬ T s) (h1 : ¬ T (s + 1)) : Bx2 s W' mk ex ty n ti so pr pa cv en py :=
  ⟨hc.cell h.q0 h0, hc.cell h.q1 h0, hc.cell h.q2 h0, hc.cell h.q3 h0, hc.cell h.q4 h0, hc.cell h.q5 h0, hc.cell h.q6 h0, hc.cell h.q7 h0, hc.cell h.q8 h0, hc.cell h.q9 h0, hc.cell h.q10 h0, hc.cell h.z0 h1, hc.cell h.z1 h1, hc.cell h.z2 h1, hc.cell h.z3 h1, hc.cell h.z4 h1, hc.cell h.z5 h1, hc.cell h.z6 h1, hc.cell h.z7 h1, hc.cell h.z8 h1, hc.cell h.z9 h1, hc.cell h.z10 h1, fun o => (hc.frozen (p := ⟨s, o, none⟩) (show s < W.heap.size from lt_of_cell h.q0) h0).trans (h.f0 o), fun o => (hc.frozen (p := ⟨s + 1, o, none⟩) (show s + 1 < W.heap.size from lt_of_cell h.z0) h1).trans (h.f1 o)⟩
theorem Bx2.init (w : World) (mk ex : Bool) (ty n ti so pr pa : Int) (cv : Value) (en py : ByteArray) : Bx2 w.heap.size ((w.alloc (.cells #[.bool mk, .int .i64 ty, .int .i64 n, .int .i64 ti, .int .i64 so, cv, .bool ex, .int .i64 pr, .string en, .string py, .int .i64 pa] 41)).alloc (.cells #[.bool false, .int .i64 0, .int .i64 0, .int .i64 0, .int .i64 0, .slice none 0 0, .bool false, .int .i64 0, .string ⟨#[]⟩, .string ⟨#[]⟩, .int .i64 0] 41)) mk ex ty n ti so pr pa cv en py := by
  have hs : (w.alloc (.cells #[.bool mk, .int .i64 ty, .int .i64 n, .int .i64 ti, .int .i64 so, cv, .bool ex, .int .i64 pr, .string en, .string py, .int .i64 pa] 41)).heap.size = w.heap.size + 1 := by simp
  have a : ∀ i u, (w.alloc (.cells #[.bool mk, .int .i64 ty, .int .i64 n, .int .i64 ti, .int .i64 so, cv, .bool ex, .int .i64 pr, .string en, .string py, .int .i64 pa] 41)).cell? ⟨w.heap.size, i, none⟩ = some u → ((w.alloc (.cells #[.bool mk, .int .i64 ty, .int .i64 n, .int .i64 ti, .int .i64 so, cv, .bool ex, .int .i64 pr, .string en, .string py, .int .i64 pa] 41)).alloc (.cells #[.bool false, .int .i64 0, .int .i64 0, .int .i64 0, .int .i64 0, .slice none 0 0, .bool false, .int .i64 0, .string ⟨#[]⟩, .string ⟨#[]⟩, .int .i64 0] 41)).cell? ⟨w.heap.size, i, none⟩ = some u := fun i u hu => (World.cell?_alloc_lt _ _ _ (by simp)).trans hu
  exact ⟨a 0 _ (cell_new _ _ _ 0), a 1 _ (cell_new _ _ _ 1), a 2 _ (cell_new _ _ _ 2), a 3 _ (cell_new _ _ _ 3), a 4 _ (cell_new _ _ _ 4), a 5 _ (cell_new _ _ _ 5), a 6 _ (cell_new _ _ _ 6), a 7 _ (cell_new _ _ _ 7), a 8 _ (cell_new _ _ _ 8), a 9 _ (cell_new _ _ _ 9), a 10 _ (cell_new _ _ _ 10), cell_newAt _ _ _ _ 0 hs, cell_newAt _ _ _ _ 1 hs, cell_newAt _ _ _ _ 2 hs, cell_newAt _ _ _ _ 3 hs, cell_newAt _ _ _ _ 4 hs, cell_newAt _ _ _ _ 5 hs, cell_newAt _ _ _ _ 6 hs, cell_newAt _ _ _ _ 7 hs, cell_newAt _ _ _ _ 8 hs, cell_newAt _ _ _ _ 9 hs, cell_newAt _ _ _ _ 10 hs, fun o => (((Below.refl _ _).alloc (Nat.le_refl _) _).frozen (p := ⟨w.heap.size, o, none⟩) (by simp)).trans (frozen_new _ _ _ o), fun o => frozen_newAt _ _ _ _ o hs⟩
/-- source, type and number are stored into the box -/
theorem Bx2.set {s : Nat} {W : World} {mk ex : Bool} {ty n ti so pr pa : Int} {cv : Value} {en py : ByteArray} (h : Bx2 s W mk ex ty n ti so pr pa cv en py) (ty' n' so' : Int) : Bx2 s (((W.setCell ⟨s, 4, none⟩ (.int .i64 so')).setCell ⟨s, 1, none⟩ (.int .i64 ty')).setCell ⟨s, 2, none⟩ (.int .i64 n')) mk ex ty' n' ti so' pr pa cv en py := by
  have hne : ∀ (W : World) (i j : Nat) (u : Value), i ≠ j → (W.setCell ⟨s, i, none⟩ u).cell? ⟨s, j, none⟩ = W.cell? ⟨s, j, none⟩ := fun W i j u h => World.cell?_setCell_other _ _ _ _ (fun e => h (by injection e))
  have hbe : ∀ (W : World) (i j : Nat) (u : Value), (W.setCell ⟨s, i, none⟩ u).cell? ⟨s + 1, j, none⟩ = W.cell? ⟨s + 1, j, none⟩ := fun W i j u => World.cell?_setCell_other _ _ _ _ (fun e => by injection e with e _ _; omega)
  have s4 : ∀ j u, j ≠ 4 → j ≠ 1 → j ≠ 2 → W.cell? ⟨s, j, none⟩ = some u → (((W.setCell ⟨s, 4, none⟩ (.int .i64 so')).setCell ⟨s, 1, none⟩ (.int .i64 ty')).setCell ⟨s, 2, none⟩ (.int .i64 n')).cell? ⟨s, j, none⟩ = some u := fun j u h4 h1 h2 hu => by
    rw [hne _ 2 j _ (Ne.symm h2), hne _ 1 j _ (Ne.symm h1), hne _ 4 j _ (Ne.symm h4)]; exact hu
  refine ⟨s4 0 _ (by omega) (by omega) (by omega) h.q0, ?_, ?_, s4 3 _ (by omega) (by omega) (by omega) h.q3, ?_, s4 5 _ (by omega) (by omega) (by omega) h.q5, s4 6 _ (by omega) (by omega) (by omega) h.q6, s4 7 _ (by omega) (by omega) (by omega) h.q7, s4 8 _ (by omega) (by omega) (by omega) h.q8, s4 9 _ (by omega) (by omega) (by omega) h.q9, s4 10 _ (by omega) (by omega) (by omega) h.q10, by rw [hbe, hbe, hbe]; exact h.z0, by rw [hbe, hbe, hbe]; exact h.z1, by rw [hbe, hbe, hbe]; exact h.z2, by rw [hbe, hbe, hbe]; exact h.z3, by rw [hbe, hbe, hbe]; exact h.z4, by rw [hbe, hbe, hbe]; exact h.z5, by rw [hbe, hbe, hbe]; exact h.z6, by rw [hbe, hbe, hbe]; exact h.z7, by rw [hbe, hbe, hbe]; exact h.z8, by rw [hbe, hbe, hbe]; exact h.z9, by rw [hbe, hbe, hbe]; exact h.z10, fun o => by rw [World.frozen?_setCell, World.frozen?_setCell, World.frozen?_setCell]; exact h.f0 o, fun o => by rw [World.frozen?_setCell, World.frozen?_setCell, World.frozen?_setCell]; exact h.f1 o⟩
  · rw [hne _ 2 1 _ (by omega)]
    exact World.cell?_setCell_same _ _ _ ((hne _ 4 1 _ (by omega)).trans h.q1)
  · exact World.cell?_setCell_same _ _ _ ((hne _ 1 2 _ (by omega)).trans ((hne _ 4 2 _ (by omega)).trans h.q2))
  · rw [hne _ 2 4 _ (by omega), hne _ 1 4 _ (by omega)]
    exact World.cell?_setCell_same _ _ _ h.q4

end Pk
open Pk

set_option maxRecDepth 20000 in
set_option maxHeartbeats 8000000 in
theorem pass_any (C : Nat → Prop) (base wb : Nat) (v : Value) (x : Wn) (mk ex : Bool) (ty ti so pr pa : Int) (n : Nat) (cv : Value) (cl : List Int) (en py : ByteArray) (ring : Nat) (w : World) (h : WnAt C w base wb v x) (hcv : IsC C w cv cl) (hC : ∀ b, C b → b < w.heap.size)
    (hn : n < 65536) (hf0 : 0 ≤ x.pl.first) (hf1 : x.pl.first ≤ 65535) (_hsh : x.shift < 65536) (hk : x.kept.length ≤ 90000) (hring : ring ≤ 1000) (hb : base ≤ w.heap.size) :
    Calls Tryz.prog 94 #[.pointer (some ⟨wb, 0, none⟩), .agg #[.bool mk, .int .i64 ty, .int .i64 n, .int .i64 ti, .int .i64 so, cv, .bool ex, .int .i64 pr, .string en, .string py, .int .i64 pa], .int .i64 ring] w fun e w' =>
      e = .returned (.agg #[.bool mk, .int .i64 x.pl.ty, .int .i64 (numOf x n : Nat), .int .i64 ti, .int .i64 x.src, cv, .bool ex, .int .i64 pr, .string en, .string py, .int .i64 pa]) ∧ ∃ v', WnAt C w' base wb v' (passW x ⟨mk, ex, ty, n, ti, so, pr, pa, cl, en, py⟩ cv ring) ∧ SdUp w w' wb v v' := by
  obtain ⟨fi, hfi⟩ := Int.eq_ofNat_of_zero_le hf0
  have hfl : fi < 65536 := by omega
  have H := Pk.hid h
  have HC := Pk.hid hC
  have Hcv := Pk.hid hcv
  have hwb := h.lt
  have e1 := u16_id n hn
  have e2 := u16_id fi hfl
  have e3 := steps_wrap fi n hn hfl
  have Hst : Hid (stepsTo fi n = (fi + 65536 - n) % 65536) := rfl
  have hstl := steps_lt fi n
  obtain ⟨acv, ccv, rfl, _⟩ := hcv
  obtain ⟨HBX, hbx⟩ : ∃ P : Prop, P = Bx2 w.heap.size ((w.alloc (.cells #[.bool mk, .int .i64 ty, .int .i64 n, .int .i64 ti, .int .i64 so, .slice acv cl.length ccv, .bool ex, .int .i64 pr, .string en, .string py, .int .i64 pa] 41)).alloc (.cells #[.bool false, .int .i64 0, .int .i64 0, .int .i64 0, .int .i64 0, .slice none 0 0, .bool false, .int .i64 0, .string ⟨#[]⟩, .string ⟨#[]⟩, .int .i64 0] 41)) mk ex ty n ti so pr pa (.slice acv cl.length ccv) en py := ⟨_, rfl⟩
  clear HBX hbx
  have B0 : Hid (Bx2 w.heap.size ((w.alloc (.cells #[.bool mk, .int .i64 ty, .int .i64 n, .int .i64 ti, .int .i64 so, .slice acv cl.length ccv, .bool ex, .int .i64 pr, .string en, .string py, .int .i64 pa] 41)).alloc (.cells #[.bool false, .int .i64 0, .int .i64 0, .int .i64 0, .int .i64 0, .slice none 0 0, .bool false, .int .i64 0, .string ⟨#[]⟩, .string ⟨#[]⟩, .int .i64 0] 41)) mk ex ty n ti so pr pa (.slice acv cl.length ccv) en py) := Bx2.init ..
  have WA : Hid (WnAt C ((w.alloc (.cells #[.bool mk, .int .i64 ty, .int .i64 n, .int .i64 ti, .int .i64 so, .slice acv cl.length ccv, .bool ex, .int .i64 pr, .string en, .string py, .int .i64 pa] 41)).alloc (.cells #[.bool false, .int .i64 0, .int .i64 0, .int .i64 0, .int .i64 0, .slice none 0 0, .bool false, .int .i64 0, .string ⟨#[]⟩, .string ⟨#[]⟩, .int .i64 0] 41)) base wb v x) := (h.below ((Below.refl _ _).alloc (Nat.le_refl _) _)).below ((Below.refl _ _).alloc (Nat.le_refl _) _)
  have U0 : Hid (Below w.heap.size w ((w.alloc (.cells #[.bool mk, .int .i64 ty, .int .i64 n, .int .i64 ti, .int .i64 so, .slice acv cl.length ccv, .bool ex, .int .i64 pr, .string en, .string py, .int .i64 pa] 41)).alloc (.cells #[.bool false, .int .i64 0, .int .i64 0, .int .i64 0, .int .i64 0, .slice none 0 0, .bool false, .int .i64 0, .string ⟨#[]⟩, .string ⟨#[]⟩, .int .i64 0] 41))) := ((Below.refl _ _).alloc (Nat.le_refl _) _).alloc (by simp) _
  have y0 := h.c0
  have y1 := h.c1
  have y7 := h.c7
  have y9 := h.c9
  have y11 := h.c11
  have yf := h.fz
  rw [hfi] at y9
  have hne0 : wb ≠ w.heap.size := by omega
  have hne1 : wb ≠ w.heap.size + 1 := by omega
  clear h hC hf0 hf1
  cases hbg : x.begun with
  | true =>
    rw [hbg] at y1
    have e4 := u16_add n x.shift
    obtain ⟨m, hm⟩ : ∃ m, m = (n + x.shift) % 65536 := ⟨_, rfl⟩
    have hmi : ((n : Int) + (x.shift : Int)) % 65536 = (m : Int) := by omega
    have Hm : Hid (numOf x n = m) := by show _ = _; unfold numOf shiftOf; rw [hbg, if_pos rfl, hm]
    have Hsh : Hid (shiftOf x n = x.shift) := by show _ = _; unfold shiftOf; rw [hbg, if_pos rfl]
    have hml : m < 65536 := by rw [hm]; exact Nat.mod_lt _ (by decide)
    have hmw : IntKind.i64.wrap (m : Int) = (m : Int) := wrapI64 _ (by omega) (by omega)
    clear hm
    go_enter Tryz.func94, Tryz.ntmps94
    go_wp2
    obtain ⟨W0, hW0⟩ : ∃ W0 : World, W0 = ((w.alloc (.cells #[.bool mk, .int .i64 ty, .int .i64 n, .int .i64 ti, .int .i64 so, .slice acv cl.length ccv, .bool ex, .int .i64 pr, .string en, .string py, .int .i64 pa] 41)).alloc (.cells #[.bool false, .int .i64 0, .int .i64 0, .int .i64 0, .int .i64 0, .slice none 0 0, .bool false, .int .i64 0, .string ⟨#[]⟩, .string ⟨#[]⟩, .int .i64 0] 41)) := ⟨_, rfl⟩
    rw [← hW0]
    have HB : Hid (Bx2 w.heap.size W0 mk ex ty n ti so pr pa (.slice acv cl.length ccv) en py) := by show Bx2 _ _ _ _ _ _ _ _ _ _ _ _ _; rw [hW0]; exact B0.out
    have HW : Hid (WnAt C W0 base wb v { x with begun := true, shift := shiftOf x n }) := by
      show WnAt _ _ _ _ _ _
      rw [hW0, Hsh.out]
      have := WA.out
      rw [show x = { x with begun := true } by rw [← hbg]] at this
      exact this
    have HU : Hid (SdUp w W0 wb v v) := by show SdUp _ _ _ _ _; rw [hW0]; exact SdUp.before U0.out (SdUp.refl _ _ _)
    clear hW0 B0 U0 WA y0 y1 y7 y9 y11 yf e4 hmi e1 e2 e3
    have hS0 := HW.out.c0
    have hS1 := HW.out.c7
    have g1 := HB.out.q1
    have g2 := HB.out.q2
    have g4 := HB.out.q4
    have gf := HB.out.f0
    have hnew : wb ≠ w.heap.size := hne0
    refine wp_region_noPanic ?_
    refine wp_region_held_drew (S := fun W => W.cell? ⟨wb, 0, none⟩ = some (.int .i64 x.src) ∧ W.cell? ⟨wb, 7, none⟩ = some (.int .i64 x.pl.ty)) (by kernel_rfl) ⟨hS0, hS1⟩ (fun hHeld => ?_)
    refine tkH 0 ?_ hHeld ?_ ?_; rotate_left
    · ((intro W hSw; obtain ⟨hS0, hS1⟩ := hSw; go_simp) <;> with_reducible rfl)
    refine tkH 1 ?_ hHeld ?_ ?_; rotate_left
    · ((intro W hSw; obtain ⟨hS0, hS1⟩ := hSw; go_simp) <;> with_reducible rfl)
    refine tkH 2 ?_ hHeld ?_ ?_; rotate_left
    · ((intro W hSw; obtain ⟨hS0, hS1⟩ := hSw; go_simp) <;> with_reducible rfl)
    refine tkH 3 ?_ hHeld ?_ ?_; rotate_left
    · ((intro W hSw; obtain ⟨hS0, hS1⟩ := hSw; go_simp) <;> with_reducible rfl)
    refine tkH 4 ?_ hHeld ?_ ?_; rotate_left
    · ((intro W hSw; obtain ⟨hS0, hS1⟩ := hSw; go_simp) <;> with_reducible rfl)
    refine tkH 5 ?_ hHeld ?_ ?_; rotate_left
    · ((intro W hSw; obtain ⟨hS0, hS1⟩ := hSw; go_simp) <;> with_reducible rfl)
    refine tkH 6 ?_ hHeld ?_ ?_; rotate_left
    · ((intro W hSw; obtain ⟨hS0, hS1⟩ := hSw; go_simp) <;> with_reducible rfl)
    refine tkH 7 ?_ hHeld ?_ ?_; rotate_left
    · ((intro W hSw; obtain ⟨hS0, hS1⟩ := hSw; go_simp) <;> with_reducible rfl)
    refine tkH 8 ?_ hHeld ?_ ?_; rotate_left
    · ((intro W hSw; obtain ⟨hS0, hS1⟩ := hSw; go_simp) <;> with_reducible rfl)
    refine tkH 9 ?_ hHeld ?_ ?_; rotate_left
    · ((intro W hSw; obtain ⟨hS0, hS1⟩ := hSw; go_simp) <;> with_reducible rfl)
    refine tkH 10 ?_ hHeld ?_ ?_; rotate_left
    · ((intro W hSw; obtain ⟨hS0, hS1⟩ := hSw; go_simp) <;> with_reducible rfl)
    refine tkH 11 ?_ hHeld ?_ ?_; rotate_left
    · ((intro W hSw; obtain ⟨hS0, hS1⟩ := hSw; go_simp) <;> with_reducible rfl)
    refine tkH 12 ?_ hHeld ?_ ?_; rotate_left
    · ((intro W hSw; obtain ⟨hS0, hS1⟩ := hSw; go_simp) <;> with_reducible rfl)
    refine wpAnyH_ready (rs := [13]) (by kernel_rfl) (by simp) ?_
    refine AllReadyH.cons rfl (fun K hK => ?_) AllReadyH.nil
    go_simp
    refine hK.out _ _ ⟨(World.cell?_setCell_other _ _ _ _ (fun e => hnew (by injection e with e _ _; exact e.symm))).trans hS0, (World.cell?_setCell_other _ _ _ _ (fun e => hnew (by injection e with e _ _; exact e.symm))).trans hS1⟩ (fun hHeld => ?_)
    clear hK K
    try simp only [Act.put]
    try simp only [List.getElem_toArray]
    try simp only [List.getElem_cons_succ]
    try simp only [List.getElem_cons_zero]
    try simp only [List.setIfInBounds_toArray]
    try simp only [List.set_cons_succ]
    try simp only [List.set_cons_zero]
    refine tkH 14 ?_ hHeld ?_ ?_; rotate_left
    · ((intro W hSw; obtain ⟨hS0, hS1⟩ := hSw; go_simp) <;> with_reducible rfl)
    refine wpAnyH_ready (rs := [15]) (by kernel_rfl) (by simp) ?_
    refine AllReadyH.cons rfl (fun K hK => ?_) AllReadyH.nil
    go_simp
    refine hK.out _ _ ⟨(World.cell?_setCell_other _ _ _ _ (fun e => hnew (by injection e with e _ _; exact e.symm))).trans hHeld.1, (World.cell?_setCell_other _ _ _ _ (fun e => hnew (by injection e with e _ _; exact e.symm))).trans hHeld.2⟩ (fun hHeld => ?_)
    clear hK K
    try simp only [Act.put]
    try simp only [List.getElem_toArray]
    try simp only [List.getElem_cons_succ]
    try simp only [List.getElem_cons_zero]
    try simp only [List.setIfInBounds_toArray]
    try simp only [List.set_cons_succ]
    try simp only [List.set_cons_zero]
    refine tkH 16 ?_ hHeld ?_ ?_; rotate_left
    · ((intro W hSw; obtain ⟨hS0, hS1⟩ := hSw; go_simp) <;> with_reducible rfl)
    refine wpAnyH_ready (rs := [17]) (by kernel_rfl) (by simp) ?_
    refine AllReadyH.cons rfl (fun K hK => ?_) AllReadyH.nil
    go_simp
    refine hK.out _ _ ⟨(World.cell?_setCell_other _ _ _ _ (fun e => hnew (by injection e with e _ _; exact e.symm))).trans hHeld.1, (World.cell?_setCell_other _ _ _ _ (fun e => hnew (by injection e with e _ _; exact e.symm))).trans hHeld.2⟩ (fun hHeld => ?_)
    clear hK K
    refine wpAnyH_done (by kernel_rfl) ?_ _
    refine NoPanic.normal ?_
    clear hS0 hS1 g1 g2 g4 gf hHeld
    obtain ⟨W1, hW1⟩ : ∃ W1 : World, W1 = (((W0.setCell ⟨w.heap.size, 4, none⟩ (.int .i64 x.src)).setCell ⟨w.heap.size, 1, none⟩ (.int .i64 x.pl.ty)).setCell ⟨w.heap.size, 2, none⟩ (.int .i64 (m : Int))) := ⟨_, rfl⟩
    have hCw : Chg (fun b => b = w.heap.size) W0 W1 := by
      rw [hW1]
      exact (((Chg.refl (fun b => b = w.heap.size) _).setCell ⟨w.heap.size, 4, none⟩ (.inl rfl) _).setCell ⟨w.heap.size, 1, none⟩ (.inl rfl) _).setCell ⟨w.heap.size, 2, none⟩ (.inl rfl) _
    have B1 : Hid (Bx2 w.heap.size W1.drew mk ex x.pl.ty m ti x.src pr pa (.slice acv cl.length ccv) en py) := by
      have h := HB.out.set x.pl.ty m x.src
      rw [← hW1] at h
      exact h.chg (T := fun _ => False) (Chg.refl _ _).drew (fun e => e) (fun e => e)
    have hvb : ∀ b, v.ownBlock = some b → ¬ b = w.heap.size := fun b hb e => by have := (H.out.row.lt b hb).2; omega
    have V1 : Hid (WnAt C W1.drew base wb v { x with begun := true, shift := shiftOf x n }) := HW.out.chg hCw.drew (fun e => hne0 e) hvb (fun b hb e => by have := HC.out b hb; omega)
    have U1 : Hid (SdUp w W1.drew wb v v) := ⟨HU.out.chg.trans hCw.drew (fun b hb e => by omega), fun _ h => .inl h⟩
    rw [← hW1]
    clear hCw hW1 HB HW HU
    generalize W1.drew = W2 at *
    have C2 : Hid (IsC C W2 (.slice acv cl.length ccv) cl) := Hcv.out.chg U1.out.chg (fun b hb e => by
      rcases e with e | e
      · exact H.out.n1 (e ▸ hb)
      · exact H.out.n2 b e hb)
    have hW2s : w.heap.size ≤ W2.heap.size := U1.out.chg.size
    have HC2 : Hid (∀ b, C b → b < W2.heap.size) := fun b hb => by have := HC.out b hb; omega
    obtain ⟨q0, q1, q2, q3, q4, q5, q6, q7, q8, q9, q10, z0, z1, z2, z3, z4, z5, z6, z7, z8, z9, z10, qf0, qf1⟩ := B1.out
    go_wp2
    refine wp_region_noPanic ?_
    refine wp_region_held_drew (S := fun _ => True) (by kernel_rfl) trivial (fun hHeld => ?_)
    refine tkH 0 ?_ hHeld ?_ ?_; rotate_left
    · ((intro W hSw; go_simp) <;> with_reducible rfl)
    refine tkH 1 ?_ hHeld ?_ ?_; rotate_left
    · ((intro W hSw; go_simp) <;> with_reducible rfl)
    refine tkH 2 ?_ hHeld ?_ ?_; rotate_left
    · ((intro W hSw; go_simp) <;> with_reducible rfl)
    refine tkH 3 ?_ hHeld ?_ ?_; rotate_left
    · ((intro W hSw; go_simp) <;> with_reducible rfl)
    refine wpAnyH_ready (rs := [4]) (by kernel_rfl) (by simp) ?_
    refine AllReadyH.cons rfl (fun K hK => ?_) AllReadyH.nil
    go_simp
    refine hK.out _ _ trivial (fun hHeld => ?_)
    clear hK K
    try simp only [Act.put]
    try simp only [List.getElem_toArray]
    try simp only [List.getElem_cons_succ]
    try simp only [List.getElem_cons_zero]
    try simp only [List.setIfInBounds_toArray]
    try simp only [List.set_cons_succ]
    try simp only [List.set_cons_zero]
    refine tkH 5 ?_ hHeld ?_ ?_; rotate_left
    · ((intro W hSw; go_simp) <;> with_reducible rfl)
    refine wpAnyH_ready (rs := [6]) (by kernel_rfl) (by simp) ?_
    refine AllReadyH.cons rfl (fun K hK => ?_) AllReadyH.nil
    go_simp
    replace V1 : Hid (WnAt C W2.drew base wb v { x with begun := true, shift := shiftOf x n }) := V1.out.below (Below.refl _ _).drew
    replace B1 : Hid (Bx2 w.heap.size W2.drew mk ex x.pl.ty m ti x.src pr pa (.slice acv cl.length ccv) en py) := B1.out.chg (T := fun _ => False) (Chg.refl _ _).drew (fun e => e) (fun e => e)
    replace U1 : Hid (SdUp w W2.drew wb v v) := ⟨U1.out.chg.trans (T' := fun _ => False) (Chg.refl _ _).drew (fun _ _ e => e.elim), fun _ h => .inl h⟩
    replace C2 : Hid (IsC C W2.drew (.slice acv cl.length ccv) cl) := C2.out.chg (T := fun _ => False) (Chg.refl _ _).drew (fun _ _ e => e)
    replace HC2 : Hid (∀ b, C b → b < W2.drew.heap.size) := HC2.out
    replace hW2s : w.heap.size ≤ W2.drew.heap.size := hW2s
    generalize W2.drew = W3 at *
    refine (addK_any base wb v x.kept m ⟨mk, ex, x.pl.ty, m, ti, x.src, pr, pa, cl, en, py⟩ (.slice acv cl.length ccv) 0 _ V1.out.c2 V1.out.fz V1.out.ne V1.out.row V1.out.one C2.out.one (by omega) (show base ≤ W3.heap.size by omega) V1.out.sb).mono ?_
    rintro e w3 ⟨rfl, v3, hU3, hr3⟩
    have hnb : ∀ b, (b = w.heap.size ∨ b = w.heap.size + 1) → ¬ (b = wb ∨ v.ownBlock = some b) := fun b hb e => by
      rcases e with e | e
      · omega
      · have := (H.out.row.lt b e).2; omega
    have B3 : Hid (Bx2 w.heap.size w3 mk ex x.pl.ty m ti x.src pr pa (.slice acv cl.length ccv) en py) := B1.out.chg hU3.chg (hnb _ (.inl rfl)) (hnb _ (.inr rfl))
    have hlz : w.heap.size + 1 < W3.heap.size := lt_of_cell B1.out.z0
    have V3 : Hid (WnAt C w3 base wb v3 { x with begun := true, shift := shiftOf x n, kept := rmF Kp.n m x.kept ++ [(⟨m, ⟨mk, ex, x.pl.ty, m, ti, x.src, pr, pa, cl, en, py⟩, .slice acv cl.length ccv, 0⟩ : Kp)] }) := V1.out.upd hU3 hr3 (fun k hk => by
      rcases List.mem_append.1 hk with hk | hk
      · exact V1.out.con k (rmF_mem hk)
      · simp at hk; subst hk; exact C2.out) HC2.out
    have U3 : Hid (SdUp w w3 wb v v3) := U1.out.trans (SdUp.ofUpd hU3)
    have own3 : Hid (∀ b, v3.ownBlock = some b → v.ownBlock = some b ∨ W3.heap.size ≤ b) := hU3.own
    have Hkp : Hid (keepsF x ⟨mk, ex, ty, n, ti, so, pr, pa, cl, en, py⟩ (.slice acv cl.length ccv) ring = if ring < (rmF Kp.n m x.kept ++ [(⟨m, ⟨mk, ex, x.pl.ty, m, ti, x.src, pr, pa, cl, en, py⟩, .slice acv cl.length ccv, 0⟩ : Kp)]).length then (rmF Kp.n m x.kept ++ [(⟨m, ⟨mk, ex, x.pl.ty, m, ti, x.src, pr, pa, cl, en, py⟩, .slice acv cl.length ccv, 0⟩ : Kp)]).drop 1 else rmF Kp.n m x.kept ++ [(⟨m, ⟨mk, ex, x.pl.ty, m, ti, x.src, pr, pa, cl, en, py⟩, .slice acv cl.length ccv, 0⟩ : Kp)]) := by
      show _ = _
      unfold keepsF passP
      simp only [Int.toNat_natCast, Hm.out]
    have hkl : (rmF Kp.n m x.kept ++ [(⟨m, ⟨mk, ex, x.pl.ty, m, ti, x.src, pr, pa, cl, en, py⟩, .slice acv cl.length ccv, 0⟩ : Kp)]).length ≤ 90001 := by
      have := rmF_length Kp.n m x.kept
      simp
      omega
    generalize hKL : rmF Kp.n m x.kept ++ [(⟨m, ⟨mk, ex, x.pl.ty, m, ti, x.src, pr, pa, cl, en, py⟩, .slice acv cl.length ccv, 0⟩ : Kp)] = KL at *
    obtain ⟨a3, c3, rfl⟩ := rowA_shape hr3
    clear hKL hU3 hr3 q0 q1 q2 q3 q4 q5 q6 q7 q8 q9 q10 z0 z1 z2 z3 z4 z5 z6 z7 z8 z9 z10 qf0 qf1
    go_wp2_with fail
    refine hK.out _ _ trivial (fun hHeld => ?_)
    clear hK K hHeld
    refine wpAnyH_done (by kernel_rfl) ?_ _
    refine NoPanic.normal ?_
    have y2 := V3.out.c2
    by_cases hgt : ring < KL.length
    · have hgt' : (ring : Int) < KL.length := by omega
      rw [if_pos hgt] at Hkp
      go_wp2_with fail
      refine (removeFirstK_any base wb _ KL 1 _ V3.out.c2 V3.out.fz V3.out.ne V3.out.row V3.out.one (by omega) (by omega)).mono ?_
      rintro e w4 ⟨rfl, v4, hU4, hr4⟩
      have HC3 : ∀ b, C b → b < w3.heap.size := fun b hb => by have := HC.out b hb; have := U3.out.chg.size; omega
      have V4 : Hid (WnAt C w4 base wb v4 (passW x ⟨mk, ex, ty, n, ti, so, pr, pa, cl, en, py⟩ (.slice acv cl.length ccv) ring)) := by
        show WnAt _ _ _ _ _ _
        unfold passW
        rw [Hkp.out]
        exact V3.out.upd hU4 hr4 (fun k hk => V3.out.con k (List.mem_of_mem_drop hk)) HC3
      have U4 : Hid (SdUp w w4 wb v v4) := U3.out.trans (SdUp.ofUpd hU4)
      have hnb3 : ∀ b, (b = w.heap.size ∨ b = w.heap.size + 1) → ¬ (b = wb ∨ (Value.slice a3 KL.length c3).ownBlock = some b) := fun b hb e => by
        rcases e with e | e
        · omega
        · rcases own3.out b e with e | e
          · exact hnb b hb (.inr e)
          · omega
      have B4 : Hid (Bx2 w.heap.size w4 mk ex x.pl.ty m ti x.src pr pa (.slice acv cl.length ccv) en py) := B3.out.chg hU4.chg (hnb3 _ (.inl rfl)) (hnb3 _ (.inr rfl))
      have hNB : ∀ b, v4.ownBlock = some b → ¬ b = w.heap.size + 1 := fun b hb e => by
        rcases hU4.own b hb with e' | e'
        · exact hnb3 b (.inr e) (.inr e')
        · have := U3.out.chg.size; have := lt_of_cell B3.out.z0; simp only at this; omega
      obtain ⟨a4, c4, rfl⟩ := rowA_shape hr4
      clear hU4 hr4 hnb3 HC3 y2
      obtain ⟨q0, q1, q2, q3, q4, q5, q6, q7, q8, q9, q10, z0, z1, z2, z3, z4, z5, z6, z7, z8, z9, z10, qf0, qf1⟩ := B4.out
      have hcF : Chg (fun b => b = w.heap.size + 1) w4 (((((((((((w4.setCell ⟨w.heap.size + 1, 0, none⟩ (.bool mk)).setCell ⟨w.heap.size + 1, 1, none⟩ (.int .i64 x.pl.ty)).setCell ⟨w.heap.size + 1, 2, none⟩ (.int .i64 m)).setCell ⟨w.heap.size + 1, 3, none⟩ (.int .i64 ti)).setCell ⟨w.heap.size + 1, 4, none⟩ (.int .i64 x.src)).setCell ⟨w.heap.size + 1, 5, none⟩ (.slice acv cl.length ccv)).setCell ⟨w.heap.size + 1, 6, none⟩ (.bool ex)).setCell ⟨w.heap.size + 1, 7, none⟩ (.int .i64 pr)).setCell ⟨w.heap.size + 1, 8, none⟩ (.string en)).setCell ⟨w.heap.size + 1, 9, none⟩ (.string py)).setCell ⟨w.heap.size + 1, 10, none⟩ (.int .i64 pa)) := ((((((((((((Chg.refl (fun b => b = w.heap.size + 1) _).setCell ⟨w.heap.size + 1, 0, none⟩ (.inl rfl) _).setCell ⟨w.heap.size + 1, 1, none⟩ (.inl rfl) _).setCell ⟨w.heap.size + 1, 2, none⟩ (.inl rfl) _).setCell ⟨w.heap.size + 1, 3, none⟩ (.inl rfl) _).setCell ⟨w.heap.size + 1, 4, none⟩ (.inl rfl) _).setCell ⟨w.heap.size + 1, 5, none⟩ (.inl rfl) _).setCell ⟨w.heap.size + 1, 6, none⟩ (.inl rfl) _).setCell ⟨w.heap.size + 1, 7, none⟩ (.inl rfl) _).setCell ⟨w.heap.size + 1, 8, none⟩ (.inl rfl) _).setCell ⟨w.heap.size + 1, 9, none⟩ (.inl rfl) _).setCell ⟨w.heap.size + 1, 10, none⟩ (.inl rfl) _)
      have FV : Hid (WnAt C (((((((((((w4.setCell ⟨w.heap.size + 1, 0, none⟩ (.bool mk)).setCell ⟨w.heap.size + 1, 1, none⟩ (.int .i64 x.pl.ty)).setCell ⟨w.heap.size + 1, 2, none⟩ (.int .i64 m)).setCell ⟨w.heap.size + 1, 3, none⟩ (.int .i64 ti)).setCell ⟨w.heap.size + 1, 4, none⟩ (.int .i64 x.src)).setCell ⟨w.heap.size + 1, 5, none⟩ (.slice acv cl.length ccv)).setCell ⟨w.heap.size + 1, 6, none⟩ (.bool ex)).setCell ⟨w.heap.size + 1, 7, none⟩ (.int .i64 pr)).setCell ⟨w.heap.size + 1, 8, none⟩ (.string en)).setCell ⟨w.heap.size + 1, 9, none⟩ (.string py)).setCell ⟨w.heap.size + 1, 10, none⟩ (.int .i64 pa)) base wb _ (passW x ⟨mk, ex, ty, n, ti, so, pr, pa, cl, en, py⟩ (.slice acv cl.length ccv) ring)) := V4.out.chg hcF (fun e => hne1 e) (fun b hb e => by
        rcases U4.out.own b hb with e' | e'
        · have := (H.out.row.lt b e').2; omega
        · have := V4.out.row.lt b hb; exact hNB b hb e) (fun b hb e => by have := HC.out b hb; omega)
      have FU : Hid (SdUp w (((((((((((w4.setCell ⟨w.heap.size + 1, 0, none⟩ (.bool mk)).setCell ⟨w.heap.size + 1, 1, none⟩ (.int .i64 x.pl.ty)).setCell ⟨w.heap.size + 1, 2, none⟩ (.int .i64 m)).setCell ⟨w.heap.size + 1, 3, none⟩ (.int .i64 ti)).setCell ⟨w.heap.size + 1, 4, none⟩ (.int .i64 x.src)).setCell ⟨w.heap.size + 1, 5, none⟩ (.slice acv cl.length ccv)).setCell ⟨w.heap.size + 1, 6, none⟩ (.bool ex)).setCell ⟨w.heap.size + 1, 7, none⟩ (.int .i64 pr)).setCell ⟨w.heap.size + 1, 8, none⟩ (.string en)).setCell ⟨w.heap.size + 1, 9, none⟩ (.string py)).setCell ⟨w.heap.size + 1, 10, none⟩ (.int .i64 pa)) wb v _) := ⟨U4.out.chg.trans hcF (fun b hb e => by omega), U4.out.own⟩
      clear hcF
      go_wp2
      rw [Hm.out]
      refine bodyPost_ret (v := .agg #[.bool mk, .int .i64 x.pl.ty, .int .i64 m, .int .i64 ti, .int .i64 x.src, .slice acv cl.length ccv, .bool ex, .int .i64 pr, .string en, .string py, .int .i64 pa]) (by simp [results, Tryz.results94, go_sem, z0, z1, z2, z3, z4, z5, z6, z7, z8, z9, z10]) rfl ⟨rfl, _, FV.out, FU.out⟩
    · have hgt' : ¬ (ring : Int) < KL.length := by omega
      rw [if_neg hgt] at Hkp
      have V4 : Hid (WnAt C w3 base wb (.slice a3 KL.length c3) (passW x ⟨mk, ex, ty, n, ti, so, pr, pa, cl, en, py⟩ (.slice acv cl.length ccv) ring)) := by
        show WnAt _ _ _ _ _ _
        unfold passW
        rw [Hkp.out]
        exact V3.out
      have hNB : ∀ b, (Value.slice a3 KL.length c3).ownBlock = some b → ¬ b = w.heap.size + 1 := fun b hb e => by
        rcases own3.out b hb with e' | e'
        · exact hnb b (.inr e) (.inr e')
        · omega
      obtain ⟨q0, q1, q2, q3, q4, q5, q6, q7, q8, q9, q10, z0, z1, z2, z3, z4, z5, z6, z7, z8, z9, z10, qf0, qf1⟩ := B3.out
      have hcF : Chg (fun b => b = w.heap.size + 1) w3 (((((((((((w3.setCell ⟨w.heap.size + 1, 0, none⟩ (.bool mk)).setCell ⟨w.heap.size + 1, 1, none⟩ (.int .i64 x.pl.ty)).setCell ⟨w.heap.size + 1, 2, none⟩ (.int .i64 m)).setCell ⟨w.heap.size + 1, 3, none⟩ (.int .i64 ti)).setCell ⟨w.heap.size + 1, 4, none⟩ (.int .i64 x.src)).setCell ⟨w.heap.size + 1, 5, none⟩ (.slice acv cl.length ccv)).setCell ⟨w.heap.size + 1, 6, none⟩ (.bool ex)).setCell ⟨w.heap.size + 1, 7, none⟩ (.int .i64 pr)).setCell ⟨w.heap.size + 1, 8, none⟩ (.string en)).setCell ⟨w.heap.size + 1, 9, none⟩ (.string py)).setCell ⟨w.heap.size + 1, 10, none⟩ (.int .i64 pa)) := ((((((((((((Chg.refl (fun b => b = w.heap.size + 1) _).setCell ⟨w.heap.size + 1, 0, none⟩ (.inl rfl) _).setCell ⟨w.heap.size + 1, 1, none⟩ (.inl rfl) _).setCell ⟨w.heap.size + 1, 2, none⟩ (.inl rfl) _).setCell ⟨w.heap.size + 1, 3, none⟩ (.inl rfl) _).setCell ⟨w.heap.size + 1, 4, none⟩ (.inl rfl) _).setCell ⟨w.heap.size + 1, 5, none⟩ (.inl rfl) _).setCell ⟨w.heap.size + 1, 6, none⟩ (.inl rfl) _).setCell ⟨w.heap.size + 1, 7, none⟩ (.inl rfl) _).setCell ⟨w.heap.size + 1, 8, none⟩ (.inl rfl) _).setCell ⟨w.heap.size + 1, 9, none⟩ (.inl rfl) _).setCell ⟨w.heap.size + 1, 10, none⟩ (.inl rfl) _)
      have FV : Hid (WnAt C (((((((((((w3.setCell ⟨w.heap.size + 1, 0, none⟩ (.bool mk)).setCell ⟨w.heap.size + 1, 1, none⟩ (.int .i64 x.pl.ty)).setCell ⟨w.heap.size + 1, 2, none⟩ (.int .i64 m)).setCell ⟨w.heap.size + 1, 3, none⟩ (.int .i64 ti)).setCell ⟨w.heap.size + 1, 4, none⟩ (.int .i64 x.src)).setCell ⟨w.heap.size + 1, 5, none⟩ (.slice acv cl.length ccv)).setCell ⟨w.heap.size + 1, 6, none⟩ (.bool ex)).setCell ⟨w.heap.size + 1, 7, none⟩ (.int .i64 pr)).setCell ⟨w.heap.size + 1, 8, none⟩ (.string en)).setCell ⟨w.heap.size + 1, 9, none⟩ (.string py)).setCell ⟨w.heap.size + 1, 10, none⟩ (.int .i64 pa)) base wb (.slice a3 KL.length c3) (passW x ⟨mk, ex, ty, n, ti, so, pr, pa, cl, en, py⟩ (.slice acv cl.length ccv) ring)) := V4.out.chg hcF (fun e => hne1 e) (fun b hb e => by
        rcases U3.out.own b hb with e' | e'
        · have := (H.out.row.lt b e').2; omega
        · have := V4.out.row.lt b hb; exact hNB b hb e) (fun b hb e => by have := HC.out b hb; omega)
      have FU : Hid (SdUp w (((((((((((w3.setCell ⟨w.heap.size + 1, 0, none⟩ (.bool mk)).setCell ⟨w.heap.size + 1, 1, none⟩ (.int .i64 x.pl.ty)).setCell ⟨w.heap.size + 1, 2, none⟩ (.int .i64 m)).setCell ⟨w.heap.size + 1, 3, none⟩ (.int .i64 ti)).setCell ⟨w.heap.size + 1, 4, none⟩ (.int .i64 x.src)).setCell ⟨w.heap.size + 1, 5, none⟩ (.slice acv cl.length ccv)).setCell ⟨w.heap.size + 1, 6, none⟩ (.bool ex)).setCell ⟨w.heap.size + 1, 7, none⟩ (.int .i64 pr)).setCell ⟨w.heap.size + 1, 8, none⟩ (.string en)).setCell ⟨w.heap.size + 1, 9, none⟩ (.string py)).setCell ⟨w.heap.size + 1, 10, none⟩ (.int .i64 pa)) wb v (.slice a3 KL.length c3)) := ⟨U3.out.chg.trans hcF (fun b hb e => by omega), U3.out.own⟩
      clear hcF
      go_wp2
      rw [Hm.out]
      refine bodyPost_ret (v := .agg #[.bool mk, .int .i64 x.pl.ty, .int .i64 m, .int .i64 ti, .int .i64 x.src, .slice acv cl.length ccv, .bool ex, .int .i64 pr, .string en, .string py, .int .i64 pa]) (by simp [results, Tryz.results94, go_sem, z0, z1, z2, z3, z4, z5, z6, z7, z8, z9, z10]) rfl ⟨rfl, _, FV.out, FU.out⟩
  | false =>
    rw [hbg] at y1
    have e4 := u16_add n (stepsTo fi n)
    obtain ⟨st, hst⟩ : ∃ st, stepsTo fi n = st := ⟨_, rfl⟩
    rw [hst] at e3 e4 hstl
    obtain ⟨m, hm⟩ : ∃ m, m = (n + st) % 65536 := ⟨_, rfl⟩
    have hmi : ((n : Int) + (st : Int)) % 65536 = (m : Int) := by omega
    have Hsh : Hid (shiftOf x n = st) := by show _ = _; unfold shiftOf; rw [hbg, if_neg (by simp), hfi, Int.toNat_natCast, ← Hst.out, hst]
    have Hm : Hid (numOf x n = m) := by show _ = _; unfold numOf; rw [Hsh.out, hm]
    have hml : m < 65536 := by rw [hm]; exact Nat.mod_lt _ (by decide)
    have hmw : IntKind.i64.wrap (m : Int) = (m : Int) := wrapI64 _ (by omega) (by omega)
    clear hm hst
    go_enter Tryz.func94, Tryz.ntmps94
    go_wp2
    obtain ⟨wS, hwS⟩ : ∃ wS : World, wS = ((w.setCell ⟨wb, 1, none⟩ (.bool true)).setCell ⟨wb, 11, none⟩ (.int .u16 (st : Int))) := ⟨_, rfl⟩
    have hsS : wS.heap.size = w.heap.size := by rw [hwS]; simp
    obtain ⟨W0, hW0⟩ : ∃ W0 : World, W0 = ((wS.alloc (.cells #[.bool mk, .int .i64 ty, .int .i64 n, .int .i64 ti, .int .i64 so, .slice acv cl.length ccv, .bool ex, .int .i64 pr, .string en, .string py, .int .i64 pa] 41)).alloc (.cells #[.bool false, .int .i64 0, .int .i64 0, .int .i64 0, .int .i64 0, .slice none 0 0, .bool false, .int .i64 0, .string ⟨#[]⟩, .string ⟨#[]⟩, .int .i64 0] 41)) := ⟨_, rfl⟩
    rw [← hwS, ← hW0]
    obtain ⟨V1, U1⟩ := H.out.set1 true
    obtain ⟨V2, U2⟩ := V1.set11 st
    rw [← hwS] at V2 U2
    have HB : Hid (Bx2 w.heap.size W0 mk ex ty n ti so pr pa (.slice acv cl.length ccv) en py) := by
      show Bx2 _ _ _ _ _ _ _ _ _ _ _ _ _
      rw [hW0, ← hsS]
      exact Bx2.init ..
    have HW : Hid (WnAt C W0 base wb v { x with begun := true, shift := shiftOf x n }) := by
      show WnAt _ _ _ _ _ _
      rw [hW0, Hsh.out]
      exact (V2.below ((Below.refl _ _).alloc (Nat.le_refl _) _)).below ((Below.refl _ _).alloc (Nat.le_refl _) _)
    have HU : Hid (SdUp w W0 wb v v) := by
      have h := U1.trans U2
      show SdUp _ _ _ _ _
      rw [hW0]
      exact ⟨(h.chg.alloc _).alloc _, h.own⟩
    clear hW0 hwS hsS V1 U1 V2 U2 wS B0 U0 WA y0 y1 y7 y9 y11 yf e4 hmi e1 e2 e3
    have hS0 := HW.out.c0
    have hS1 := HW.out.c7
    have g1 := HB.out.q1
    have g2 := HB.out.q2
    have g4 := HB.out.q4
    have gf := HB.out.f0
    have hnew : wb ≠ w.heap.size := hne0
    refine wp_region_noPanic ?_
    refine wp_region_held_drew (S := fun W => W.cell? ⟨wb, 0, none⟩ = some (.int .i64 x.src) ∧ W.cell? ⟨wb, 7, none⟩ = some (.int .i64 x.pl.ty)) (by kernel_rfl) ⟨hS0, hS1⟩ (fun hHeld => ?_)
    refine tkH 0 ?_ hHeld ?_ ?_; rotate_left
    · ((intro W hSw; obtain ⟨hS0, hS1⟩ := hSw; go_simp) <;> with_reducible rfl)
    refine tkH 1 ?_ hHeld ?_ ?_; rotate_left
    · ((intro W hSw; obtain ⟨hS0, hS1⟩ := hSw; go_simp) <;> with_reducible rfl)
    refine tkH 2 ?_ hHeld ?_ ?_; rotate_left
    · ((intro W hSw; obtain ⟨hS0, hS1⟩ := hSw; go_simp) <;> with_reducible rfl)
    refine tkH 3 ?_ hHeld ?_ ?_; rotate_left
    · ((intro W hSw; obtain ⟨hS0, hS1⟩ := hSw; go_simp) <;> with_reducible rfl)
    refine tkH 4 ?_ hHeld ?_ ?_; rotate_left
    · ((intro W hSw; obtain ⟨hS0, hS1⟩ := hSw; go_simp) <;> with_reducible rfl)
    refine tkH 5 ?_ hHeld ?_ ?_; rotate_left
    · ((intro W hSw; obtain ⟨hS0, hS1⟩ := hSw; go_simp) <;> with_reducible rfl)
    refine tkH 6 ?_ hHeld ?_ ?_; rotate_left
    · ((intro W hSw; obtain ⟨hS0, hS1⟩ := hSw; go_simp) <;> with_reducible rfl)
    refine tkH 7 ?_ hHeld ?_ ?_; rotate_left
    · ((intro W hSw; obtain ⟨hS0, hS1⟩ := hSw; go_simp) <;> with_reducible rfl)
    refine tkH 8 ?_ hHeld ?_ ?_; rotate_left
    · ((intro W hSw; obtain ⟨hS0, hS1⟩ := hSw; go_simp) <;> with_reducible rfl)
    refine tkH 9 ?_ hHeld ?_ ?_; rotate_left
    · ((intro W hSw; obtain ⟨hS0, hS1⟩ := hSw; go_simp) <;> with_reducible rfl)
    refine tkH 10 ?_ hHeld ?_ ?_; rotate_left
    · ((intro W hSw; obtain ⟨hS0, hS1⟩ := hSw; go_simp) <;> with_reducible rfl)
    refine tkH 11 ?_ hHeld ?_ ?_; rotate_left
    · ((intro W hSw; obtain ⟨hS0, hS1⟩ := hSw; go_simp) <;> with_reducible rfl)
    refine tkH 12 ?_ hHeld ?_ ?_; rotate_left
    · ((intro W hSw; obtain ⟨hS0, hS1⟩ := hSw; go_simp) <;> with_reducible rfl)
    refine wpAnyH_ready (rs := [13]) (by kernel_rfl) (by simp) ?_
    refine AllReadyH.cons rfl (fun K hK => ?_) AllReadyH.nil
    go_simp
    refine hK.out _ _ ⟨(World.cell?_setCell_other _ _ _ _ (fun e => hnew (by injection e with e _ _; exact e.symm))).trans hS0, (World.cell?_setCell_other _ _ _ _ (fun e => hnew (by injection e with e _ _; exact e.symm))).trans hS1⟩ (fun hHeld => ?_)
    clear hK K
    try simp only [Act.put]
    try simp only [List.getElem_toArray]
    try simp only [List.getElem_cons_succ]
    try simp only [List.getElem_cons_zero]
    try simp only [List.setIfInBounds_toArray]
    try simp only [List.set_cons_succ]
    try simp only [List.set_cons_zero]
    refine tkH 14 ?_ hHeld ?_ ?_; rotate_left
    · ((intro W hSw; obtain ⟨hS0, hS1⟩ := hSw; go_simp) <;> with_reducible rfl)
    refine wpAnyH_ready (rs := [15]) (by kernel_rfl) (by simp) ?_
    refine AllReadyH.cons rfl (fun K hK => ?_) AllReadyH.nil
    go_simp
    refine hK.out _ _ ⟨(World.cell?_setCell_other _ _ _ _ (fun e => hnew (by injection e with e _ _; exact e.symm))).trans hHeld.1, (World.cell?_setCell_other _ _ _ _ (fun e => hnew (by injection e with e _ _; exact e.symm))).trans hHeld.2⟩ (fun hHeld => ?_)
    clear hK K
    try simp only [Act.put]
    try simp only [List.getElem_toArray]
    try simp only [List.getElem_cons_succ]
    try simp only [List.getElem_cons_zero]
    try simp only [List.setIfInBounds_toArray]
    try simp only [List.set_cons_succ]
    try simp only [List.set_cons_zero]
    refine tkH 16 ?_ hHeld ?_ ?_; rotate_left
    · ((intro W hSw; obtain ⟨hS0, hS1⟩ := hSw; go_simp) <;> with_reducible rfl)
    refine wpAnyH_ready (rs := [17]) (by kernel_rfl) (by simp) ?_
    refine AllReadyH.cons rfl (fun K hK => ?_) AllReadyH.nil
    go_simp
    refine hK.out _ _ ⟨(World.cell?_setCell_other _ _ _ _ (fun e => hnew (by injection e with e _ _; exact e.symm))).trans hHeld.1, (World.cell?_setCell_other _ _ _ _ (fun e => hnew (by injection e with e _ _; exact e.symm))).trans hHeld.2⟩ (fun hHeld => ?_)
    clear hK K
    refine wpAnyH_done (by kernel_rfl) ?_ _
    refine NoPanic.normal ?_
    clear hS0 hS1 g1 g2 g4 gf hHeld
    obtain ⟨W1, hW1⟩ : ∃ W1 : World, W1 = (((W0.setCell ⟨w.heap.size, 4, none⟩ (.int .i64 x.src)).setCell ⟨w.heap.size, 1, none⟩ (.int .i64 x.pl.ty)).setCell ⟨w.heap.size, 2, none⟩ (.int .i64 (m : Int))) := ⟨_, rfl⟩
    have hCw : Chg (fun b => b = w.heap.size) W0 W1 := by
      rw [hW1]
      exact (((Chg.refl (fun b => b = w.heap.size) _).setCell ⟨w.heap.size, 4, none⟩ (.inl rfl) _).setCell ⟨w.heap.size, 1, none⟩ (.inl rfl) _).setCell ⟨w.heap.size, 2, none⟩ (.inl rfl) _
    have B1 : Hid (Bx2 w.heap.size W1.drew mk ex x.pl.ty m ti x.src pr pa (.slice acv cl.length ccv) en py) := by
      have h := HB.out.set x.pl.ty m x.src
      rw [← hW1] at h
      exact h.chg (T := fun _ => False) (Chg.refl _ _).drew (fun e => e) (fun e => e)
    have hvb : ∀ b, v.ownBlock = some b → ¬ b = w.heap.size := fun b hb e => by have := (H.out.row.lt b hb).2; omega
    have V1 : Hid (WnAt C W1.drew base wb v { x with begun := true, shift := shiftOf x n }) := HW.out.chg hCw.drew (fun e => hne0 e) hvb (fun b hb e => by have := HC.out b hb; omega)
    have U1 : Hid (SdUp w W1.drew wb v v) := ⟨HU.out.chg.trans hCw.drew (fun b hb e => by omega), fun _ h => .inl h⟩
    rw [← hW1]
    clear hCw hW1 HB HW HU
    generalize W1.drew = W2 at *
    have C2 : Hid (IsC C W2 (.slice acv cl.length ccv) cl) := Hcv.out.chg U1.out.chg (fun b hb e => by
      rcases e with e | e
      · exact H.out.n1 (e ▸ hb)
      · exact H.out.n2 b e hb)
    have hW2s : w.heap.size ≤ W2.heap.size := U1.out.chg.size
    have HC2 : Hid (∀ b, C b → b < W2.heap.size) := fun b hb => by have := HC.out b hb; omega
    obtain ⟨q0, q1, q2, q3, q4, q5, q6, q7, q8, q9, q10, z0, z1, z2, z3, z4, z5, z6, z7, z8, z9, z10, qf0, qf1⟩ := B1.out
    go_wp2
    refine wp_region_noPanic ?_
    refine wp_region_held_drew (S := fun _ => True) (by kernel_rfl) trivial (fun hHeld => ?_)
    refine tkH 0 ?_ hHeld ?_ ?_; rotate_left
    · ((intro W hSw; go_simp) <;> with_reducible rfl)
    refine tkH 1 ?_ hHeld ?_ ?_; rotate_left
    · ((intro W hSw; go_simp) <;> with_reducible rfl)
    refine tkH 2 ?_ hHeld ?_ ?_; rotate_left
    · ((intro W hSw; go_simp) <;> with_reducible rfl)
    refine tkH 3 ?_ hHeld ?_ ?_; rotate_left
    · ((intro W hSw; go_simp) <;> with_reducible rfl)
    refine wpAnyH_ready (rs := [4]) (by kernel_rfl) (by simp) ?_
    refine AllReadyH.cons rfl (fun K hK => ?_) AllReadyH.nil
    go_simp
    refine hK.out _ _ trivial (fun hHeld => ?_)
    clear hK K
    try simp only [Act.put]
    try simp only [List.getElem_toArray]
    try simp only [List.getElem_cons_succ]
    try simp only [List.getElem_cons_zero]
    try simp only [List.setIfInBounds_toArray]
    try simp only [List.set_cons_succ]
    try simp only [List.set_cons_zero]
    refine tkH 5 ?_ hHeld ?_ ?_; rotate_left
    · ((intro W hSw; go_simp) <;> with_reducible rfl)
    refine wpAnyH_ready (rs := [6]) (by kernel_rfl) (by simp) ?_
    refine AllReadyH.cons rfl (fun K hK => ?_) AllReadyH.nil
    go_simp
    replace V1 : Hid (WnAt C W2.drew base wb v { x with begun := true, shift := shiftOf x n }) := V1.out.below (Below.refl _ _).drew
    replace B1 : Hid (Bx2 w.heap.size W2.drew mk ex x.pl.ty m ti x.src pr pa (.slice acv cl.length ccv) en py) := B1.out.chg (T := fun _ => False) (Chg.refl _ _).drew (fun e => e) (fun e => e)
    replace U1 : Hid (SdUp w W2.drew wb v v) := ⟨U1.out.chg.trans (T' := fun _ => False) (Chg.refl _ _).drew (fun _ _ e => e.elim), fun _ h => .inl h⟩
    replace C2 : Hid (IsC C W2.drew (.slice acv cl.length ccv) cl) := C2.out.chg (T := fun _ => False) (Chg.refl _ _).drew (fun _ _ e => e)
    replace HC2 : Hid (∀ b, C b → b < W2.drew.heap.size) := HC2.out
    replace hW2s : w.heap.size ≤ W2.drew.heap.size := hW2s
    generalize W2.drew = W3 at *
    refine (addK_any base wb v x.kept m ⟨mk, ex, x.pl.ty, m, ti, x.src, pr, pa, cl, en, py⟩ (.slice acv cl.length ccv) 0 _ V1.out.c2 V1.out.fz V1.out.ne V1.out.row V1.out.one C2.out.one (by omega) (show base ≤ W3.heap.size by omega) V1.out.sb).mono ?_
    rintro e w3 ⟨rfl, v3, hU3, hr3⟩
    have hnb : ∀ b, (b = w.heap.size ∨ b = w.heap.size + 1) → ¬ (b = wb ∨ v.ownBlock = some b) := fun b hb e => by
      rcases e with e | e
      · omega
      · have := (H.out.row.lt b e).2; omega
    have B3 : Hid (Bx2 w.heap.size w3 mk ex x.pl.ty m ti x.src pr pa (.slice acv cl.length ccv) en py) := B1.out.chg hU3.chg (hnb _ (.inl rfl)) (hnb _ (.inr rfl))
    have hlz : w.heap.size + 1 < W3.heap.size := lt_of_cell B1.out.z0
    have V3 : Hid (WnAt C w3 base wb v3 { x with begun := true, shift := shiftOf x n, kept := rmF Kp.n m x.kept ++ [(⟨m, ⟨mk, ex, x.pl.ty, m, ti, x.src, pr, pa, cl, en, py⟩, .slice acv cl.length ccv, 0⟩ : Kp)] }) := V1.out.upd hU3 hr3 (fun k hk => by
      rcases List.mem_append.1 hk with hk | hk
      · exact V1.out.con k (rmF_mem hk)
      · simp at hk; subst hk; exact C2.out) HC2.out
    have U3 : Hid (SdUp w w3 wb v v3) := U1.out.trans (SdUp.ofUpd hU3)
    have own3 : Hid (∀ b, v3.ownBlock = some b → v.ownBlock = some b ∨ W3.heap.size ≤ b) := hU3.own
    have Hkp : Hid (keepsF x ⟨mk, ex, ty, n, ti, so, pr, pa, cl, en, py⟩ (.slice acv cl.length ccv) ring = if ring < (rmF Kp.n m x.kept ++ [(⟨m, ⟨mk, ex, x.pl.ty, m, ti, x.src, pr, pa, cl, en, py⟩, .slice acv cl.length ccv, 0⟩ : Kp)]).length then (rmF Kp.n m x.kept ++ [(⟨m, ⟨mk, ex, x.pl.ty, m, ti, x.src, pr, pa, cl, en, py⟩, .slice acv cl.length ccv, 0⟩ : Kp)]).drop 1 else rmF Kp.n m x.kept ++ [(⟨m, ⟨mk, ex, x.pl.ty, m, ti, x.src, pr, pa, cl, en, py⟩, .slice acv cl.length ccv, 0⟩ : Kp)]) := by
      show _ = _
      unfold keepsF passP
      simp only [Int.toNat_natCast, Hm.out]
    have hkl : (rmF Kp.n m x.kept ++ [(⟨m, ⟨mk, ex, x.pl.ty, m, ti, x.src, pr, pa, cl, en, py⟩, .slice acv cl.length ccv, 0⟩ : Kp)]).length ≤ 90001 := by
      have := rmF_length Kp.n m x.kept
      simp
      omega
    generalize hKL : rmF Kp.n m x.kept ++ [(⟨m, ⟨mk, ex, x.pl.ty, m, ti, x.src, pr, pa, cl, en, py⟩, .slice acv cl.length ccv, 0⟩ : Kp)] = KL at *
    obtain ⟨a3, c3, rfl⟩ := rowA_shape hr3
    clear hKL hU3 hr3 q0 q1 q2 q3 q4 q5 q6 q7 q8 q9 q10 z0 z1 z2 z3 z4 z5 z6 z7 z8 z9 z10 qf0 qf1
    go_wp2_with fail
    refine hK.out _ _ trivial (fun hHeld => ?_)
    clear hK K hHeld
    refine wpAnyH_done (by kernel_rfl) ?_ _
    refine NoPanic.normal ?_
    have y2 := V3.out.c2
    by_cases hgt : ring < KL.length
    · have hgt' : (ring : Int) < KL.length := by omega
      rw [if_pos hgt] at Hkp
      go_wp2_with fail
      refine (removeFirstK_any base wb _ KL 1 _ V3.out.c2 V3.out.fz V3.out.ne V3.out.row V3.out.one (by omega) (by omega)).mono ?_
      rintro e w4 ⟨rfl, v4, hU4, hr4⟩
      have HC3 : ∀ b, C b → b < w3.heap.size := fun b hb => by have := HC.out b hb; have := U3.out.chg.size; omega
      have V4 : Hid (WnAt C w4 base wb v4 (passW x ⟨mk, ex, ty, n, ti, so, pr, pa, cl, en, py⟩ (.slice acv cl.length ccv) ring)) := by
        show WnAt _ _ _ _ _ _
        unfold passW
        rw [Hkp.out]
        exact V3.out.upd hU4 hr4 (fun k hk => V3.out.con k (List.mem_of_mem_drop hk)) HC3
      have U4 : Hid (SdUp w w4 wb v v4) := U3.out.trans (SdUp.ofUpd hU4)
      have hnb3 : ∀ b, (b = w.heap.size ∨ b = w.heap.size + 1) → ¬ (b = wb ∨ (Value.slice a3 KL.length c3).ownBlock = some b) := fun b hb e => by
        rcases e with e | e
        · omega
        · rcases own3.out b e with e | e
          · exact hnb b hb (.inr e)
          · omega
      have B4 : Hid (Bx2 w.heap.size w4 mk ex x.pl.ty m ti x.src pr pa (.slice acv cl.length ccv) en py) := B3.out.chg hU4.chg (hnb3 _ (.inl rfl)) (hnb3 _ (.inr rfl))
      have hNB : ∀ b, v4.ownBlock = some b → ¬ b = w.heap.size + 1 := fun b hb e => by
        rcases hU4.own b hb with e' | e'
        · exact hnb3 b (.inr e) (.inr e')
        · have := U3.out.chg.size; have := lt_of_cell B3.out.z0; simp only at this; omega
      obtain ⟨a4, c4, rfl⟩ := rowA_shape hr4
      clear hU4 hr4 hnb3 HC3 y2
      obtain ⟨q0, q1, q2, q3, q4, q5, q6, q7, q8, q9, q10, z0, z1, z2, z3, z4, z5, z6, z7, z8, z9, z10, qf0, qf1⟩ := B4.out
      have hcF : Chg (fun b => b = w.heap.size + 1) w4 (((((((((((w4.setCell ⟨w.heap.size + 1, 0, none⟩ (.bool mk)).setCell ⟨w.heap.size + 1, 1, none⟩ (.int .i64 x.pl.ty)).setCell ⟨w.heap.size + 1, 2, none⟩ (.int .i64 m)).setCell ⟨w.heap.size + 1, 3, none⟩ (.int .i64 ti)).setCell ⟨w.heap.size + 1, 4, none⟩ (.int .i64 x.src)).setCell ⟨w.heap.size + 1, 5, none⟩ (.slice acv cl.length ccv)).setCell ⟨w.heap.size + 1, 6, none⟩ (.bool ex)).setCell ⟨w.heap.size + 1, 7, none⟩ (.int .i64 pr)).setCell ⟨w.heap.size + 1, 8, none⟩ (.string en)).setCell ⟨w.heap.size + 1, 9, none⟩ (.string py)).setCell ⟨w.heap.size + 1, 10, none⟩ (.int .i64 pa)) := ((((((((((((Chg.refl (fun b => b = w.heap.size + 1) _).setCell ⟨w.heap.size + 1, 0, none⟩ (.inl rfl) _).setCell ⟨w.heap.size + 1, 1, none⟩ (.inl rfl) _).setCell ⟨w.heap.size + 1, 2, none⟩ (.inl rfl) _).setCell ⟨w.heap.size + 1, 3, none⟩ (.inl rfl) _).setCell ⟨w.heap.size + 1, 4, none⟩ (.inl rfl) _).setCell ⟨w.heap.size + 1, 5, none⟩ (.inl rfl) _).setCell ⟨w.heap.size + 1, 6, none⟩ (.inl rfl) _).setCell ⟨w.heap.size + 1, 7, none⟩ (.inl rfl) _).setCell ⟨w.heap.size + 1, 8, none⟩ (.inl rfl) _).setCell ⟨w.heap.size + 1, 9, none⟩ (.inl rfl) _).setCell ⟨w.heap.size + 1, 10, none⟩ (.inl rfl) _)
      have FV : Hid (WnAt C (((((((((((w4.setCell ⟨w.heap.size + 1, 0, none⟩ (.bool mk)).setCell ⟨w.heap.size + 1, 1, none⟩ (.int .i64 x.pl.ty)).setCell ⟨w.heap.size + 1, 2, none⟩ (.int .i64 m)).setCell ⟨w.heap.size + 1, 3, none⟩ (.int .i64 ti)).setCell ⟨w.heap.size + 1, 4, none⟩ (.int .i64 x.src)).setCell ⟨w.heap.size + 1, 5, none⟩ (.slice acv cl.length ccv)).setCell ⟨w.heap.size + 1, 6, none⟩ (.bool ex)).setCell ⟨w.heap.size + 1, 7, none⟩ (.int .i64 pr)).setCell ⟨w.heap.size + 1, 8, none⟩ (.string en)).setCell ⟨w.heap.size + 1, 9, none⟩ (.string py)).setCell ⟨w.heap.size + 1, 10, none⟩ (.int .i64 pa)) base wb _ (passW x ⟨mk, ex, ty, n, ti, so, pr, pa, cl, en, py⟩ (.slice acv cl.length ccv) ring)) := V4.out.chg hcF (fun e => hne1 e) (fun b hb e => by
        rcases U4.out.own b hb with e' | e'
        · have := (H.out.row.lt b e').2; omega
        · have := V4.out.row.lt b hb; exact hNB b hb e) (fun b hb e => by have := HC.out b hb; omega)
      have FU : Hid (SdUp w (((((((((((w4.setCell ⟨w.heap.size + 1, 0, none⟩ (.bool mk)).setCell ⟨w.heap.size + 1, 1, none⟩ (.int .i64 x.pl.ty)).setCell ⟨w.heap.size + 1, 2, none⟩ (.int .i64 m)).setCell ⟨w.heap.size + 1, 3, none⟩ (.int .i64 ti)).setCell ⟨w.heap.size + 1, 4, none⟩ (.int .i64 x.src)).setCell ⟨w.heap.size + 1, 5, none⟩ (.slice acv cl.length ccv)).setCell ⟨w.heap.size + 1, 6, none⟩ (.bool ex)).setCell ⟨w.heap.size + 1, 7, none⟩ (.int .i64 pr)).setCell ⟨w.heap.size + 1, 8, none⟩ (.string en)).setCell ⟨w.heap.size + 1, 9, none⟩ (.string py)).setCell ⟨w.heap.size + 1, 10, none⟩ (.int .i64 pa)) wb v _) := ⟨U4.out.chg.trans hcF (fun b hb e => by omega), U4.out.own⟩
      clear hcF
      go_wp2
      rw [Hm.out]
      refine bodyPost_ret (v := .agg #[.bool mk, .int .i64 x.pl.ty, .int .i64 m, .int .i64 ti, .int .i64 x.src, .slice acv cl.length ccv, .bool ex, .int .i64 pr, .string en, .string py, .int .i64 pa]) (by simp [results, Tryz.results94, go_sem, z0, z1, z2, z3, z4, z5, z6, z7, z8, z9, z10]) rfl ⟨rfl, _, FV.out, FU.out⟩
    · have hgt' : ¬ (ring : Int) < KL.length := by omega
      rw [if_neg hgt] at Hkp
      have V4 : Hid (WnAt C w3 base wb (.slice a3 KL.length c3) (passW x ⟨mk, ex, ty, n, ti, so, pr, pa, cl, en, py⟩ (.slice acv cl.length ccv) ring)) := by
        show WnAt _ _ _ _ _ _
        unfold passW
        rw [Hkp.out]
        exact V3.out
      have hNB : ∀ b, (Value.slice a3 KL.length c3).ownBlock = some b → ¬ b = w.heap.size + 1 := fun b hb e => by
        rcases own3.out b hb with e' | e'
        · exact hnb b (.inr e) (.inr e')
        · omega
      obtain ⟨q0, q1, q2, q3, q4, q5, q6, q7, q8, q9, q10, z0, z1, z2, z3, z4, z5, z6, z7, z8, z9, z10, qf0, qf1⟩ := B3.out
      have hcF : Chg (fun b => b = w.heap.size + 1) w3 (((((((((((w3.setCell ⟨w.heap.size + 1, 0, none⟩ (.bool mk)).setCell ⟨w.heap.size + 1, 1, none⟩ (.int .i64 x.pl.ty)).setCell ⟨w.heap.size + 1, 2, none⟩ (.int .i64 m)).setCell ⟨w.heap.size + 1, 3, none⟩ (.int .i64 ti)).setCell ⟨w.heap.size + 1, 4, none⟩ (.int .i64 x.src)).setCell ⟨w.heap.size + 1, 5, none⟩ (.slice acv cl.length ccv)).setCell ⟨w.heap.size + 1, 6, none⟩ (.bool ex)).setCell ⟨w.heap.size + 1, 7, none⟩ (.int .i64 pr)).setCell ⟨w.heap.size + 1, 8, none⟩ (.string en)).setCell ⟨w.heap.size + 1, 9, none⟩ (.string py)).setCell ⟨w.heap.size + 1, 10, none⟩ (.int .i64 pa)) := ((((((((((((Chg.refl (fun b => b = w.heap.size + 1) _).setCell ⟨w.heap.size + 1, 0, none⟩ (.inl rfl) _).setCell ⟨w.heap.size + 1, 1, none⟩ (.inl rfl) _).setCell ⟨w.heap.size + 1, 2, none⟩ (.inl rfl) _).setCell ⟨w.heap.size + 1, 3, none⟩ (.inl rfl) _).setCell ⟨w.heap.size + 1, 4, none⟩ (.inl rfl) _).setCell ⟨w.heap.size + 1, 5, none⟩ (.inl rfl) _).setCell ⟨w.heap.size + 1, 6, none⟩ (.inl rfl) _).setCell ⟨w.heap.size + 1, 7, none⟩ (.inl rfl) _).setCell ⟨w.heap.size + 1, 8, none⟩ (.inl rfl) _).setCell ⟨w.heap.size + 1, 9, none⟩ (.inl rfl) _).setCell ⟨w.heap.size + 1, 10, none⟩ (.inl rfl) _)
      have FV : Hid (WnAt C (((((((((((w3.setCell ⟨w.heap.size + 1, 0, none⟩ (.bool mk)).setCell ⟨w.heap.size + 1, 1, none⟩ (.int .i64 x.pl.ty)).setCell ⟨w.heap.size + 1, 2, none⟩ (.int .i64 m)).setCell ⟨w.heap.size + 1, 3, none⟩ (.int .i64 ti)).setCell ⟨w.heap.size + 1, 4, none⟩ (.int .i64 x.src)).setCell ⟨w.heap.size + 1, 5, none⟩ (.slice acv cl.length ccv)).setCell ⟨w.heap.size + 1, 6, none⟩ (.bool ex)).setCell ⟨w.heap.size + 1, 7, none⟩ (.int .i64 pr)).setCell ⟨w.heap.size + 1, 8, none⟩ (.string en)).setCell ⟨w.heap.size + 1, 9, none⟩ (.string py)).setCell ⟨w.heap.size + 1, 10, none⟩ (.int .i64 pa)) base wb (.slice a3 KL.length c3) (passW x ⟨mk, ex, ty, n, ti, so, pr, pa, cl, en, py⟩ (.slice acv cl.length ccv) ring)) := V4.out.chg hcF (fun e => hne1 e) (fun b hb e => by
        rcases U3.out.own b hb with e' | e'
        · have := (H.out.row.lt b e').2; omega
        · have := V4.out.row.lt b hb; exact hNB b hb e) (fun b hb e => by have := HC.out b hb; omega)
      have FU : Hid (SdUp w (((((((((((w3.setCell ⟨w.heap.size + 1, 0, none⟩ (.bool mk)).setCell ⟨w.heap.size + 1, 1, none⟩ (.int .i64 x.pl.ty)).setCell ⟨w.heap.size + 1, 2, none⟩ (.int .i64 m)).setCell ⟨w.heap.size + 1, 3, none⟩ (.int .i64 ti)).setCell ⟨w.heap.size + 1, 4, none⟩ (.int .i64 x.src)).setCell ⟨w.heap.size + 1, 5, none⟩ (.slice acv cl.length ccv)).setCell ⟨w.heap.size + 1, 6, none⟩ (.bool ex)).setCell ⟨w.heap.size + 1, 7, none⟩ (.int .i64 pr)).setCell ⟨w.heap.size + 1, 8, none⟩ (.string en)).setCell ⟨w.heap.size + 1, 9, none⟩ (.string py)).setCell ⟨w.heap.size + 1, 10, none⟩ (.int .i64 pa)) wb v (.slice a3 KL.length c3)) := ⟨U3.out.chg.trans hcF (fun b hb e => by omega), U3.out.own⟩
      clear hcF
      go_wp2
      rw [Hm.out]
      refine bodyPost_ret (v := .agg #[.bool mk, .int .i64 x.pl.ty, .int .i64 m, .int .i64 ti, .int .i64 x.src, .slice acv cl.length ccv, .bool ex, .int .i64 pr, .string en, .string py, .int .i64 pa]) (by simp [results, Tryz.results94, go_sem, z0, z1, z2, z3, z4, z5, z6, z7, z8, z9, z10]) rfl ⟨rfl, _, FV.out, FU.out⟩

end Go.Proofs.YtdjhhnolcafkiaaGreat

/- A mender in memory: plain facts. Each block has a role: 0 nobody's, 1 the mender, 2 and 3 its lists of senders and wants, 4 lists of contributors, from 10 on the senders and their lists, from 1000 on the wants (by their ids) and theirs. -/
namespace Go.Proofs.YtdjhhnolcafkiaaGreat
open Go.RowKit
namespace Pk

structure Cfg where
  ring : Int
  window : Int
  delay : Int
  rate : Int
  burst : Int
  retry : Int
  tries : Int
structure Stt where
  now : Int
  tokens : Int
  passed : Int
  late : Int
  doubled : Int
  wrong : Int
  unknown : Int
  again : Int
  refused : Int
  asked : Int
  givenUp : Int
structure Md where
  c : Cfg
  s : Stt
  sds : List Sd
  wns : List Wn
  last : Int
def cfgV (c : Cfg) : List Value := [.int .i64 c.ring, .int .i64 c.window, .int .i64 c.delay, .int .i64 c.rate, .int .i64 c.burst, .int .i64 c.retry, .int .i64 c.tries]
def sttV (s : Stt) : List Value := [.int .i64 s.now, .int .i64 s.tokens, .int .i64 s.passed, .int .i64 s.late, .int .i64 s.doubled, .int .i64 s.wrong, .int .i64 s.unknown, .int .i64 s.again, .int .i64 s.refused, .int .i64 s.asked, .int .i64 s.givenUp]
def mdV (M : Md) (sv wv : Value) : List Value := cfgV M.c ++ sttV M.s ++ [sv, wv, .int .i64 M.last]
def ptr (b : Nat) : Value := .pointer (some ⟨b, 0, none⟩)

structure MdAt (W : World) (ρ : Nat → Nat) (mb : Nat) (M : Md) (sv wv : Value) (SB WB : List (Nat × Value)) : Prop where
  k : ∀ i u, (mdV M sv wv)[i]? = some u → W.cell? ⟨mb, i, none⟩ = some u
  fz : ∀ o, W.frozen? ⟨mb, o, none⟩ = false
  sr : W.ownsRow (mb + 1) 91 1 sv SB.length (SB.map fun p => ptr p.1)
  wr : W.ownsRow (mb + 1) 95 1 wv WB.length (WB.map fun p => ptr p.1)
  sl : SB.length = M.sds.length
  wl : WB.length = M.wns.length
  s4 : M.sds.length ≤ 4
  sa : ∀ (i : Nat) (p : Nat × Value) (s : Sd), SB[i]? = some p → M.sds[i]? = some s → SdAt W (p.1 + 1) p.1 p.2 s ∧ ρ p.1 = 10 + 2 * i ∧ ∀ b, p.2.ownBlock = some b → ρ b = 11 + 2 * i
  wa : ∀ (i : Nat) (p : Nat × Value) (x : Wn), WB[i]? = some p → M.wns[i]? = some x → WnAt (fun b => ρ b = 4) W (p.1 + 1) p.1 p.2 x ∧ ρ p.1 = 1000 + 2 * x.id.toNat ∧ ∀ b, p.2.ownBlock = some b → ρ b = 1001 + 2 * x.id.toNat
  ids : ∀ (i j : Nat) (x y : Wn), i ≠ j → M.wns[i]? = some x → M.wns[j]? = some y → x.id.toNat ≠ y.id.toNat
  rm : ρ mb = 1
  rs : ∀ b, sv.ownBlock = some b → ρ b = 2
  rw : ∀ b, wv.ownBlock = some b → ρ b = 3
  hi : ∀ b, W.heap.size ≤ b → ρ b = 0

theorem map_set_ptr (SB : List (Nat × Value)) (i : Nat) (p : Nat × Value) (v' : Value) (h : SB[i]? = some p) : (SB.set i (p.1, v')).map (fun p => ptr p.1) = SB.map (fun p => ptr p.1) := by
  have hl := (List.getElem?_eq_some_iff.1 h).1
  apply List.ext_getElem?
  intro j
  rw [List.getElem?_map, List.getElem?_map, List.getElem?_set]
  by_cases e : i = j
  · subst e
    rw [if_pos rfl, if_pos hl, h]
    rfl
  · rw [if_neg e]

section
variable {W W' : World} {ρ : Nat → Nat} {mb : Nat} {M : Md} {sv wv : Value} {SB WB : List (Nat × Value)}
theorem MdAt.lt (h : MdAt W ρ mb M sv wv SB WB) : mb < W.heap.size := lt_of_cell (h.k 0 _ rfl)

/-- blocks of the roles R turn: what has another role is as it was -/
theorem MdAt.part {T : Nat → Prop} (h : MdAt W ρ mb M sv wv SB WB) (hc : Chg T W W') (i : Nat) (p : Nat × Value) :
    (∀ s, SB[i]? = some p → M.sds[i]? = some s → (∀ b, T b → ρ b ≠ 10 + 2 * i ∧ ρ b ≠ 11 + 2 * i) → SdAt W' (p.1 + 1) p.1 p.2 s) ∧
    (∀ x, WB[i]? = some p → M.wns[i]? = some x → (∀ b, T b → ρ b ≠ 1000 + 2 * x.id.toNat ∧ ρ b ≠ 1001 + 2 * x.id.toNat ∧ ρ b ≠ 4) → WnAt (fun b => ρ b = 4) W' (p.1 + 1) p.1 p.2 x) := by
  refine ⟨fun s h1 h2 h3 => ?_, fun x h1 h2 h3 => ?_⟩
  · obtain ⟨a, b, c⟩ := h.sa i p s h1 h2
    exact a.chg hc (fun e => (h3 _ e).1 b) (fun y hy e => (h3 _ e).2 (c y hy))
  · obtain ⟨a, b, c⟩ := h.wa i p x h1 h2
    exact a.chg hc (fun e => (h3 _ e).1 b) (fun y hy e => (h3 _ e).2.1 (c y hy)) (fun y hy e => (h3 _ e).2.2 hy)

/-- what is nobody's turns -/
theorem MdAt.chg {T : Nat → Prop} (h : MdAt W ρ mb M sv wv SB WB) (hc : Chg T W W') (hT : ∀ b, T b → ρ b = 0) : MdAt W' ρ mb M sv wv SB WB := by
  have hm : ¬ T mb := fun e => by have := hT mb e; rw [h.rm] at this; cases this
  exact ⟨fun i u hu => hc.cell (h.k i u hu) hm, fun o => (hc.frozen (p := ⟨mb, o, none⟩) h.lt hm).trans (h.fz o), rowA_chg hc h.sr (fun b hb e => by have := hT b e; rw [h.rs b hb] at this; cases this), rowA_chg hc h.wr (fun b hb e => by have := hT b e; rw [h.rw b hb] at this; cases this), h.sl, h.wl, h.s4,
    fun i p s h1 h2 => ⟨(h.part hc i p).1 s h1 h2 (fun b hb => by rw [hT b hb]; omega), (h.sa i p s h1 h2).2⟩, fun i p x h1 h2 => ⟨(h.part hc i p).2 x h1 h2 (fun b hb => by rw [hT b hb]; omega), (h.wa i p x h1 h2).2⟩, h.ids, h.rm, h.rs, h.rw, fun b hb => h.hi b (Nat.le_trans hc.size hb)⟩
theorem MdAt.below (h : MdAt W ρ mb M sv wv SB WB) (hb : Below W.heap.size W W') : MdAt W' ρ mb M sv wv SB WB := h.chg (T := fun _ => False) (Chg.ofBelow hb) (fun _ e => e.elim)

/-- the mender's own block turns: its cells are told anew -/
theorem MdAt.own {M' : Md} {sv' wv' : Value} (h : MdAt W ρ mb M sv wv SB WB) (hc : Chg (fun b => b = mb) W W') (hk : ∀ i u, (mdV M' sv' wv')[i]? = some u → W'.cell? ⟨mb, i, none⟩ = some u) (hf : ∀ o, W'.frozen? ⟨mb, o, none⟩ = false) (e1 : M'.sds = M.sds) (e2 : M'.wns = M.wns) (e3 : sv' = sv) (e4 : wv' = wv) : MdAt W' ρ mb M' sv' wv' SB WB := by
  subst e3 e4
  refine ⟨hk, hf, rowA_chg hc h.sr (fun b hb e => by subst e; have := h.rs b hb; rw [h.rm] at this; cases this), rowA_chg hc h.wr (fun b hb e => by subst e; have := h.rw b hb; rw [h.rm] at this; cases this), by rw [e1]; exact h.sl, by rw [e2]; exact h.wl, by rw [e1]; exact h.s4, ?_, ?_, by rw [e2]; exact h.ids, h.rm, h.rs, h.rw, fun b hb => h.hi b (Nat.le_trans hc.size hb)⟩
  · intro i p s h1 h2
    rw [e1] at h2
    exact ⟨(h.part hc i p).1 s h1 h2 (fun b hb => by subst hb; rw [h.rm]; omega), (h.sa i p s h1 h2).2⟩
  · intro i p x h1 h2
    rw [e2] at h2
    exact ⟨(h.part hc i p).2 x h1 h2 (fun b hb => by subst hb; rw [h.rm]; omega), (h.wa i p x h1 h2).2⟩

/-- other roles where nobody's were -/
theorem MdAt.roles {ρ' : Nat → Nat} (h : MdAt W ρ mb M sv wv SB WB) (h1 : ∀ b, b < W.heap.size → ρ b ≠ 0 → ρ' b = ρ b) (h2 : ∀ b, W.heap.size ≤ b → ρ' b = 0) : MdAt W ρ' mb M sv wv SB WB := by
  refine ⟨h.k, h.fz, h.sr, h.wr, h.sl, h.wl, h.s4, ?_, ?_, h.ids, (h1 mb h.lt (by rw [h.rm]; decide)).trans h.rm, fun b hb => (h1 b (h.sr.lt b hb).2 (by rw [h.rs b hb]; decide)).trans (h.rs b hb), fun b hb => (h1 b (h.wr.lt b hb).2 (by rw [h.rw b hb]; decide)).trans (h.rw b hb), h2⟩
  · intro i p s g1 g2
    obtain ⟨a, b, c⟩ := h.sa i p s g1 g2
    exact ⟨a, (h1 _ a.lt (by rw [b]; omega)).trans b, fun y hy => (h1 y (a.row.lt y hy).2 (by rw [c y hy]; omega)).trans (c y hy)⟩
  · intro i p x g1 g2
    obtain ⟨a, b, c⟩ := h.wa i p x g1 g2
    have c' : ∀ y, p.2.ownBlock = some y → ρ' y = 1001 + 2 * x.id.toNat := fun y hy => (h1 y (a.row.lt y hy).2 (by rw [c y hy]; omega)).trans (c y hy)
    have b' : ρ' p.1 = 1000 + 2 * x.id.toNat := (h1 _ a.lt (by rw [b]; omega)).trans b
    refine ⟨⟨a.c0, a.c1, a.c2, a.c3, a.c4, a.c5, a.c6, a.c7, a.c8, a.c9, a.c10, a.c11, a.c12, a.fz, a.row, a.sb, fun k hk => (a.con k hk).mono (fun y hy e => (h1 y hy (by rw [e]; decide)).trans e), fun e => by have e' : ρ' p.1 = 4 := e; omega, fun y hy e => by have e' : ρ' y = 4 := e; rw [c' y hy] at e'; omega⟩, b', c'⟩

/-- a sender turns -/
theorem MdAt.snd {i : Nat} {p : Nat × Value} {v' : Value} {s s' : Sd} (h : MdAt W ρ mb M sv wv SB WB) (h1 : SB[i]? = some p) (h2 : M.sds[i]? = some s) (hS : SdAt W' (p.1 + 1) p.1 v' s') (hU : SdUp W W' p.1 p.2 v') :
    MdAt W' (fun b => if v'.ownBlock = some b then 11 + 2 * i else ρ b) mb { M with sds := M.sds.set i s' } sv wv (SB.set i (p.1, v')) WB ∧ (∀ b, b < W.heap.size → ρ b = 0 → (if v'.ownBlock = some b then 11 + 2 * i else ρ b) = 0) ∧ Chg (fun b => ρ b ≠ 0) W W' := by
  obtain ⟨a, b, c⟩ := h.sa i p s h1 h2
  have hil : i < SB.length := (List.getElem?_eq_some_iff.1 h1).1
  have hi4 : i < 4 := by have := h.sl; have := h.s4; omega
  have tr : ∀ y, (y = p.1 ∨ p.2.ownBlock = some y) → ρ y = 10 + 2 * i ∨ ρ y = 11 + 2 * i := fun y hy => by
    rcases hy with e | e
    · exact .inl (by rw [e]; exact b)
    · exact .inr (c y e)
  have ne : ∀ r, r ≠ 10 + 2 * i → r ≠ 11 + 2 * i → ∀ y, ρ y = r → ¬ (y = p.1 ∨ p.2.ownBlock = some y) := fun r e1 e2 y hy e => by rcases tr y e with e' | e' <;> omega
  have hv : ∀ y, v'.ownBlock = some y → p.2.ownBlock = some y ∨ W.heap.size ≤ y := hU.own
  have keep : ∀ y, ρ y ≠ 0 → ρ y ≠ 11 + 2 * i → (if v'.ownBlock = some y then 11 + 2 * i else ρ y) = ρ y := fun y e1 e2 => by
    rw [if_neg (fun e => by
      rcases hv y e with e' | e'
      · exact e2 (c y e')
      · exact e1 (h.hi y e'))]
  have k2 : ∀ y r, ρ y = r → r ≠ 0 → r ≠ 11 + 2 * i → (if v'.ownBlock = some y then 11 + 2 * i else ρ y) = r := fun y r e1 e2 e3 => by rw [keep y (by omega) (by omega), e1]
  have kC : ∀ y, y < W'.heap.size → (ρ y = 4 ↔ (if v'.ownBlock = some y then 11 + 2 * i else ρ y) = 4) := fun y _ => by
    constructor
    · intro e; rw [k2 y 4 e (by omega) (by omega)]
    · intro e
      split at e
      · omega
      · exact e
  refine ⟨⟨fun j u hu => hU.chg.cell (h.k j u hu) (ne 1 (by omega) (by omega) mb h.rm), fun o => (hU.chg.frozen (p := ⟨mb, o, none⟩) h.lt (ne 1 (by omega) (by omega) mb h.rm)).trans (h.fz o), ?_, rowA_chg hU.chg h.wr (fun y hy => ne 3 (by omega) (by omega) y (h.rw y hy)), by simp [h.sl], h.wl, by simpa using h.s4, ?_, ?_, h.ids, k2 mb 1 h.rm (by omega) (by omega), fun y hy => k2 y 2 (h.rs y hy) (by omega) (by omega), fun y hy => k2 y 3 (h.rw y hy) (by omega) (by omega), ?_⟩, ?_, ?_⟩
  · have hr := rowA_chg hU.chg h.sr (fun y hy => ne 2 (by omega) (by omega) y (h.rs y hy))
    rw [List.length_set, map_set_ptr SB i p v' h1]
    exact hr
  · intro j q t g1 g2
    rw [List.getElem?_set] at g1 g2
    by_cases e : i = j
    · subst e
      rw [if_pos rfl] at g1 g2
      have hil2 : i < M.sds.length := by rw [← h.sl]; exact hil
      simp only [hil, hil2, if_true, Option.some.injEq] at g1 g2
      subst g1 g2
      refine ⟨hS, k2 p.1 (10 + 2 * i) b (by omega) (by omega), fun y hy => by simp only at hy ⊢; rw [if_pos hy]⟩
    · rw [if_neg e] at g1 g2
      obtain ⟨_, b', c'⟩ := h.sa j q t g1 g2
      refine ⟨(h.part hU.chg j q).1 t g1 g2 (fun y hy => by rcases tr y hy with e' | e' <;> omega), k2 q.1 _ b' (by omega) (by omega), fun y hy => k2 y _ (c' y hy) (by omega) (by omega)⟩
  · intro j q t g1 g2
    obtain ⟨_, b', c'⟩ := h.wa j q t g1 g2
    have hw := (h.part hU.chg j q).2 t g1 g2 (fun y hy => by rcases tr y hy with e' | e' <;> omega)
    exact ⟨hw.mono kC, k2 q.1 _ b' (by omega) (by omega), fun y hy => k2 y _ (c' y hy) (by omega) (by omega)⟩
  · intro y hy
    rw [if_neg (fun e => by have := (hS.row.lt y e).2; omega)]
    exact h.hi y (Nat.le_trans hU.chg.size hy)
  · intro y hy h0
    rw [if_neg (fun e => by
      rcases hv y e with e' | e'
      · rw [c y e'] at h0; omega
      · omega)]
    exact h0
  · exact hU.chg.mono (fun y _ e => by rcases tr y e with e' | e' <;> omega)

/-- a want turns -/
theorem MdAt.wnt {i : Nat} {p : Nat × Value} {v' : Value} {x x' : Wn} (h : MdAt W ρ mb M sv wv SB WB) (h1 : WB[i]? = some p) (h2 : M.wns[i]? = some x) (hid : x'.id = x.id) (hS : WnAt (fun b => ρ b = 4) W' (p.1 + 1) p.1 v' x') (hU : SdUp W W' p.1 p.2 v') :
    MdAt W' (fun b => if v'.ownBlock = some b then 1001 + 2 * x.id.toNat else ρ b) mb { M with wns := M.wns.set i x' } sv wv SB (WB.set i (p.1, v')) ∧ (∀ b, b < W.heap.size → ρ b = 0 → (if v'.ownBlock = some b then 1001 + 2 * x.id.toNat else ρ b) = 0) ∧ Chg (fun b => ρ b ≠ 0) W W' := by
  obtain ⟨a, b, c⟩ := h.wa i p x h1 h2
  have hil : i < WB.length := (List.getElem?_eq_some_iff.1 h1).1
  have tr : ∀ y, (y = p.1 ∨ p.2.ownBlock = some y) → ρ y = 1000 + 2 * x.id.toNat ∨ ρ y = 1001 + 2 * x.id.toNat := fun y hy => by
    rcases hy with e | e
    · exact .inl (by rw [e]; exact b)
    · exact .inr (c y e)
  have ne : ∀ r, r ≠ 1000 + 2 * x.id.toNat → r ≠ 1001 + 2 * x.id.toNat → ∀ y, ρ y = r → ¬ (y = p.1 ∨ p.2.ownBlock = some y) := fun r e1 e2 y hy e => by rcases tr y e with e' | e' <;> omega
  have hv : ∀ y, v'.ownBlock = some y → p.2.ownBlock = some y ∨ W.heap.size ≤ y := hU.own
  have k2 : ∀ y r, ρ y = r → r ≠ 0 → r ≠ 1001 + 2 * x.id.toNat → (if v'.ownBlock = some y then 1001 + 2 * x.id.toNat else ρ y) = r := fun y r e1 e2 e3 => by
    rw [if_neg (fun e => by
      rcases hv y e with e' | e'
      · rw [c y e'] at e1; omega
      · rw [h.hi y e'] at e1; omega), e1]
  have kC : ∀ y, y < W'.heap.size → (ρ y = 4 ↔ (if v'.ownBlock = some y then 1001 + 2 * x.id.toNat else ρ y) = 4) := fun y _ => by
    constructor
    · intro e; rw [k2 y 4 e (by omega) (by omega)]
    · intro e
      split at e
      · omega
      · exact e
  refine ⟨⟨fun j u hu => hU.chg.cell (h.k j u hu) (ne 1 (by omega) (by omega) mb h.rm), fun o => (hU.chg.frozen (p := ⟨mb, o, none⟩) h.lt (ne 1 (by omega) (by omega) mb h.rm)).trans (h.fz o), rowA_chg hU.chg h.sr (fun y hy => ne 2 (by omega) (by omega) y (h.rs y hy)), ?_, h.sl, by simp [h.wl], h.s4, ?_, ?_, ?_, k2 mb 1 h.rm (by omega) (by omega), fun y hy => k2 y 2 (h.rs y hy) (by omega) (by omega), fun y hy => k2 y 3 (h.rw y hy) (by omega) (by omega), ?_⟩, ?_, ?_⟩
  · have hr := rowA_chg hU.chg h.wr (fun y hy => ne 3 (by omega) (by omega) y (h.rw y hy))
    rw [List.length_set, map_set_ptr WB i p v' h1]
    exact hr
  · intro j q t g1 g2
    have g3 : M.sds[j]? = some t := g2
    have hj : j < 4 := by have := (List.getElem?_eq_some_iff.1 g3).1; have := h.s4; omega
    obtain ⟨_, b', c'⟩ := h.sa j q t g1 g2
    exact ⟨(h.part hU.chg j q).1 t g1 g2 (fun y hy => by rcases tr y hy with e' | e' <;> omega), k2 q.1 _ b' (by omega) (by omega), fun y hy => k2 y _ (c' y hy) (by omega) (by omega)⟩
  · intro j q t g1 g2
    rw [List.getElem?_set] at g1 g2
    by_cases e : i = j
    · subst e
      rw [if_pos rfl] at g1 g2
      have hil2 : i < M.wns.length := by rw [← h.wl]; exact hil
      simp only [hil, hil2, if_true, Option.some.injEq] at g1 g2
      subst g1 g2
      refine ⟨hS.mono kC, by rw [hid]; exact k2 p.1 _ b (by omega) (by omega), fun y hy => by simp only at hy ⊢; rw [if_pos hy, hid]⟩
    · rw [if_neg e] at g1 g2
      have hne := h.ids i j x t e h2 g2
      obtain ⟨_, b', c'⟩ := h.wa j q t g1 g2
      have hw := (h.part hU.chg j q).2 t g1 g2 (fun y hy => by rcases tr y hy with e' | e' <;> omega)
      exact ⟨hw.mono kC, k2 q.1 _ b' (by omega) (by omega), fun y hy => k2 y _ (c' y hy) (by omega) (by omega)⟩
  · intro j l y z hjl g1 g2
    rw [List.getElem?_set] at g1 g2
    have hx : ∀ j y, (if i = j then if i < M.wns.length then some x' else none else M.wns[j]?) = some y → ∃ y', M.wns[j]? = some y' ∧ y'.id = y.id := fun j y g => by
      split at g
      · rename_i e
        subst e
        split at g
        · cases g; exact ⟨x, h2, hid.symm⟩
        · cases g
      · exact ⟨y, g, rfl⟩
    obtain ⟨y', gy, ey⟩ := hx j y g1
    obtain ⟨z', gz, ez⟩ := hx l z g2
    rw [← ey, ← ez]
    exact h.ids j l y' z' hjl gy gz
  · intro y hy
    rw [if_neg (fun e => by have := (hS.row.lt y e).2; omega)]
    exact h.hi y (Nat.le_trans hU.chg.size hy)
  · intro y hy h0
    rw [if_neg (fun e => by
      rcases hv y e with e' | e'
      · rw [c y e'] at h0; omega
      · omega)]
    exact h0
  · exact hU.chg.mono (fun y _ e => by rcases tr y e with e' | e' <;> omega)
end

end Pk
end Go.Proofs.YtdjhhnolcafkiaaGreat

/- Small functions of the mender: between, Has, Of, ID, sender, findWant, knows. -/
namespace Go.Proofs.YtdjhhnolcafkiaaGreat
open Go.RowKit
namespace Pk
theorem eq_dec (a b : Int) : (a == b) = decide (a = b) := by rw [Bool.eq_iff_iff]; simp
theorem idx_none {α : Type} {p : α → Bool} {l : List α} {k : Nat} (hk : l.length ≤ k) (h : ∀ m (hm : m < l.length), m < k → p l[m] = false) : l.findIdx? p = none := by
  rw [List.findIdx?_eq_none_iff]
  intro x hx
  obtain ⟨m, hm, rfl⟩ := List.mem_iff_getElem.1 hx
  exact h m hm (by omega)
theorem idx_some {α : Type} {p : α → Bool} {l : List α} {k : Nat} (hk : k < l.length) (h : ∀ m (hm : m < l.length), m < k → p l[m] = false) (h2 : p l[k] = true) : l.findIdx? p = some k := by
  rw [List.findIdx?_eq_some_iff_getElem]
  exact ⟨hk, h2, fun j hj => by rw [h j (by omega) hj]; simp⟩
/-- where the sender of a source is -/
def sndPos (M : Md) (source : Int) : Option Nat := M.sds.findIdx? fun s => decide (s.src = source)
/-- where the want of an id is -/
def wntPos (M : Md) (id : Int) : Option Nat := M.wns.findIdx? fun x => decide (x.id = id)
def hasW (x : Wn) (source : Int) : Bool := decide (x.src = source) || decide (x.pl.second = source)
end Pk
open Pk

set_option maxHeartbeats 400000 in
theorem between_any (n lo hi : Int) (w : World) :
    Calls Tryz.prog 32 #[.int .i64 n, .int .i64 lo, .int .i64 hi] w fun e w' => e = .returned (.bool (decide (lo ≤ n ∧ n ≤ hi))) ∧ w' = w := by
  by_cases h0 : lo ≤ n
  · by_cases h1 : n ≤ hi
    · go_enter Tryz.func32, Tryz.ntmps32
      go_wp2
      go_ret
      exact ⟨ret_bool (decide_eq_true (by omega)).symm, rfl⟩
    · go_enter Tryz.func32, Tryz.ntmps32
      go_wp2
      go_ret
      exact ⟨ret_bool (by first | exact (decide_eq_false (by omega)).symm | (rw [decide_eq_false (by omega), decide_eq_false (by omega)])), rfl⟩
  · go_enter Tryz.func32, Tryz.ntmps32
    go_wp2
    go_ret
    exact ⟨ret_bool (by rw [decide_eq_false (show ¬ lo ≤ n by omega)]; rfl), rfl⟩

set_option maxHeartbeats 400000 in
theorem hasG_any (sb : Nat) (src source : Int) (w : World) (h : w.cell? ⟨sb, 0, none⟩ = some (.int .i64 src)) :
    Calls Tryz.prog 66 #[.pointer (some ⟨sb, 0, none⟩), .int .i64 source] w fun e w' => e = .returned (.bool (decide (src = source))) ∧ w' = w := by
  have He : Hid ((src == source) = decide (src = source)) := eq_dec _ _
  go_enter Tryz.func66, Tryz.ntmps66
  go_wp2
  go_ret
  exact ⟨ret_bool He.out, rfl⟩

set_option maxHeartbeats 400000 in
theorem hasK_any (sb : Nat) (src source : Int) (w : World) (h : w.cell? ⟨sb, 0, none⟩ = some (.int .i64 src)) :
    Calls Tryz.prog 84 #[.pointer (some ⟨sb, 0, none⟩), .int .i64 source] w fun e w' => e = .returned (.bool (decide (src = source))) ∧ w' = w := by
  have He : Hid ((src == source) = decide (src = source)) := eq_dec _ _
  go_enter Tryz.func84, Tryz.ntmps84
  go_wp2
  go_ret
  exact ⟨ret_bool He.out, rfl⟩

set_option maxHeartbeats 400000 in
theorem wantHas_any (wb : Nat) (src second source : Int) (w : World) (h : w.cell? ⟨wb, 0, none⟩ = some (.int .i64 src)) (h6 : w.cell? ⟨wb, 6, none⟩ = some (.int .i64 second)) :
    Calls Tryz.prog 65 #[.pointer (some ⟨wb, 0, none⟩), .int .i64 source] w fun e w' => e = .returned (.bool (decide (src = source) || decide (second = source))) ∧ w' = w := by
  have He : Hid ((second == source) = decide (second = source)) := eq_dec _ _
  have Hh := Pk.hid h
  by_cases hs : src = source
  · have Hr : Hid (true = (decide (src = source) || decide (second = source))) := by show _ = _; rw [decide_eq_true hs]; rfl
    go_enter Tryz.func65, Tryz.ntmps65
    go_wp2_with fail
    refine (hasK_any wb src source _ Hh.out).mono ?_
    rintro e w1 ⟨rfl, hw1⟩
    rw [hw1, decide_eq_true hs]
    clear hw1
    go_wp2
    go_ret
    exact ⟨ret_bool Hr.out, rfl⟩
  · have Hr : Hid ((second == source) = (decide (src = source) || decide (second = source))) := by show _ = _; rw [decide_eq_false hs, He.out]; rfl
    go_enter Tryz.func65, Tryz.ntmps65
    go_wp2_with fail
    refine (hasK_any wb src source _ Hh.out).mono ?_
    rintro e w1 ⟨rfl, hw1⟩
    rw [hw1, decide_eq_false hs]
    clear hw1
    go_wp2
    go_ret
    exact ⟨ret_bool Hr.out, rfl⟩

set_option maxHeartbeats 400000 in
theorem wantOf_any (wb : Nat) (of_ source : Int) (w : World) (h : w.cell? ⟨wb, 4, none⟩ = some (.int .i64 of_)) :
    Calls Tryz.prog 92 #[.pointer (some ⟨wb, 0, none⟩), .int .i64 source] w fun e w' => e = .returned (.bool (decide (of_ = source))) ∧ w' = w := by
  have He : Hid ((of_ == source) = decide (of_ = source)) := eq_dec _ _
  go_enter Tryz.func92, Tryz.ntmps92
  go_wp2
  go_ret
  exact ⟨ret_bool He.out, rfl⟩

set_option maxHeartbeats 400000 in
theorem wantID_any (wb : Nat) (id : Int) (w : World) (h : w.cell? ⟨wb, 3, none⟩ = some (.int .i64 id)) :
    Calls Tryz.prog 69 #[.pointer (some ⟨wb, 0, none⟩)] w fun e w' => e = .returned (.int .i64 id) ∧ w' = w := by
  go_enter Tryz.func69, Tryz.ntmps69
  go_wp2
  go_ret
  exact ⟨rfl, rfl⟩

set_option maxRecDepth 20000 in
set_option maxHeartbeats 2000000 in
theorem sender_any (ρ : Nat → Nat) (mb : Nat) (M : Md) (sv wv : Value) (SB WB : List (Nat × Value)) (source : Int) (w : World) (h : MdAt w ρ mb M sv wv SB WB) :
    Calls Tryz.prog 38 #[.pointer (some ⟨mb, 0, none⟩), .int .i64 source] w fun e w' => w' = w ∧
      ((sndPos M source = none ∧ e = .returned (.pointer none)) ∨ ∃ i p s, sndPos M source = some i ∧ SB[i]? = some p ∧ M.sds[i]? = some s ∧ s.src = source ∧ e = .returned (ptr p.1)) := by
  obtain ⟨ao, cap, rfl⟩ := rowA_shape h.sr
  have H := Pk.hid h
  have y18 : w.cell? ⟨mb, 18, none⟩ = some (.slice ao SB.length cap) := h.k 18 _ rfl
  have hs4 : SB.length ≤ 4 := by have := h.sl; have := h.s4; omega
  clear h
  go_enter Tryz.func38, Tryz.ntmps38
  go_wp2
  go_loopw [12] (fun s12 wr => ∃ k : Nat, k ≤ SB.length ∧ s12 = .int .i64 k ∧ (∀ m (hm : m < M.sds.length), m < k → decide ((M.sds[m]).src = source) = false) ∧ wr = w) (fun s12 _ => SB.length - (intOf s12).toNat)
  case atStart => exact ⟨0, Nat.zero_le _, rfl, fun m _ hm => by omega, rfl⟩
  case round =>
    obtain ⟨k, hk, rfl, hno, hwr⟩ := hrel
    rw [hwr]
    clear hwr
    have Hno := Pk.hid hno
    clear hno
    by_cases hlt : k < SB.length
    · have hlt' : (k : Int) < SB.length := by omega
      obtain ⟨g, rfl⟩ := rowA_some H.out.sr (by omega)
      have hks : k < M.sds.length := by rw [← H.out.sl]; exact hlt
      have hp : SB[k]? = some SB[k] := List.getElem?_eq_getElem hlt
      have hs : M.sds[k]? = some M.sds[k] := List.getElem?_eq_getElem hks
      have d0 : w.cell? ⟨g, k, none⟩ = some (ptr (SB[k]).1) := by
        have h := H.out.sr.cellAt k (by omega)
        rw [h, List.getElem?_map, hp]
        rfl
      obtain ⟨hSd, _, _⟩ := H.out.sa k _ _ hp hs
      have Hp := Pk.hid hp
      have Hs := Pk.hid hs
      have hx := hSd.c0
      obtain ⟨p, hpe⟩ : ∃ p, SB[k] = p := ⟨_, rfl⟩
      obtain ⟨s, hse⟩ : ∃ s, M.sds[k] = s := ⟨_, rfl⟩
      have Hse := Pk.hid hse
      rw [hpe] at d0 hx Hp
      rw [hse] at hx Hs
      unfold ptr at d0
      clear hpe hse hp hs hSd
      go_wp2_with fail
      refine (hasG_any p.1 s.src source _ hx).mono ?_
      rintro e w1 ⟨rfl, hw1⟩
      rw [hw1]
      clear hw1
      by_cases he : s.src = source
      · rw [decide_eq_true he]
        have Hi : Hid (sndPos M source = some k) := idx_some hks Hno.out (by rw [Hse.out]; exact decide_eq_true he)
        have He := Pk.hid he
        clear he
        go_wp2
        go_ret
        exact ⟨rfl, .inr ⟨k, p, s, Hi.out, Hp.out, Hs.out, He.out, rfl⟩⟩
      · rw [decide_eq_false he]
        have He : Hid (decide (s.src = source) = false) := decide_eq_false he
        clear he
        go_wp2
        go_roundw
        case rel => exact ⟨k + 1, by omega, by go_num, fun m hm hmk => by
          rcases Nat.lt_or_ge m k with h | h
          · exact Hno.out m hm h
          · obtain rfl : m = k := by omega
            rw [Hse.out]; exact He.out, trivial⟩
        case measure => simp [intOf]; omega
    · have hlt' : ¬ (k : Int) < SB.length := by omega
      have Hi : Hid (sndPos M source = none) := idx_none (k := k) (by rw [← H.out.sl]; omega) Hno.out
      go_wp2
      go_ret
      exact ⟨rfl, .inl ⟨Hi.out, rfl⟩⟩

end Go.Proofs.YtdjhhnolcafkiaaGreat

/- findWant, knows. -/
namespace Go.Proofs.YtdjhhnolcafkiaaGreat
open Go.RowKit
namespace Pk
def posI : Option Nat → Int
  | some i => i
  | none => -1
/-- where a want that has a source is -/
def hasPos (M : Md) (source : Int) : Option Nat := M.wns.findIdx? fun x => hasW x source
def knowsF (M : Md) (source : Int) : Bool := (sndPos M source).isSome || (hasPos M source).isSome
end Pk
open Pk

set_option maxHeartbeats 1000000 in
theorem findW1_any (wb : Nat) (x : Wn) (a : Int) (B : Nat) (W : World) {C : Nat → Prop} {base : Nat} {v : Value} (h : WnAt C W base wb v x) (hB : W.cell? ⟨B, 0, none⟩ = some (.int .i64 a)) :
    Calls Tryz.prog 68 #[.pointer (some ⟨wb, 0, none⟩), .pointer (some ⟨B, 0, none⟩)] W fun e w' => e = .returned (.bool (decide (x.id = a))) ∧ Below W.heap.size W w' := by
  have y3 := h.c3
  have He : Hid ((x.id == a) = decide (x.id = a)) := eq_dec _ _
  go_enter Tryz.func68, Tryz.ntmps68
  go_wp2
  refine wp_region_noPanic ?_
  refine wp_region_held_drew (S := fun W => W.cell? ⟨B, 0, none⟩ = some (.int .i64 a)) (by kernel_rfl) hB (fun hHeld => ?_)
  refine tkH 0 ?_ hHeld ?_ ?_; rotate_left
  · ((intro W hSw; have hS0 := hSw; go_simp) <;> with_reducible rfl)
  refine tkH 2 ?_ hHeld ?_ ?_; rotate_left
  · ((intro W hSw; have hS0 := hSw; go_simp) <;> with_reducible rfl)
  refine wpAnyH_ready (rs := [1]) (by kernel_rfl) (by simp) ?_
  refine AllReadyH.cons rfl (fun K hK => ?_) AllReadyH.nil
  go_simp
  refine (wantID_any wb x.id W.drew y3).mono ?_
  rintro e w1 ⟨rfl, hw1⟩
  rw [hw1]
  clear hw1
  go_wp2_with fail
  refine hK.out _ _ hB (fun hHeld => ?_)
  clear hK K
  refine tkH 3 ?_ hHeld ?_ ?_; rotate_left
  · ((intro W hSw; have hS0 := hSw; go_simp) <;> with_reducible rfl)
  refine tkH 4 ?_ hHeld ?_ ?_; rotate_left
  · ((intro W hSw; have hS0 := hSw; go_simp) <;> with_reducible rfl)
  refine wpAnyH_done (by kernel_rfl) ?_ _
  refine NoPanic.normal ?_
  go_wp2
  go_ret
  exact ⟨ret_bool He.out, (Below.refl _ _).drew⟩

set_option maxHeartbeats 1000000 in
theorem knowsW1_any (wb : Nat) (x : Wn) (a : Int) (B : Nat) (W : World) {C : Nat → Prop} {base : Nat} {v : Value} (h : WnAt C W base wb v x) (hB : W.cell? ⟨B, 0, none⟩ = some (.int .i64 a)) :
    Calls Tryz.prog 64 #[.pointer (some ⟨wb, 0, none⟩), .pointer (some ⟨B, 0, none⟩)] W fun e w' => e = .returned (.bool (hasW x a)) ∧ Below W.heap.size W w' := by
  have H := Pk.hid h
  clear h
  have Hh : Hid (hasW x a = (decide (x.src = a) || decide (x.pl.second = a))) := rfl
  go_enter Tryz.func64, Tryz.ntmps64
  go_wp2_with fail
  refine (wantHas_any wb x.src x.pl.second a _ H.out.c0 H.out.c6).mono ?_
  rintro e w1 ⟨rfl, hw1⟩
  rw [hw1, ← Hh.out]
  clear hw1
  go_wp2
  go_ret
  exact ⟨rfl, Below.refl _ _⟩

set_option maxRecDepth 20000 in
set_option maxHeartbeats 2000000 in
theorem indexfindW_any (ρ : Nat → Nat) (mb B : Nat) (M : Md) (sv wv : Value) (SB WB : List (Nat × Value)) (a : Int) (w : World) (h : MdAt w ρ mb M sv wv SB WB) (hB : w.cell? ⟨B, 0, none⟩ = some (.int .i64 a)) (h8 : M.wns.length ≤ 8) :
    Calls Tryz.prog 67 #[wv, .func (.func 68) #[] #[.pointer (some ⟨B, 0, none⟩)]] w fun e w' => e = .returned (.int .i64 (posI (wntPos M a))) ∧ Below w.heap.size w w' := by
  obtain ⟨ao, cap, rfl⟩ := rowA_shape h.wr
  have H := Pk.hid h
  have HB := Pk.hid hB
  have hw8 : WB.length ≤ 8 := by have := h.wl; omega
  clear h hB
  go_enter Tryz.func67, Tryz.ntmps67
  go_wp2
  go_loopw [8] (fun s8 wr => ∃ k : Nat, k ≤ WB.length ∧ s8 = .int .i64 k ∧ (∀ m (hm : m < M.wns.length), m < k → decide ((M.wns[m]).id = a) = false) ∧ Below w.heap.size w wr) (fun s8 _ => WB.length - (intOf s8).toNat)
  case atStart => exact ⟨0, Nat.zero_le _, rfl, fun m _ hm => by omega, Below.refl _ _⟩
  case round =>
    obtain ⟨k, hk, rfl, hno, hbel⟩ := hrel
    have Hno := Pk.hid hno
    have Hbel := Pk.hid hbel
    clear hno hbel
    by_cases hlt : k < WB.length
    · have hlt' : (k : Int) < WB.length := by omega
      have HW := H.out.below Hbel.out
      obtain ⟨g, rfl⟩ := rowA_some HW.wr (by omega)
      have hks : k < M.wns.length := by rw [← H.out.wl]; exact hlt
      have hp : WB[k]? = some WB[k] := List.getElem?_eq_getElem hlt
      have hs : M.wns[k]? = some M.wns[k] := List.getElem?_eq_getElem hks
      have d0 : wr.cell? ⟨g, k, none⟩ = some (ptr (WB[k]).1) := by
        have h := HW.wr.cellAt k (by omega)
        rw [h, List.getElem?_map, hp]
        rfl
      obtain ⟨hWn, _, _⟩ := HW.wa k _ _ hp hs
      have hcB : wr.cell? ⟨B, 0, none⟩ = some (.int .i64 a) := (Hbel.out.cell (p := ⟨B, 0, none⟩) (lt_of_cell HB.out)).trans HB.out
      obtain ⟨p, hpe⟩ : ∃ p, WB[k] = p := ⟨_, rfl⟩
      obtain ⟨x, hxe⟩ : ∃ x, M.wns[k] = x := ⟨_, rfl⟩
      have Hxe := Pk.hid hxe
      rw [hpe] at d0 hWn
      rw [hxe] at hWn
      unfold ptr at d0
      have HWn := Pk.hid hWn
      clear hpe hxe hp hs hWn HW
      go_wp2_with fail
      refine (findW1_any p.1 x a B _ HWn.out hcB).mono ?_
      rintro e w1 ⟨rfl, hb1⟩
      have Hb1 : Hid (Below w.heap.size w w1) := Hbel.out.trans (hb1.mono Hbel.out.size)
      clear hb1 d0 hcB
      cases he : decide ((x).id = a) with
      | true =>
        have Hi : Hid (wntPos M a = some k) := idx_some hks Hno.out (by rw [Hxe.out]; exact he)
        clear he
        go_wp2
        go_ret
        exact ⟨by rw [Hi.out]; rfl, Hb1.out⟩
      | false =>
        have He := Pk.hid he
        clear he
        go_wp2
        go_roundw
        case rel => exact ⟨k + 1, by omega, by go_num, fun m hm hmk => by
          rcases Nat.lt_or_ge m k with h | h
          · exact Hno.out m hm h
          · obtain rfl : m = k := by omega
            rw [Hxe.out]; exact He.out, Hb1.out⟩
        case measure => simp [intOf]; omega
    · have hlt' : ¬ (k : Int) < WB.length := by omega
      have Hi : Hid (wntPos M a = none) := idx_none (k := k) (by rw [← H.out.wl]; omega) Hno.out
      go_wp2
      go_ret
      exact ⟨by rw [Hi.out]; rfl, Hbel.out⟩

set_option maxRecDepth 20000 in
set_option maxHeartbeats 2000000 in
theorem indexknowsW_any (ρ : Nat → Nat) (mb B : Nat) (M : Md) (sv wv : Value) (SB WB : List (Nat × Value)) (a : Int) (w : World) (h : MdAt w ρ mb M sv wv SB WB) (hB : w.cell? ⟨B, 0, none⟩ = some (.int .i64 a)) (h8 : M.wns.length ≤ 8) :
    Calls Tryz.prog 67 #[wv, .func (.func 64) #[] #[.pointer (some ⟨B, 0, none⟩)]] w fun e w' => e = .returned (.int .i64 (posI (hasPos M a))) ∧ Below w.heap.size w w' := by
  obtain ⟨ao, cap, rfl⟩ := rowA_shape h.wr
  have H := Pk.hid h
  have HB := Pk.hid hB
  have hw8 : WB.length ≤ 8 := by have := h.wl; omega
  clear h hB
  go_enter Tryz.func67, Tryz.ntmps67
  go_wp2
  go_loopw [8] (fun s8 wr => ∃ k : Nat, k ≤ WB.length ∧ s8 = .int .i64 k ∧ (∀ m (hm : m < M.wns.length), m < k → hasW (M.wns[m]) a = false) ∧ Below w.heap.size w wr) (fun s8 _ => WB.length - (intOf s8).toNat)
  case atStart => exact ⟨0, Nat.zero_le _, rfl, fun m _ hm => by omega, Below.refl _ _⟩
  case round =>
    obtain ⟨k, hk, rfl, hno, hbel⟩ := hrel
    have Hno := Pk.hid hno
    have Hbel := Pk.hid hbel
    clear hno hbel
    by_cases hlt : k < WB.length
    · have hlt' : (k : Int) < WB.length := by omega
      have HW := H.out.below Hbel.out
      obtain ⟨g, rfl⟩ := rowA_some HW.wr (by omega)
      have hks : k < M.wns.length := by rw [← H.out.wl]; exact hlt
      have hp : WB[k]? = some WB[k] := List.getElem?_eq_getElem hlt
      have hs : M.wns[k]? = some M.wns[k] := List.getElem?_eq_getElem hks
      have d0 : wr.cell? ⟨g, k, none⟩ = some (ptr (WB[k]).1) := by
        have h := HW.wr.cellAt k (by omega)
        rw [h, List.getElem?_map, hp]
        rfl
      obtain ⟨hWn, _, _⟩ := HW.wa k _ _ hp hs
      have hcB : wr.cell? ⟨B, 0, none⟩ = some (.int .i64 a) := (Hbel.out.cell (p := ⟨B, 0, none⟩) (lt_of_cell HB.out)).trans HB.out
      obtain ⟨p, hpe⟩ : ∃ p, WB[k] = p := ⟨_, rfl⟩
      obtain ⟨x, hxe⟩ : ∃ x, M.wns[k] = x := ⟨_, rfl⟩
      have Hxe := Pk.hid hxe
      rw [hpe] at d0 hWn
      rw [hxe] at hWn
      unfold ptr at d0
      have HWn := Pk.hid hWn
      clear hpe hxe hp hs hWn HW
      go_wp2_with fail
      refine (knowsW1_any p.1 x a B _ HWn.out hcB).mono ?_
      rintro e w1 ⟨rfl, hb1⟩
      have Hb1 : Hid (Below w.heap.size w w1) := Hbel.out.trans (hb1.mono Hbel.out.size)
      clear hb1 d0 hcB
      cases he : hasW (x) a with
      | true =>
        have Hi : Hid (hasPos M a = some k) := idx_some hks Hno.out (by rw [Hxe.out]; exact he)
        clear he
        go_wp2
        go_ret
        exact ⟨by rw [Hi.out]; rfl, Hb1.out⟩
      | false =>
        have He := Pk.hid he
        clear he
        go_wp2
        go_roundw
        case rel => exact ⟨k + 1, by omega, by go_num, fun m hm hmk => by
          rcases Nat.lt_or_ge m k with h | h
          · exact Hno.out m hm h
          · obtain rfl : m = k := by omega
            rw [Hxe.out]; exact He.out, Hb1.out⟩
        case measure => simp [intOf]; omega
    · have hlt' : ¬ (k : Int) < WB.length := by omega
      have Hi : Hid (hasPos M a = none) := idx_none (k := k) (by rw [← H.out.wl]; omega) Hno.out
      go_wp2
      go_ret
      exact ⟨by rw [Hi.out]; rfl, Hbel.out⟩


set_option maxRecDepth 20000 in
set_option maxHeartbeats 1000000 in
theorem findWant_any (ρ : Nat → Nat) (mb : Nat) (M : Md) (sv wv : Value) (SB WB : List (Nat × Value)) (id : Int) (w : World) (h : MdAt w ρ mb M sv wv SB WB) (h8 : M.wns.length ≤ 8) :
    Calls Tryz.prog 42 #[.pointer (some ⟨mb, 0, none⟩), .int .i64 id] w fun e w' => e = .returned (.int .i64 (posI (wntPos M id))) ∧ Below w.heap.size w w' := by
  obtain ⟨ao, cap, rfl⟩ := rowA_shape h.wr
  have H := Pk.hid h
  have y19 : w.cell? ⟨mb, 19, none⟩ = some (.slice ao WB.length cap) := h.k 19 _ rfl
  have hlt := h.lt
  have hne : mb ≠ w.heap.size := by omega
  clear h
  go_enter Tryz.func42, Tryz.ntmps42
  go_wp2_with fail
  refine (indexfindW_any ρ mb w.heap.size M sv _ SB WB id _ (H.out.below ((Below.refl _ _).alloc (Nat.le_refl _) _)) (cell_new _ _ _ 0) h8).mono ?_
  rintro e w1 ⟨rfl, hb1⟩
  have Hb1 : Hid (Below w.heap.size w w1) := ((Below.refl _ _).alloc (Nat.le_refl _) _).trans (hb1.mono (by simp))
  clear hb1
  generalize hr : posI (wntPos M id) = r at *
  have Hr := Pk.hid hr
  clear hr
  go_wp2
  go_ret
  rw [Hr.out]
  exact ⟨rfl, Hb1.out⟩

set_option maxRecDepth 20000 in
set_option maxHeartbeats 1000000 in
theorem containsW_any (ρ : Nat → Nat) (mb B : Nat) (M : Md) (sv wv : Value) (SB WB : List (Nat × Value)) (a : Int) (w : World) (h : MdAt w ρ mb M sv wv SB WB) (hB : w.cell? ⟨B, 0, none⟩ = some (.int .i64 a)) (h8 : M.wns.length ≤ 8) :
    Calls Tryz.prog 63 #[wv, .func (.func 64) #[] #[.pointer (some ⟨B, 0, none⟩)]] w fun e w' => e = .returned (.bool (hasPos M a).isSome) ∧ Below w.heap.size w w' := by
  have H := Pk.hid h
  have HB := Pk.hid hB
  obtain ⟨ao, cap, rfl⟩ := rowA_shape h.wr
  clear h hB
  have Hr : Hid (decide (0 ≤ posI (hasPos M a)) = (hasPos M a).isSome) := by
    show _ = _
    cases hasPos M a with
    | none => rfl
    | some i => simp [posI]
  go_enter Tryz.func63, Tryz.ntmps63
  go_wp2_with fail
  refine (indexknowsW_any ρ mb B M sv _ SB WB a _ H.out HB.out h8).mono ?_
  rintro e w1 ⟨rfl, hb1⟩
  have Hb1 := Pk.hid hb1
  clear hb1
  generalize posI (hasPos M a) = r at *
  go_wp2
  go_ret
  exact ⟨ret_bool Hr.out, Hb1.out⟩

set_option maxRecDepth 20000 in
set_option maxHeartbeats 1000000 in
theorem knows_any (ρ : Nat → Nat) (mb : Nat) (M : Md) (sv wv : Value) (SB WB : List (Nat × Value)) (source : Int) (w : World) (h : MdAt w ρ mb M sv wv SB WB) (h8 : M.wns.length ≤ 8) :
    Calls Tryz.prog 33 #[.pointer (some ⟨mb, 0, none⟩), .int .i64 source] w fun e w' => e = .returned (.bool (knowsF M source)) ∧ Below w.heap.size w w' := by
  obtain ⟨ao, cap, rfl⟩ := rowA_shape h.wr
  have H := Pk.hid h
  have y19 : w.cell? ⟨mb, 19, none⟩ = some (.slice ao WB.length cap) := h.k 19 _ rfl
  have hlt := h.lt
  have hne : mb ≠ w.heap.size := by omega
  have HA : Hid (∀ o, MdAt (w.alloc o) ρ mb M sv (.slice ao WB.length cap) SB WB) := fun o => h.below ((Below.refl _ _).alloc (Nat.le_refl _) _)
  clear h
  go_enter Tryz.func33, Tryz.ntmps33
  go_wp2_with fail
  refine (sender_any ρ mb M sv _ SB WB source _ (HA.out _)).mono ?_
  rintro e w1 ⟨hw1, ⟨hn, rfl⟩ | ⟨i, p, s, hi, h1, h2, h3, rfl⟩⟩
  · have Hk : Hid (knowsF M source = (hasPos M source).isSome) := by show _ = _; unfold knowsF; rw [hn]; rfl
    rw [hw1]
    clear hn hw1
    go_wp2_with fail
    refine (containsW_any ρ mb w.heap.size M sv _ SB WB source _ (HA.out _) (cell_new _ _ _ 0) h8).mono ?_
    rintro e w2 ⟨rfl, hb2⟩
    have Hb2 : Hid (Below w.heap.size w w2) := ((Below.refl _ _).alloc (Nat.le_refl _) _).trans (hb2.mono (by simp))
    rw [← Hk.out]
    clear hb2
    generalize hr : knowsF M source = r at *
    have Hr := Pk.hid hr
    clear hr
    go_wp2
    go_ret
    rw [Hr.out]
    exact ⟨rfl, Hb2.out⟩
  · have Hk : Hid (true = knowsF M source) := by show _ = _; unfold knowsF; rw [hi]; rfl
    rw [hw1]
    unfold ptr
    clear hi h1 h2 h3 hw1
    go_wp2
    go_ret
    exact ⟨ret_bool Hk.out, (Below.refl _ _).alloc (Nat.le_refl _) _⟩

end Go.Proofs.YtdjhhnolcafkiaaGreat

/- New, orNone, made, NewSender, NewWant, configFits, wantFits. -/
namespace Go.Proofs.YtdjhhnolcafkiaaGreat
open Go.RowKit
namespace Pk
def cfgOk (c : Cfg) : Bool := decide ((1 ≤ c.ring ∧ c.ring ≤ 64) ∧ (1 ≤ c.window ∧ c.window ≤ 200) ∧ (0 ≤ c.delay ∧ c.delay ≤ 1000000) ∧ (0 ≤ c.rate ∧ c.rate ≤ 100000) ∧ (0 ≤ c.burst ∧ c.burst ≤ 1000000) ∧ (1 ≤ c.retry ∧ c.retry ≤ 1000000) ∧ (0 ≤ c.tries ∧ c.tries ≤ 10))
def plOk (p : Plan) : Bool := decide ((0 ≤ p.source ∧ p.source ≤ 4294967295) ∧ (0 ≤ p.second ∧ p.second ≤ 4294967295) ∧ (0 ≤ p.ty ∧ p.ty ≤ 127) ∧ (0 ≤ p.secondTy ∧ p.secondTy ≤ 127) ∧ (0 ≤ p.first ∧ p.first ≤ 65535) ∧ (0 ≤ p.secondFirst ∧ p.secondFirst ≤ 65535) ∧ p.source ≠ p.second)
def plV (p : Plan) : List Value := [.int .i64 p.source, .int .i64 p.second, .int .i64 p.ty, .int .i64 p.secondTy, .int .i64 p.first, .int .i64 p.secondFirst]
/-- a new mender -/
def newM (c : Cfg) : Md := ⟨c, ⟨0, c.burst, 0, 0, 0, 0, 0, 0, 0, 0, 0⟩, [], [], 0⟩
theorem ret_b {a b : Bool} (h : a = b) : Ending.returned (.bool a) = .returned (.bool b) := by rw [h]
end Pk
open Pk

set_option maxRecDepth 20000 in
set_option maxHeartbeats 2000000 in
theorem configFits_any (c : Cfg) (w : World) :
    Calls Tryz.prog 30 #[.agg #[.int .i64 c.ring, .int .i64 c.window, .int .i64 c.delay, .int .i64 c.rate, .int .i64 c.burst, .int .i64 c.retry, .int .i64 c.tries]] w fun e w' => e = .returned (.bool (cfgOk c)) ∧ Below w.heap.size w w' := by
  obtain ⟨r, hr⟩ : ∃ r, cfgOk c = r := ⟨_, rfl⟩
  have Hr := Pk.hid hr
  rw [hr]
  clear hr
  go_enter Tryz.func30, Tryz.ntmps30
  go_wp2_with (first | (go_at_call 32; refine (between_any _ _ _ _).mono ?_; rintro e w' ⟨rfl, rfl⟩))
  all_goals go_ret
  all_goals refine ⟨Pk.ret_b ?_, (Below.refl _ _).alloc (Nat.le_refl _) _⟩
  all_goals rw [← Hr.out]
  all_goals unfold cfgOk
  all_goals first
    | exact (decide_eq_true (by omega)).symm
    | exact (decide_eq_false (by omega)).symm
    | (symm; rw [Bool.eq_iff_iff]; simp only [decide_eq_true_eq, Bool.and_eq_true]; omega)

set_option maxRecDepth 20000 in
set_option maxHeartbeats 2000000 in
theorem wantFits_any (p : Plan) (w : World) :
    Calls Tryz.prog 39 #[.agg #[.int .i64 p.source, .int .i64 p.second, .int .i64 p.ty, .int .i64 p.secondTy, .int .i64 p.first, .int .i64 p.secondFirst]] w fun e w' => e = .returned (.bool (plOk p)) ∧ Below w.heap.size w w' := by
  obtain ⟨r, hr⟩ : ∃ r, plOk p = r := ⟨_, rfl⟩
  have Hr := Pk.hid hr
  rw [hr]
  clear hr
  go_enter Tryz.func39, Tryz.ntmps39
  go_wp2_with (first | (go_at_call 32; refine (between_any _ _ _ _).mono ?_; rintro e w' ⟨rfl, rfl⟩))
  all_goals go_ret
  all_goals refine ⟨Pk.ret_b ?_, (Below.refl _ _).alloc (Nat.le_refl _) _⟩
  all_goals rw [← Hr.out]
  all_goals unfold plOk
  all_goals first
    | exact (decide_eq_true (by omega)).symm
    | exact (decide_eq_false (by omega)).symm
    | (symm; rw [Bool.eq_iff_iff]; simp only [decide_eq_true_eq, bne_iff_ne, ne_eq]; omega)

set_option maxHeartbeats 1000000 in
theorem newSender_any (source : Int) (w : World) :
    Calls Tryz.prog 35 #[.int .i64 source] w fun e w' => e = .returned (ptr w.heap.size) ∧ w' = w.alloc (.cells #[.int .i64 source, .bool false, .slice none 0 0, .int .u16 0] 134) := by
  go_enter Tryz.func35, Tryz.ntmps35
  go_wp2
  go_ret
  exact ⟨rfl, rfl⟩

set_option maxHeartbeats 1000000 in
theorem newWant_any (id of_ : Int) (p : Plan) (n : Nat) (w : World) (h : p.secondFirst = n) (hn : n < 65536) :
    Calls Tryz.prog 40 #[.int .i64 id, .int .i64 of_, .agg #[.int .i64 p.source, .int .i64 p.second, .int .i64 p.ty, .int .i64 p.secondTy, .int .i64 p.first, .int .i64 p.secondFirst]] w fun e w' => e = .returned (ptr (w.heap.size + 1)) ∧
      w' = (w.alloc (.cells #[.int .i64 p.source, .int .i64 p.second, .int .i64 p.ty, .int .i64 p.secondTy, .int .i64 p.first, .int .i64 p.secondFirst] 39)).alloc (.cells #[.int .i64 p.source, .bool false, .slice none 0 0, .int .i64 id, .int .i64 of_, .int .i64 p.source, .int .i64 p.second, .int .i64 p.ty, .int .i64 p.secondTy, .int .i64 p.first, .int .i64 p.secondFirst, .int .u16 0, .int .u16 n] 141) := by
  have e1 := u16_id n hn
  rw [h]
  go_enter Tryz.func40, Tryz.ntmps40
  go_wp2
  go_ret
  exact ⟨rfl, rfl⟩

set_option maxHeartbeats 1000000 in
theorem orNone_any (mb : Nat) (w : World) :
    Calls Tryz.prog 29 #[.pointer (some ⟨mb, 0, none⟩)] w fun e w' => e = .returned (.pointer (some ⟨mb, 0, none⟩)) ∧ w' = w := by
  go_enter Tryz.func29, Tryz.ntmps29
  go_wp2
  go_ret
  exact ⟨rfl, rfl⟩

set_option maxHeartbeats 1000000 in
theorem made_any (mb : Nat) (ring : Int) (w : World) (h : w.cell? ⟨mb, 0, none⟩ = some (.int .i64 ring)) (hr : 1 ≤ ring) :
    Calls Tryz.prog 34 #[.pointer (some ⟨mb, 0, none⟩)] w fun e w' => e = .returned (.bool true) ∧ w' = w := by
  have h0 : (0 : Int) < ring := by omega
  go_enter Tryz.func34, Tryz.ntmps34
  go_wp2
  go_ret
  exact ⟨ret_bool (by first | (simp; done) | (simp; omega)), rfl⟩

/-- the roles of a new mender -/
def newRoleM (mb b : Nat) : Nat := if b = mb then 1 else 0

theorem newM_at (w : World) (c : Cfg) : MdAt (w.alloc (.cells #[.int .i64 c.ring, .int .i64 c.window, .int .i64 c.delay, .int .i64 c.rate, .int .i64 c.burst, .int .i64 c.retry, .int .i64 c.tries, .int .i64 0, .int .i64 c.burst, .int .i64 0, .int .i64 0, .int .i64 0, .int .i64 0, .int .i64 0, .int .i64 0, .int .i64 0, .int .i64 0, .int .i64 0, .slice none 0 0, .slice none 0 0, .int .i64 0] 87)) (newRoleM w.heap.size) w.heap.size (newM c) (.slice none 0 0) (.slice none 0 0) [] [] := by
  refine ⟨fun i u hu => ?_, fun o => frozen_new _ _ _ o, World.ownsRow_nil _ _ _ _, World.ownsRow_nil _ _ _ _, rfl, rfl, by simp [newM], fun i p s h => (by simp at h), fun i p x h => (by simp at h), fun i j x y _ h => (by simp [newM] at h), by simp [newRoleM], fun b hb => (by cases hb), fun b hb => (by cases hb), fun b hb => ?_⟩
  · rw [cell_new, ← hu, List.getElem?_toArray]
    rfl
  · unfold newRoleM
    rw [if_neg (by simp at hb; omega)]

set_option maxRecDepth 20000 in
set_option maxHeartbeats 2000000 in
theorem new_any (c : Cfg) (w : World) :
    Calls Tryz.prog 12 #[.agg #[.int .i64 c.ring, .int .i64 c.window, .int .i64 c.delay, .int .i64 c.rate, .int .i64 c.burst, .int .i64 c.retry, .int .i64 c.tries]] w fun e w' => Below w.heap.size w w' ∧
      ((cfgOk c = false ∧ e = .returned (.tuple #[.pointer none, .int .i64 2])) ∨ (cfgOk c = true ∧ ∃ mb ρ, w.heap.size ≤ mb ∧ e = .returned (.tuple #[.pointer (some ⟨mb, 0, none⟩), .int .i64 0]) ∧ MdAt w' ρ mb (newM c) (.slice none 0 0) (.slice none 0 0) [] [] ∧ ∀ b, ρ b ≠ 0 → w.heap.size ≤ b)) := by
  go_enter Tryz.func12, Tryz.ntmps12
  go_wp2_with fail
  refine (configFits_any c _).mono ?_
  rintro e w1 ⟨rfl, hb1⟩
  have hc1 := box_below hb1 w.heap.size (by simp)
  have Hb1 : Hid (Below w.heap.size w w1) := ((Below.refl _ _).alloc (Nat.le_refl _) _).trans (hb1.mono (by simp))
  have hs1 := Hb1.out.size
  clear hb1
  cases hr : cfgOk c with
  | false =>
    have Hr := Pk.hid hr
    clear hr
    go_wp2
    go_ret2
    exact ⟨Hb1.out, .inl ⟨Hr.out, rfl⟩⟩
  | true =>
    have Hr := Pk.hid hr
    clear hr
    have q0 : w1.cell? ⟨w.heap.size, 0, none⟩ = some (.int .i64 c.ring) := (hc1 0).trans (cell_new _ _ _ 0)
    have q1 : w1.cell? ⟨w.heap.size, 1, none⟩ = some (.int .i64 c.window) := (hc1 1).trans (cell_new _ _ _ 1)
    have q2 : w1.cell? ⟨w.heap.size, 2, none⟩ = some (.int .i64 c.delay) := (hc1 2).trans (cell_new _ _ _ 2)
    have q3 : w1.cell? ⟨w.heap.size, 3, none⟩ = some (.int .i64 c.rate) := (hc1 3).trans (cell_new _ _ _ 3)
    have q4 : w1.cell? ⟨w.heap.size, 4, none⟩ = some (.int .i64 c.burst) := (hc1 4).trans (cell_new _ _ _ 4)
    have q5 : w1.cell? ⟨w.heap.size, 5, none⟩ = some (.int .i64 c.retry) := (hc1 5).trans (cell_new _ _ _ 5)
    have q6 : w1.cell? ⟨w.heap.size, 6, none⟩ = some (.int .i64 c.tries) := (hc1 6).trans (cell_new _ _ _ 6)
    clear hc1
    go_wp2
    go_ret2
    refine ⟨Hb1.out.alloc hs1 _, .inr ⟨Hr.out, w1.heap.size, newRoleM w1.heap.size, hs1, rfl, newM_at w1 c, fun b hb => ?_⟩⟩
    unfold newRoleM at hb
    split at hb
    · omega
    · exact absurd rfl hb

end Go.Proofs.YtdjhhnolcafkiaaGreat
