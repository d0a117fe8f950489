/- NumberBytes; repacked. -/
import Derived.Test.YtdjhhnolcafkiaaG07
import Derived.Test.YtdjhhnolcafkiaaG02
import Derived.Test.YtdjhhnolcafkiaaG03
import Derived.Deep.RegionHeld3
import Derived.Test.YtdjhhnolcafkiaaG01
import Derived.Test.YtdjhhnolcafkiaaG09
namespace Go.Proofs.Ytdjhhnolcafkiaa
open Go.RowKit
namespace Pk
def u8V (b : UInt8) : Value := .int .u8 (b.toNat : Int)
def numB (n : Nat) : ByteArray := ⟨(told n 2).toArray⟩
theorem told_two (n : Nat) : told n 2 = [UInt8.ofNat (n / 256 % 256), UInt8.ofNat (n % 256)] := rfl
theorem conv_pair (g cap : Nat) (W : World) (b c : UInt8) (h : W.cell? ⟨g, 0, none⟩ = some (.int .u8 (b.toNat : Int))) (h' : W.cell? ⟨g, 1, none⟩ = some (.int .u8 (c.toNat : Int))) :
    (convert 56 9 (.slice (some ⟨g, 0, none⟩) 2 cap)).run Try.prog W = .ok (.string ⟨#[b, c]⟩) W := by
  rw [run_convert_bytes_string W 56 9 5 _ _ _ Try.underlying56 Try.underlying5 Try.underlying9]
  have hl := run_loadCells_list (P := Try.prog) W ⟨g, 0, none⟩ [.int .u8 (b.toNat : Int), .int .u8 (c.toNat : Int)] (fun j v hj => by
    match j, hj with
    | 0, hj => simp at hj; subst hj; simpa [Addr.add] using h
    | 1, hj => simp at hj; subst hj; simpa [Addr.add] using h')
  rw [run_bytesToString W ⟨g, 0, none⟩ 2 cap [(b.toNat : Int), (c.toNat : Int)] hl]
  congr 2
  apply ByteArray.ext
  apply Array.ext'
  rw [push_fold]
  simp
end Pk
open Pk

set_option maxHeartbeats 1000000 in
theorem addNumberN_any (x k : Nat) (w : World) (_hx : x < 4294967296) (hk : k ≤ 4) :
    Calls Try.prog 81 #[.slice none 0 0, .int .i64 x, .int .i64 k] w fun e w' => ∃ v, e = .returned v ∧ w'.ownsRow w.heap.size 5 1 v k ((told x k).map u8V) ∧ Below w.heap.size w w' := by
  have hinfo : (Try.prog.info? 5).map (fun i => (i.zero, i.size, i.bytes)) = some (some (.int .u8 0), 1, 1) := by kernel_rfl
  obtain ⟨i0, hi, hz0, hz1, hz2⟩ := info_parts hinfo
  have Hi : Hid (Try.prog.info? 5 = some i0 ∧ i0.zero = some (.int .u8 0) ∧ i0.size = 1 ∧ i0.bytes = 1) := ⟨hi, hz0, hz1, hz2⟩
  have hlen : (told x k).length = k := told_length x k
  have Hlen : Hid ((told x k).length = k) := hlen
  clear hi hz0 hz1 hz2 hinfo hlen
  go_enter Try.func81, Try.ntmps81
  go_wp2
  go_loopw [0, 9] (fun v i wr => ∃ (v0 : Value) (j : Nat), v = v0 ∧ j ≤ k ∧ i = .int .i64 j ∧ wr.ownsRow w.heap.size 5 1 v0 j (((told x k).take j).map u8V) ∧ Below w.heap.size w wr) (fun _ i _ => k - (intOf i).toNat)
  case atStart => exact ⟨_, 0, rfl, Nat.zero_le _, rfl, World.ownsRow_nil _ _ _ _, Below.refl _ _⟩
  case round =>
    obtain ⟨v0, j, rfl, hj, rfl, hown, hb⟩ := hrel
    have Hown : Hid (wr.ownsRow w.heap.size 5 1 _ j (((told x k).take j).map u8V)) := hown
    have Hb : Hid (Below w.heap.size w wr) := hb
    have hsz := hb.size
    clear hown hb
    by_cases hlt : j < k
    · have hb := byte_at x (k - 1 - j)
      have Hbt : Hid ((x : Int) / 2 ^ (8 * (k - 1 - j)) % 256 = ((UInt8.ofNat (x / 256 ^ (k - 1 - j) % 256)).toNat : Int)) := hb
      have Htk : Hid (((told x k).take (j + 1)).map u8V = ((told x k).take j).map u8V ++ [u8V (UInt8.ofNat (x / 256 ^ (k - 1 - j) % 256))]) := by
        show _ = _
        rw [told_take x k j hlt, List.map_append]
        rfl
      clear hb
      go_wp2_with (at_builtin; refine wpList_append_own _ rfl (.tmp 12) (.tmp 21) 56 rfl w.heap.size 5 i0 (.int .u8 0) 1 1 Try.underlying56 Hi.out.1 Hi.out.2.1 Hi.out.2.2.1 Hi.out.2.2.2 rfl (by decide) _ j _ rfl (World.ownsRow.alloc Hown.out _) _ 1 1 [u8V (UInt8.ofNat (x / 256 ^ (k - 1 - j) % 256))] rfl rfl (new_one _ _ rfl _ _ _ (congrArg (Value.int .u8) Hbt.out)) ?_ ?_ ?_ ?_ ?_; (intro u hu; simp at hu; subst hu; rfl); (unfold maxLen; omega); omega; (simp; omega); intro v' w2 hown' hgrow _; refine stop_here ?_)
      refine hid_in ?_
      have R1 : Hid (w2.ownsRow w.heap.size 5 1 v' (j + 1) (((told x k).take (j + 1)).map u8V)) := by
        show w2.ownsRow _ _ _ _ _ _
        rw [Htk.out]
        exact hown'
      have R2 : Hid (Below w.heap.size w w2) := (Hb.out.alloc Hb.out.size _).grown hgrow (by simp; omega) (fun g hg => (World.ownsRow.lt Hown.out g hg).1)
      clear hown' hgrow
      go_wp2
      go_roundw
      case rel => exact ⟨_, j + 1, rfl, by omega, by go_num, R1.out, R2.out⟩
      case measure => simp [intOf]; omega
    · have e : j = k := by omega
      have h := Hown.out
      rw [e, List.take_of_length_le (by rw [Hlen.out]; exact Nat.le_refl _)] at h
      have R : Hid (wr.ownsRow _ _ _ _ _ _) := h
      clear h
      go_wp2
      go_ret
      exact ⟨_, rfl, R.out, Hb.out⟩

set_option maxHeartbeats 400000 in
theorem numberBytes_any (n : Nat) (w : World) (hn : n < 65536) :
    Calls Try.prog 134 #[.int .i64 n] w fun e w' => e = .returned (.string (numB n)) ∧ Below w.heap.size w w' := by
  have He : Hid (numB n = ⟨#[UInt8.ofNat (n / 256 % 256), UInt8.ofNat (n % 256)]⟩) := by show _ = _; unfold numB; rw [told_two]
  go_enter Try.func134, Try.ntmps134
  go_wp2_with fail
  refine (addNumberN_any n 2 _ (by omega) (by omega)).mono ?_
  rintro e w1 ⟨v, rfl, hown, hb⟩
  have Hb : Hid (Below w.heap.size w w1) := hb
  rw [told_two] at hown
  obtain ⟨g, cap, rfl⟩ : ∃ g cap, v = .slice (some ⟨g, 0, none⟩) 2 cap := by
    rcases hown.2 with ⟨_, h2⟩ | ⟨g, cap, _, h1, _⟩
    · cases h2
    · exact ⟨g, cap, h1⟩
  have hcv := conv_pair g cap w1 _ _ (hown.cellAt 0 (by omega)) (hown.cellAt 1 (by omega))
  clear hown hb
  generalize UInt8.ofNat (n / 256 % 256) = b1 at *
  generalize UInt8.ofNat (n % 256) = b0 at *
  go_wp2
  go_ret
  exact ⟨by rw [He.out]; rfl, Hb.out⟩

namespace Pk
/-- the payload is stored into the box -/
theorem Bx2.setP {s : Nat} {W : World} {mk ex : Bool} {ty n ti so pr pa : Int} {cv : Value} {en py : ByteArray} (h : Bx2 s W mk ex ty n ti so pr pa cv en py) (py' : ByteArray) : Bx2 s (W.setCell ⟨s, 9, none⟩ (.string py')) mk ex ty n ti so pr pa cv en py' := by
  have hne : ∀ (j : Nat), j ≠ 9 → (W.setCell ⟨s, 9, none⟩ (.string py')).cell? ⟨s, j, none⟩ = W.cell? ⟨s, j, none⟩ := fun j hj => World.cell?_setCell_other _ _ _ _ (fun e => hj (by injection e with _ e _; exact e.symm))
  have hbe : ∀ (j : Nat), (W.setCell ⟨s, 9, none⟩ (.string py')).cell? ⟨s + 1, j, none⟩ = W.cell? ⟨s + 1, j, none⟩ := fun j => World.cell?_setCell_other _ _ _ _ (fun e => by injection e with e _ _; omega)
  exact ⟨(hne 0 (by omega)).trans h.q0, (hne 1 (by omega)).trans h.q1, (hne 2 (by omega)).trans h.q2, (hne 3 (by omega)).trans h.q3, (hne 4 (by omega)).trans h.q4, (hne 5 (by omega)).trans h.q5, (hne 6 (by omega)).trans h.q6, (hne 7 (by omega)).trans h.q7, (hne 8 (by omega)).trans h.q8, World.cell?_setCell_same _ _ _ h.q9, (hne 10 (by omega)).trans h.q10, (hbe 0).trans h.z0, (hbe 1).trans h.z1, (hbe 2).trans h.z2, (hbe 3).trans h.z3, (hbe 4).trans h.z4, (hbe 5).trans h.z5, (hbe 6).trans h.z6, (hbe 7).trans h.z7, (hbe 8).trans h.z8, (hbe 9).trans h.z9, (hbe 10).trans h.z10, fun o => by rw [World.frozen?_setCell]; exact h.f0 o, fun o => by rw [World.frozen?_setCell]; exact h.f1 o⟩
end Pk

set_option maxRecDepth 20000 in
set_option maxHeartbeats 8000000 in
theorem repacked_any (C : Nat → Prop) (base wb : Nat) (v : Value) (x : Wn) (mk ex : Bool) (ty ti so pr pa : Int) (n : Nat) (acv : Option Addr) (cln ccv : Nat) (en py : ByteArray) (w : World) (h : WnAt C w base wb v x) (hC : ∀ b, C b → b < w.heap.size) (hn : n < 65536) (hs2 : x.second < 65536) (hpy : py.size ≤ 1000000) :
    Calls Try.prog 125 #[.pointer (some ⟨wb, 0, none⟩), .agg #[.bool mk, .int .i64 ty, .int .i64 n, .int .i64 ti, .int .i64 so, .slice acv cln ccv, .bool ex, .int .i64 pr, .string en, .string py, .int .i64 pa]] w fun e w' =>
      e = .returned (.agg #[.bool mk, .int .i64 x.pl.secondTy, .int .i64 (x.second : Nat), .int .i64 ti, .int .i64 x.pl.second, .slice acv cln ccv, .bool ex, .int .i64 pr, .string en, .string (numB n ++ py), .int .i64 0]) ∧ Below w.heap.size w w' := by
  have hwb := h.lt
  have B0 : Hid (Bx2 w.heap.size ((w.alloc (.cells #[.bool mk, .int .i64 ty, .int .i64 n, .int .i64 ti, .int .i64 so, .slice acv cln ccv, .bool ex, .int .i64 pr, .string en, .string py, .int .i64 pa] 33)).alloc (.cells #[.bool false, .int .i64 0, .int .i64 0, .int .i64 0, .int .i64 0, .slice none 0 0, .bool false, .int .i64 0, .string ⟨#[]⟩, .string ⟨#[]⟩, .int .i64 0] 33)) mk ex ty n ti so pr pa (.slice acv cln ccv) en py) := Bx2.init ..
  have U0 : Hid (Below w.heap.size w ((w.alloc (.cells #[.bool mk, .int .i64 ty, .int .i64 n, .int .i64 ti, .int .i64 so, .slice acv cln ccv, .bool ex, .int .i64 pr, .string en, .string py, .int .i64 pa] 33)).alloc (.cells #[.bool false, .int .i64 0, .int .i64 0, .int .i64 0, .int .i64 0, .slice none 0 0, .bool false, .int .i64 0, .string ⟨#[]⟩, .string ⟨#[]⟩, .int .i64 0] 33))) := ((Below.refl _ _).alloc (Nat.le_refl _) _).alloc (by simp) _
  have WA : Hid (WnAt C ((w.alloc (.cells #[.bool mk, .int .i64 ty, .int .i64 n, .int .i64 ti, .int .i64 so, .slice acv cln ccv, .bool ex, .int .i64 pr, .string en, .string py, .int .i64 pa] 33)).alloc (.cells #[.bool false, .int .i64 0, .int .i64 0, .int .i64 0, .int .i64 0, .slice none 0 0, .bool false, .int .i64 0, .string ⟨#[]⟩, .string ⟨#[]⟩, .int .i64 0] 33)) base wb v x) := h.below U0.out
  have hnb : (numB n).size = 2 := by unfold numB; rw [Lib.size_eq]; exact told_length n 2
  have hsum : ¬ 9223372036854775807 < 2 + py.size := by omega
  have hne0 : wb ≠ w.heap.size := by omega
  have HV : Hid (∀ b, v.ownBlock = some b → ¬ b = w.heap.size) := fun b hb e => by have := (h.row.lt b hb).2; omega
  have HCC : Hid (∀ b, C b → ¬ b = w.heap.size) := fun b hb e => by have := hC b hb; omega
  have hsw : IntKind.i64.wrap (x.second : Int) = (x.second : Int) := wrapI64 _ (by omega) (by omega)
  clear h hC
  go_enter Try.func125, Try.ntmps125
  go_wp2
  generalize ((w.alloc (.cells #[.bool mk, .int .i64 ty, .int .i64 n, .int .i64 ti, .int .i64 so, .slice acv cln ccv, .bool ex, .int .i64 pr, .string en, .string py, .int .i64 pa] 33)).alloc (.cells #[.bool false, .int .i64 0, .int .i64 0, .int .i64 0, .int .i64 0, .slice none 0 0, .bool false, .int .i64 0, .string ⟨#[]⟩, .string ⟨#[]⟩, .int .i64 0] 33)) = W0 at *
  have HB := B0
  have HW := WA
  have HU := U0
  have g1 := HB.out.q1
  have g2 := HB.out.q2
  have hbs : w.heap.size < W0.heap.size := lt_of_cell g2
  refine wp_region_noPanic ?_
  refine wp_region_held_drew (S := fun W => W.cell? ⟨w.heap.size, 1, none⟩ = some (.int .i64 ty) ∧ W.cell? ⟨w.heap.size, 2, none⟩ = some (.int .i64 n)) (by kernel_rfl) ⟨g1, g2⟩ (fun hHeld => ?_)
  refine wpAnyH_take (i := 0) (v := ?vt1) rfl (by kernel_rfl) (by kernel_rfl) (by kernel_rfl) (fun _ _ _ h => h) (Or.inl ⟨by rfl, ?yt1⟩) hHeld ?rt1
  case yt1 => ((intro W hSw; obtain ⟨hS0, hS1⟩ := hSw; go_simp) <;> with_reducible rfl)
  try simp only [Act.put]
  try simp only [List.getElem_toArray]
  try simp only [List.getElem_cons_succ]
  try simp only [List.getElem_cons_zero]
  try simp only [List.setIfInBounds_toArray]
  try simp only [List.set_cons_succ]
  try simp only [List.set_cons_zero]
  refine wpAnyH_take (i := 1) (v := ?vt2) rfl (by kernel_rfl) (by kernel_rfl) (by kernel_rfl) (fun _ _ _ h => h) (Or.inl ⟨by rfl, ?yt2⟩) hHeld ?rt2
  case yt2 => ((intro W hSw; obtain ⟨hS0, hS1⟩ := hSw; go_simp) <;> with_reducible rfl)
  try simp only [Act.put]
  try simp only [List.getElem_toArray]
  try simp only [List.getElem_cons_succ]
  try simp only [List.getElem_cons_zero]
  try simp only [List.setIfInBounds_toArray]
  try simp only [List.set_cons_succ]
  try simp only [List.set_cons_zero]
  refine wpAnyH_take (i := 3) (v := ?vt3) rfl (by kernel_rfl) (by kernel_rfl) (by kernel_rfl) (fun _ _ _ h => h) (Or.inl ⟨by rfl, ?yt3⟩) hHeld ?rt3
  case yt3 => ((intro W hSw; obtain ⟨hS0, hS1⟩ := hSw; go_simp) <;> with_reducible rfl)
  try simp only [Act.put]
  try simp only [List.getElem_toArray]
  try simp only [List.getElem_cons_succ]
  try simp only [List.getElem_cons_zero]
  try simp only [List.setIfInBounds_toArray]
  try simp only [List.set_cons_succ]
  try simp only [List.set_cons_zero]
  refine wpAnyH_ready (rs := [2, 4]) (by kernel_rfl) (by simp) ?_
  refine AllReadyH.cons rfl (fun K hK => ?_) (AllReadyH.cons rfl (fun K hK => ?_) AllReadyH.nil)
  · go_simp
    refine (numberBytes_any n _ hn).mono ?_
    rintro e w1 ⟨rfl, hb1⟩
    have HU1 : Hid (Below w.heap.size w w1) := (HU.out.drew).trans (hb1.mono (Nat.le_of_lt hbs))
    have HB1 := (HB.out.chg (T := fun _ => False) (Chg.refl _ _).drew (fun e => e) (fun e => e)).chg (T := fun _ => False) (Chg.ofBelow hb1) (fun e => e) (fun e => e)
    have HW1 : Hid (WnAt C w1 base wb v x) := (HW.out.below (Below.refl _ _).drew).below hb1
    have hbs1 : w.heap.size < w1.heap.size := lt_of_cell HB1.q1
    clear hb1
    go_simp
    refine hK.out _ _ ⟨HB1.q1, HB1.q2⟩ (fun hHeld => ?_)
    clear hK K
    try simp only [Act.put]
    try simp only [List.getElem_toArray]
    try simp only [List.getElem_cons_succ]
    try simp only [List.getElem_cons_zero]
    try simp only [List.setIfInBounds_toArray]
    try simp only [List.set_cons_succ]
    try simp only [List.set_cons_zero]
    refine wpAnyH_ready (rs := [4]) (by kernel_rfl) (by simp) ?_
    refine AllReadyH.cons rfl (fun K hK => ?_) AllReadyH.nil
    have q9 := HB1.q9
    go_simp
    refine hK.out _ _ hHeld (fun hHeld => ?_)
    clear hK K
    try simp only [Act.put]
    try simp only [List.getElem_toArray]
    try simp only [List.getElem_cons_succ]
    try simp only [List.getElem_cons_zero]
    try simp only [List.setIfInBounds_toArray]
    try simp only [List.set_cons_succ]
    try simp only [List.set_cons_zero]
    have qf := HB1.f0
    have qz := HB1.q9
    refine wpAnyH_ready (rs := [5]) (by kernel_rfl) (by simp) ?_
    refine AllReadyH.cons rfl (fun K hK => ?_) AllReadyH.nil
    go_simp
    refine hK.out _ _ hHeld (fun hHeld => ?_)
    clear hK K
    try simp only [Act.put]
    try simp only [List.getElem_toArray]
    try simp only [List.getElem_cons_succ]
    try simp only [List.getElem_cons_zero]
    try simp only [List.setIfInBounds_toArray]
    try simp only [List.set_cons_succ]
    try simp only [List.set_cons_zero]
    refine wpAnyH_take (i := 6) (v := ?vt4) rfl (by kernel_rfl) (by kernel_rfl) (by kernel_rfl) (fun _ _ _ h => h) (Or.inl ⟨by rfl, ?yt4⟩) hHeld ?rt4
    case yt4 => ((intro W hSw; obtain ⟨hS0, hS1⟩ := hSw; go_simp) <;> with_reducible rfl)
    try simp only [Act.put]
    try simp only [List.getElem_toArray]
    try simp only [List.getElem_cons_succ]
    try simp only [List.getElem_cons_zero]
    try simp only [List.setIfInBounds_toArray]
    try simp only [List.set_cons_succ]
    try simp only [List.set_cons_zero]
    refine wpAnyH_ready (rs := [7]) (by kernel_rfl) (by simp) ?_
    refine AllReadyH.cons rfl (fun K hK => ?_) AllReadyH.nil
    go_simp
    have HB2 := HB1.setP (numB n ++ py)
    refine hK.out _ _ ⟨HB2.q1, HB2.q2⟩ (fun hHeld => ?_)
    clear hK K
    refine wpAnyH_done (by kernel_rfl) ?_ _
    refine NoPanic.normal ?_
    have HU2 : Hid (Below w.heap.size w (w1.setCell ⟨w.heap.size, 9, none⟩ (.string (numB n ++ py)))) := HU1.out.setCell (p := ⟨w.heap.size, 9, none⟩) (Nat.le_refl _) _
    have HW2 : Hid (WnAt C (w1.setCell ⟨w.heap.size, 9, none⟩ (.string (numB n ++ py))) base wb v x) := HW1.out.chg ((Chg.refl (fun b => b = w.heap.size) _).setCell ⟨w.heap.size, 9, none⟩ (.inl rfl) _) hne0 HV.out HCC.out
    have HB3 : Hid (Bx2 w.heap.size (w1.setCell ⟨w.heap.size, 9, none⟩ (.string (numB n ++ py))) mk ex ty n ti so pr pa (.slice acv cln ccv) en (numB n ++ py)) := HB2
    clear HB1 HB2 hHeld qf qz q9 HU1 HW1 HB HW HU g1 g2 hbs hbs1 B0 U0 WA
    generalize (w1.setCell ⟨w.heap.size, 9, none⟩ (.string (numB n ++ py))) = W2 at *
    generalize hpp : numB n ++ py = py' at *
    have Hpp : Hid (numB n ++ py = py') := hpp
    clear hpp
    go_wp2
    have y6 := HW2.out.c6
    have y8 := HW2.out.c8
    have y12 := HW2.out.c12
    have g1 := HB3.out.q1
    have g2 := HB3.out.q2
    have g4 := HB3.out.q4
    have gf := HB3.out.f0
    refine wp_region_noPanic ?_
    refine wp_region_held_drew (S := fun W => W.cell? ⟨wb, 6, none⟩ = some (.int .i64 x.pl.second) ∧ W.cell? ⟨wb, 8, none⟩ = some (.int .i64 x.pl.secondTy) ∧ W.cell? ⟨wb, 12, none⟩ = some (.int .u16 x.second)) (by kernel_rfl) ⟨y6, y8, y12⟩ (fun hHeld => ?_)
    refine wpAnyH_take (i := 0) (v := ?vt5) rfl (by kernel_rfl) (by kernel_rfl) (by kernel_rfl) (fun _ _ _ h => h) (Or.inl ⟨by rfl, ?yt5⟩) hHeld ?rt5
    case yt5 => ((intro W hSw; obtain ⟨hS0, hS1, hS2⟩ := hSw; go_simp) <;> with_reducible rfl)
    try simp only [Act.put]
    try simp only [List.getElem_toArray]
    try simp only [List.getElem_cons_succ]
    try simp only [List.getElem_cons_zero]
    try simp only [List.setIfInBounds_toArray]
    try simp only [List.set_cons_succ]
    try simp only [List.set_cons_zero]
    refine wpAnyH_take (i := 1) (v := ?vt6) rfl (by kernel_rfl) (by kernel_rfl) (by kernel_rfl) (fun _ _ _ h => h) (Or.inl ⟨by rfl, ?yt6⟩) hHeld ?rt6
    case yt6 => ((intro W hSw; obtain ⟨hS0, hS1, hS2⟩ := hSw; go_simp) <;> with_reducible rfl)
    try simp only [Act.put]
    try simp only [List.getElem_toArray]
    try simp only [List.getElem_cons_succ]
    try simp only [List.getElem_cons_zero]
    try simp only [List.setIfInBounds_toArray]
    try simp only [List.set_cons_succ]
    try simp only [List.set_cons_zero]
    refine wpAnyH_take (i := 2) (v := ?vt7) rfl (by kernel_rfl) (by kernel_rfl) (by kernel_rfl) (fun _ _ _ h => h) (Or.inl ⟨by rfl, ?yt7⟩) hHeld ?rt7
    case yt7 => ((intro W hSw; obtain ⟨hS0, hS1, hS2⟩ := hSw; go_simp) <;> with_reducible rfl)
    try simp only [Act.put]
    try simp only [List.getElem_toArray]
    try simp only [List.getElem_cons_succ]
    try simp only [List.getElem_cons_zero]
    try simp only [List.setIfInBounds_toArray]
    try simp only [List.set_cons_succ]
    try simp only [List.set_cons_zero]
    refine wpAnyH_take (i := 3) (v := ?vt8) rfl (by kernel_rfl) (by kernel_rfl) (by kernel_rfl) (fun _ _ _ h => h) (Or.inl ⟨by rfl, ?yt8⟩) hHeld ?rt8
    case yt8 => ((intro W hSw; obtain ⟨hS0, hS1, hS2⟩ := hSw; go_simp) <;> with_reducible rfl)
    try simp only [Act.put]
    try simp only [List.getElem_toArray]
    try simp only [List.getElem_cons_succ]
    try simp only [List.getElem_cons_zero]
    try simp only [List.setIfInBounds_toArray]
    try simp only [List.set_cons_succ]
    try simp only [List.set_cons_zero]
    refine wpAnyH_take (i := 4) (v := ?vt9) rfl (by kernel_rfl) (by kernel_rfl) (by kernel_rfl) (fun _ _ _ h => h) (Or.inl ⟨by rfl, ?yt9⟩) hHeld ?rt9
    case yt9 => ((intro W hSw; obtain ⟨hS0, hS1, hS2⟩ := hSw; go_simp) <;> with_reducible rfl)
    try simp only [Act.put]
    try simp only [List.getElem_toArray]
    try simp only [List.getElem_cons_succ]
    try simp only [List.getElem_cons_zero]
    try simp only [List.setIfInBounds_toArray]
    try simp only [List.set_cons_succ]
    try simp only [List.set_cons_zero]
    refine wpAnyH_take (i := 5) (v := ?vt10) rfl (by kernel_rfl) (by kernel_rfl) (by kernel_rfl) (fun _ _ _ h => h) (Or.inl ⟨by rfl, ?yt10⟩) hHeld ?rt10
    case yt10 => ((intro W hSw; obtain ⟨hS0, hS1, hS2⟩ := hSw; go_simp) <;> with_reducible rfl)
    try simp only [Act.put]
    try simp only [List.getElem_toArray]
    try simp only [List.getElem_cons_succ]
    try simp only [List.getElem_cons_zero]
    try simp only [List.setIfInBounds_toArray]
    try simp only [List.set_cons_succ]
    try simp only [List.set_cons_zero]
    refine wpAnyH_take (i := 6) (v := ?vt11) rfl (by kernel_rfl) (by kernel_rfl) (by kernel_rfl) (fun _ _ _ h => h) (Or.inl ⟨by rfl, ?yt11⟩) hHeld ?rt11
    case yt11 => ((intro W hSw; obtain ⟨hS0, hS1, hS2⟩ := hSw; go_simp) <;> with_reducible rfl)
    try simp only [Act.put]
    try simp only [List.getElem_toArray]
    try simp only [List.getElem_cons_succ]
    try simp only [List.getElem_cons_zero]
    try simp only [List.setIfInBounds_toArray]
    try simp only [List.set_cons_succ]
    try simp only [List.set_cons_zero]
    refine wpAnyH_take (i := 7) (v := ?vt12) rfl (by kernel_rfl) (by kernel_rfl) (by kernel_rfl) (fun _ _ _ h => h) (Or.inl ⟨by rfl, ?yt12⟩) hHeld ?rt12
    case yt12 => ((intro W hSw; obtain ⟨hS0, hS1, hS2⟩ := hSw; go_simp) <;> with_reducible rfl)
    try simp only [Act.put]
    try simp only [List.getElem_toArray]
    try simp only [List.getElem_cons_succ]
    try simp only [List.getElem_cons_zero]
    try simp only [List.setIfInBounds_toArray]
    try simp only [List.set_cons_succ]
    try simp only [List.set_cons_zero]
    refine wpAnyH_take (i := 8) (v := ?vt13) rfl (by kernel_rfl) (by kernel_rfl) (by kernel_rfl) (fun _ _ _ h => h) (Or.inl ⟨by rfl, ?yt13⟩) hHeld ?rt13
    case yt13 => ((intro W hSw; obtain ⟨hS0, hS1, hS2⟩ := hSw; go_simp) <;> with_reducible rfl)
    try simp only [Act.put]
    try simp only [List.getElem_toArray]
    try simp only [List.getElem_cons_succ]
    try simp only [List.getElem_cons_zero]
    try simp only [List.setIfInBounds_toArray]
    try simp only [List.set_cons_succ]
    try simp only [List.set_cons_zero]
    refine wpAnyH_take (i := 9) (v := ?vt14) rfl (by kernel_rfl) (by kernel_rfl) (by kernel_rfl) (fun _ _ _ h => h) (Or.inl ⟨by rfl, ?yt14⟩) hHeld ?rt14
    case yt14 => ((intro W hSw; obtain ⟨hS0, hS1, hS2⟩ := hSw; go_simp) <;> with_reducible rfl)
    try simp only [Act.put]
    try simp only [List.getElem_toArray]
    try simp only [List.getElem_cons_succ]
    try simp only [List.getElem_cons_zero]
    try simp only [List.setIfInBounds_toArray]
    try simp only [List.set_cons_succ]
    try simp only [List.set_cons_zero]
    refine wpAnyH_take (i := 10) (v := ?vt15) rfl (by kernel_rfl) (by kernel_rfl) (by kernel_rfl) (fun _ _ _ h => h) (Or.inl ⟨by rfl, ?yt15⟩) hHeld ?rt15
    case yt15 => ((intro W hSw; obtain ⟨hS0, hS1, hS2⟩ := hSw; go_simp) <;> with_reducible rfl)
    try simp only [Act.put]
    try simp only [List.getElem_toArray]
    try simp only [List.getElem_cons_succ]
    try simp only [List.getElem_cons_zero]
    try simp only [List.setIfInBounds_toArray]
    try simp only [List.set_cons_succ]
    try simp only [List.set_cons_zero]
    refine wpAnyH_take (i := 11) (v := ?vt16) rfl (by kernel_rfl) (by kernel_rfl) (by kernel_rfl) (fun _ _ _ h => h) (Or.inl ⟨by rfl, ?yt16⟩) hHeld ?rt16
    case yt16 => ((intro W hSw; obtain ⟨hS0, hS1, hS2⟩ := hSw; go_simp) <;> with_reducible rfl)
    try simp only [Act.put]
    try simp only [List.getElem_toArray]
    try simp only [List.getElem_cons_succ]
    try simp only [List.getElem_cons_zero]
    try simp only [List.setIfInBounds_toArray]
    try simp only [List.set_cons_succ]
    try simp only [List.set_cons_zero]
    refine wpAnyH_take (i := 12) (v := ?vt17) rfl (by kernel_rfl) (by kernel_rfl) (by kernel_rfl) (fun _ _ _ h => h) (Or.inl ⟨by rfl, ?yt17⟩) hHeld ?rt17
    case yt17 => ((intro W hSw; obtain ⟨hS0, hS1, hS2⟩ := hSw; go_simp) <;> with_reducible rfl)
    try simp only [Act.put]
    try simp only [List.getElem_toArray]
    try simp only [List.getElem_cons_succ]
    try simp only [List.getElem_cons_zero]
    try simp only [List.setIfInBounds_toArray]
    try simp only [List.set_cons_succ]
    try simp only [List.set_cons_zero]
    refine wpAnyH_take (i := 13) (v := ?vt18) rfl (by kernel_rfl) (by kernel_rfl) (by kernel_rfl) (fun _ _ _ h => h) (Or.inl ⟨by rfl, ?yt18⟩) hHeld ?rt18
    case yt18 => ((intro W hSw; obtain ⟨hS0, hS1, hS2⟩ := hSw; go_simp) <;> with_reducible rfl)
    try simp only [Act.put]
    try simp only [List.getElem_toArray]
    try simp only [List.getElem_cons_succ]
    try simp only [List.getElem_cons_zero]
    try simp only [List.setIfInBounds_toArray]
    try simp only [List.set_cons_succ]
    try simp only [List.set_cons_zero]
    refine wpAnyH_take (i := 14) (v := ?vt19) rfl (by kernel_rfl) (by kernel_rfl) (by kernel_rfl) (fun _ _ _ h => h) (Or.inl ⟨by rfl, ?yt19⟩) hHeld ?rt19
    case yt19 => ((intro W hSw; obtain ⟨hS0, hS1, hS2⟩ := hSw; go_simp) <;> with_reducible rfl)
    try simp only [Act.put]
    try simp only [List.getElem_toArray]
    try simp only [List.getElem_cons_succ]
    try simp only [List.getElem_cons_zero]
    try simp only [List.setIfInBounds_toArray]
    try simp only [List.set_cons_succ]
    try simp only [List.set_cons_zero]
    refine wpAnyH_take (i := 15) (v := ?vt20) rfl (by kernel_rfl) (by kernel_rfl) (by kernel_rfl) (fun _ _ _ h => h) (Or.inl ⟨by rfl, ?yt20⟩) hHeld ?rt20
    case yt20 => ((intro W hSw; obtain ⟨hS0, hS1, hS2⟩ := hSw; go_simp) <;> with_reducible rfl)
    try simp only [Act.put]
    try simp only [List.getElem_toArray]
    try simp only [List.getElem_cons_succ]
    try simp only [List.getElem_cons_zero]
    try simp only [List.setIfInBounds_toArray]
    try simp only [List.set_cons_succ]
    try simp only [List.set_cons_zero]
    refine wpAnyH_ready (rs := [16]) (by kernel_rfl) (by simp) ?_
    refine AllReadyH.cons rfl (fun K hK => ?_) AllReadyH.nil
    go_simp
    refine hK.out _ _ ⟨(World.cell?_setCell_other _ _ _ _ (fun e => hne0 (by injection e with e _ _; exact e.symm))).trans hHeld.1, (World.cell?_setCell_other _ _ _ _ (fun e => hne0 (by injection e with e _ _; exact e.symm))).trans hHeld.2.1, (World.cell?_setCell_other _ _ _ _ (fun e => hne0 (by injection e with e _ _; exact e.symm))).trans hHeld.2.2⟩ (fun hHeld => ?_)
    clear hK K
    try simp only [Act.put]
    try simp only [List.getElem_toArray]
    try simp only [List.getElem_cons_succ]
    try simp only [List.getElem_cons_zero]
    try simp only [List.setIfInBounds_toArray]
    try simp only [List.set_cons_succ]
    try simp only [List.set_cons_zero]
    refine wpAnyH_take (i := 17) (v := ?vt21) rfl (by kernel_rfl) (by kernel_rfl) (by kernel_rfl) (fun _ _ _ h => h) (Or.inl ⟨by rfl, ?yt21⟩) hHeld ?rt21
    case yt21 => ((intro W hSw; obtain ⟨hS0, hS1, hS2⟩ := hSw; go_simp) <;> with_reducible rfl)
    try simp only [Act.put]
    try simp only [List.getElem_toArray]
    try simp only [List.getElem_cons_succ]
    try simp only [List.getElem_cons_zero]
    try simp only [List.setIfInBounds_toArray]
    try simp only [List.set_cons_succ]
    try simp only [List.set_cons_zero]
    refine wpAnyH_ready (rs := [18]) (by kernel_rfl) (by simp) ?_
    refine AllReadyH.cons rfl (fun K hK => ?_) AllReadyH.nil
    go_simp
    refine hK.out _ _ ⟨(World.cell?_setCell_other _ _ _ _ (fun e => hne0 (by injection e with e _ _; exact e.symm))).trans hHeld.1, (World.cell?_setCell_other _ _ _ _ (fun e => hne0 (by injection e with e _ _; exact e.symm))).trans hHeld.2.1, (World.cell?_setCell_other _ _ _ _ (fun e => hne0 (by injection e with e _ _; exact e.symm))).trans hHeld.2.2⟩ (fun hHeld => ?_)
    clear hK K
    try simp only [Act.put]
    try simp only [List.getElem_toArray]
    try simp only [List.getElem_cons_succ]
    try simp only [List.getElem_cons_zero]
    try simp only [List.setIfInBounds_toArray]
    try simp only [List.set_cons_succ]
    try simp only [List.set_cons_zero]
    refine wpAnyH_take (i := 19) (v := ?vt22) rfl (by kernel_rfl) (by kernel_rfl) (by kernel_rfl) (fun _ _ _ h => h) (Or.inl ⟨by rfl, ?yt22⟩) hHeld ?rt22
    case yt22 => ((intro W hSw; obtain ⟨hS0, hS1, hS2⟩ := hSw; go_simp) <;> with_reducible rfl)
    try simp only [Act.put]
    try simp only [List.getElem_toArray]
    try simp only [List.getElem_cons_succ]
    try simp only [List.getElem_cons_zero]
    try simp only [List.setIfInBounds_toArray]
    try simp only [List.set_cons_succ]
    try simp only [List.set_cons_zero]
    refine wpAnyH_ready (rs := [20]) (by kernel_rfl) (by simp) ?_
    refine AllReadyH.cons rfl (fun K hK => ?_) AllReadyH.nil
    go_simp
    refine hK.out _ _ ⟨(World.cell?_setCell_other _ _ _ _ (fun e => hne0 (by injection e with e _ _; exact e.symm))).trans hHeld.1, (World.cell?_setCell_other _ _ _ _ (fun e => hne0 (by injection e with e _ _; exact e.symm))).trans hHeld.2.1, (World.cell?_setCell_other _ _ _ _ (fun e => hne0 (by injection e with e _ _; exact e.symm))).trans hHeld.2.2⟩ (fun hHeld => ?_)
    clear hK K
    refine wpAnyH_done (by kernel_rfl) ?_ _
    refine NoPanic.normal ?_
    clear hHeld y6 y8 y12 g1 g2 g4 gf
    have HB5 : Hid (Bx2 w.heap.size (((W2.setCell ⟨w.heap.size, 4, none⟩ (.int .i64 x.pl.second)).setCell ⟨w.heap.size, 1, none⟩ (.int .i64 x.pl.secondTy)).setCell ⟨w.heap.size, 2, none⟩ (.int .i64 (x.second : Int))).drew mk ex x.pl.secondTy (x.second : Int) ti x.pl.second pr pa (.slice acv cln ccv) en py') := (HB3.out.set x.pl.secondTy (x.second : Int) x.pl.second).chg (T := fun _ => False) (Chg.refl _ _).drew (fun e => e) (fun e => e)
    have HU5 : Hid (Below w.heap.size w (((W2.setCell ⟨w.heap.size, 4, none⟩ (.int .i64 x.pl.second)).setCell ⟨w.heap.size, 1, none⟩ (.int .i64 x.pl.secondTy)).setCell ⟨w.heap.size, 2, none⟩ (.int .i64 (x.second : Int))).drew) := (((HU2.out.setCell (p := ⟨w.heap.size, 4, none⟩) (Nat.le_refl _) _).setCell (p := ⟨w.heap.size, 1, none⟩) (Nat.le_refl _) _).setCell (p := ⟨w.heap.size, 2, none⟩) (Nat.le_refl _) _).drew
    clear HB3 HU2 HW2
    generalize (((W2.setCell ⟨w.heap.size, 4, none⟩ (.int .i64 x.pl.second)).setCell ⟨w.heap.size, 1, none⟩ (.int .i64 x.pl.secondTy)).setCell ⟨w.heap.size, 2, none⟩ (.int .i64 (x.second : Int))).drew = W4 at *
    obtain ⟨q0, q1, q2, q3, q4, q5, q6, q7, q8, q9, q10, z0, z1, z2, z3, z4, z5, z6, z7, z8, z9, z10, qf0, qf1⟩ := HB5.out
    have HU6 : Hid (Below w.heap.size w ((((((((((((W4.setCell ⟨w.heap.size, 10, none⟩ (.int .i64 0)).setCell ⟨w.heap.size + 1, 0, none⟩ (.bool mk)).setCell ⟨w.heap.size + 1, 1, none⟩ (.int .i64 x.pl.secondTy)).setCell ⟨w.heap.size + 1, 2, none⟩ (.int .i64 (x.second : Int))).setCell ⟨w.heap.size + 1, 3, none⟩ (.int .i64 ti)).setCell ⟨w.heap.size + 1, 4, none⟩ (.int .i64 x.pl.second)).setCell ⟨w.heap.size + 1, 5, none⟩ (.slice acv cln ccv)).setCell ⟨w.heap.size + 1, 6, none⟩ (.bool ex)).setCell ⟨w.heap.size + 1, 7, none⟩ (.int .i64 pr)).setCell ⟨w.heap.size + 1, 8, none⟩ (.string en)).setCell ⟨w.heap.size + 1, 9, none⟩ (.string py')).setCell ⟨w.heap.size + 1, 10, none⟩ (.int .i64 0))) := ((((((((((((HU5.out.setCell (p := ⟨w.heap.size, 10, none⟩) (Nat.le_refl _) _).setCell (p := ⟨w.heap.size + 1, 0, none⟩) (Nat.le_succ _) _).setCell (p := ⟨w.heap.size + 1, 1, none⟩) (Nat.le_succ _) _).setCell (p := ⟨w.heap.size + 1, 2, none⟩) (Nat.le_succ _) _).setCell (p := ⟨w.heap.size + 1, 3, none⟩) (Nat.le_succ _) _).setCell (p := ⟨w.heap.size + 1, 4, none⟩) (Nat.le_succ _) _).setCell (p := ⟨w.heap.size + 1, 5, none⟩) (Nat.le_succ _) _).setCell (p := ⟨w.heap.size + 1, 6, none⟩) (Nat.le_succ _) _).setCell (p := ⟨w.heap.size + 1, 7, none⟩) (Nat.le_succ _) _).setCell (p := ⟨w.heap.size + 1, 8, none⟩) (Nat.le_succ _) _).setCell (p := ⟨w.heap.size + 1, 9, none⟩) (Nat.le_succ _) _).setCell (p := ⟨w.heap.size + 1, 10, none⟩) (Nat.le_succ _) _)
    clear HB5
    go_wp2
    refine bodyPost_ret (v := .agg #[.bool mk, .int .i64 x.pl.secondTy, .int .i64 (x.second : Int), .int .i64 ti, .int .i64 x.pl.second, .slice acv cln ccv, .bool ex, .int .i64 pr, .string en, .string py', .int .i64 0]) (by simp [results, Try.results125, go_sem, z0, z1, z2, z3, z4, z5, z6, z7, z8, z9, z10]) rfl ⟨by rw [Hpp.out], HU6.out⟩
  · have q9 := HB.out.q9
    go_simp
    refine hK.out _ _ hHeld (fun hHeld => ?_)
    clear hK K
    try simp only [Act.put]
    try simp only [List.getElem_toArray]
    try simp only [List.getElem_cons_succ]
    try simp only [List.getElem_cons_zero]
    try simp only [List.setIfInBounds_toArray]
    try simp only [List.set_cons_succ]
    try simp only [List.set_cons_zero]
    refine wpAnyH_ready (rs := [2]) (by kernel_rfl) (by simp) ?_
    refine AllReadyH.cons rfl (fun K hK => ?_) AllReadyH.nil
    go_simp
    refine (numberBytes_any n _ hn).mono ?_
    rintro e w1 ⟨rfl, hb1⟩
    have HU1 : Hid (Below w.heap.size w w1) := (HU.out.drew).trans (hb1.mono (Nat.le_of_lt hbs))
    have HB1 := (HB.out.chg (T := fun _ => False) (Chg.refl _ _).drew (fun e => e) (fun e => e)).chg (T := fun _ => False) (Chg.ofBelow hb1) (fun e => e) (fun e => e)
    have HW1 : Hid (WnAt C w1 base wb v x) := (HW.out.below (Below.refl _ _).drew).below hb1
    have hbs1 : w.heap.size < w1.heap.size := lt_of_cell HB1.q1
    clear hb1
    go_simp
    refine hK.out _ _ ⟨HB1.q1, HB1.q2⟩ (fun hHeld => ?_)
    clear hK K
    try simp only [Act.put]
    try simp only [List.getElem_toArray]
    try simp only [List.getElem_cons_succ]
    try simp only [List.getElem_cons_zero]
    try simp only [List.setIfInBounds_toArray]
    try simp only [List.set_cons_succ]
    try simp only [List.set_cons_zero]
    have qf := HB1.f0
    have qz := HB1.q9
    refine wpAnyH_ready (rs := [5]) (by kernel_rfl) (by simp) ?_
    refine AllReadyH.cons rfl (fun K hK => ?_) AllReadyH.nil
    go_simp
    refine hK.out _ _ hHeld (fun hHeld => ?_)
    clear hK K
    try simp only [Act.put]
    try simp only [List.getElem_toArray]
    try simp only [List.getElem_cons_succ]
    try simp only [List.getElem_cons_zero]
    try simp only [List.setIfInBounds_toArray]
    try simp only [List.set_cons_succ]
    try simp only [List.set_cons_zero]
    refine wpAnyH_take (i := 6) (v := ?vt23) rfl (by kernel_rfl) (by kernel_rfl) (by kernel_rfl) (fun _ _ _ h => h) (Or.inl ⟨by rfl, ?yt23⟩) hHeld ?rt23
    case yt23 => ((intro W hSw; obtain ⟨hS0, hS1⟩ := hSw; go_simp) <;> with_reducible rfl)
    try simp only [Act.put]
    try simp only [List.getElem_toArray]
    try simp only [List.getElem_cons_succ]
    try simp only [List.getElem_cons_zero]
    try simp only [List.setIfInBounds_toArray]
    try simp only [List.set_cons_succ]
    try simp only [List.set_cons_zero]
    refine wpAnyH_ready (rs := [7]) (by kernel_rfl) (by simp) ?_
    refine AllReadyH.cons rfl (fun K hK => ?_) AllReadyH.nil
    go_simp
    have HB2 := HB1.setP (numB n ++ py)
    refine hK.out _ _ ⟨HB2.q1, HB2.q2⟩ (fun hHeld => ?_)
    clear hK K
    refine wpAnyH_done (by kernel_rfl) ?_ _
    refine NoPanic.normal ?_
    have HU2 : Hid (Below w.heap.size w (w1.setCell ⟨w.heap.size, 9, none⟩ (.string (numB n ++ py)))) := HU1.out.setCell (p := ⟨w.heap.size, 9, none⟩) (Nat.le_refl _) _
    have HW2 : Hid (WnAt C (w1.setCell ⟨w.heap.size, 9, none⟩ (.string (numB n ++ py))) base wb v x) := HW1.out.chg ((Chg.refl (fun b => b = w.heap.size) _).setCell ⟨w.heap.size, 9, none⟩ (.inl rfl) _) hne0 HV.out HCC.out
    have HB3 : Hid (Bx2 w.heap.size (w1.setCell ⟨w.heap.size, 9, none⟩ (.string (numB n ++ py))) mk ex ty n ti so pr pa (.slice acv cln ccv) en (numB n ++ py)) := HB2
    clear HB1 HB2 hHeld qf qz q9 HU1 HW1 HB HW HU g1 g2 hbs hbs1 B0 U0 WA
    generalize (w1.setCell ⟨w.heap.size, 9, none⟩ (.string (numB n ++ py))) = W2 at *
    generalize hpp : numB n ++ py = py' at *
    have Hpp : Hid (numB n ++ py = py') := hpp
    clear hpp
    go_wp2
    have y6 := HW2.out.c6
    have y8 := HW2.out.c8
    have y12 := HW2.out.c12
    have g1 := HB3.out.q1
    have g2 := HB3.out.q2
    have g4 := HB3.out.q4
    have gf := HB3.out.f0
    refine wp_region_noPanic ?_
    refine wp_region_held_drew (S := fun W => W.cell? ⟨wb, 6, none⟩ = some (.int .i64 x.pl.second) ∧ W.cell? ⟨wb, 8, none⟩ = some (.int .i64 x.pl.secondTy) ∧ W.cell? ⟨wb, 12, none⟩ = some (.int .u16 x.second)) (by kernel_rfl) ⟨y6, y8, y12⟩ (fun hHeld => ?_)
    refine wpAnyH_take (i := 0) (v := ?vt24) rfl (by kernel_rfl) (by kernel_rfl) (by kernel_rfl) (fun _ _ _ h => h) (Or.inl ⟨by rfl, ?yt24⟩) hHeld ?rt24
    case yt24 => ((intro W hSw; obtain ⟨hS0, hS1, hS2⟩ := hSw; go_simp) <;> with_reducible rfl)
    try simp only [Act.put]
    try simp only [List.getElem_toArray]
    try simp only [List.getElem_cons_succ]
    try simp only [List.getElem_cons_zero]
    try simp only [List.setIfInBounds_toArray]
    try simp only [List.set_cons_succ]
    try simp only [List.set_cons_zero]
    refine wpAnyH_take (i := 1) (v := ?vt25) rfl (by kernel_rfl) (by kernel_rfl) (by kernel_rfl) (fun _ _ _ h => h) (Or.inl ⟨by rfl, ?yt25⟩) hHeld ?rt25
    case yt25 => ((intro W hSw; obtain ⟨hS0, hS1, hS2⟩ := hSw; go_simp) <;> with_reducible rfl)
    try simp only [Act.put]
    try simp only [List.getElem_toArray]
    try simp only [List.getElem_cons_succ]
    try simp only [List.getElem_cons_zero]
    try simp only [List.setIfInBounds_toArray]
    try simp only [List.set_cons_succ]
    try simp only [List.set_cons_zero]
    refine wpAnyH_take (i := 2) (v := ?vt26) rfl (by kernel_rfl) (by kernel_rfl) (by kernel_rfl) (fun _ _ _ h => h) (Or.inl ⟨by rfl, ?yt26⟩) hHeld ?rt26
    case yt26 => ((intro W hSw; obtain ⟨hS0, hS1, hS2⟩ := hSw; go_simp) <;> with_reducible rfl)
    try simp only [Act.put]
    try simp only [List.getElem_toArray]
    try simp only [List.getElem_cons_succ]
    try simp only [List.getElem_cons_zero]
    try simp only [List.setIfInBounds_toArray]
    try simp only [List.set_cons_succ]
    try simp only [List.set_cons_zero]
    refine wpAnyH_take (i := 3) (v := ?vt27) rfl (by kernel_rfl) (by kernel_rfl) (by kernel_rfl) (fun _ _ _ h => h) (Or.inl ⟨by rfl, ?yt27⟩) hHeld ?rt27
    case yt27 => ((intro W hSw; obtain ⟨hS0, hS1, hS2⟩ := hSw; go_simp) <;> with_reducible rfl)
    try simp only [Act.put]
    try simp only [List.getElem_toArray]
    try simp only [List.getElem_cons_succ]
    try simp only [List.getElem_cons_zero]
    try simp only [List.setIfInBounds_toArray]
    try simp only [List.set_cons_succ]
    try simp only [List.set_cons_zero]
    refine wpAnyH_take (i := 4) (v := ?vt28) rfl (by kernel_rfl) (by kernel_rfl) (by kernel_rfl) (fun _ _ _ h => h) (Or.inl ⟨by rfl, ?yt28⟩) hHeld ?rt28
    case yt28 => ((intro W hSw; obtain ⟨hS0, hS1, hS2⟩ := hSw; go_simp) <;> with_reducible rfl)
    try simp only [Act.put]
    try simp only [List.getElem_toArray]
    try simp only [List.getElem_cons_succ]
    try simp only [List.getElem_cons_zero]
    try simp only [List.setIfInBounds_toArray]
    try simp only [List.set_cons_succ]
    try simp only [List.set_cons_zero]
    refine wpAnyH_take (i := 5) (v := ?vt29) rfl (by kernel_rfl) (by kernel_rfl) (by kernel_rfl) (fun _ _ _ h => h) (Or.inl ⟨by rfl, ?yt29⟩) hHeld ?rt29
    case yt29 => ((intro W hSw; obtain ⟨hS0, hS1, hS2⟩ := hSw; go_simp) <;> with_reducible rfl)
    try simp only [Act.put]
    try simp only [List.getElem_toArray]
    try simp only [List.getElem_cons_succ]
    try simp only [List.getElem_cons_zero]
    try simp only [List.setIfInBounds_toArray]
    try simp only [List.set_cons_succ]
    try simp only [List.set_cons_zero]
    refine wpAnyH_take (i := 6) (v := ?vt30) rfl (by kernel_rfl) (by kernel_rfl) (by kernel_rfl) (fun _ _ _ h => h) (Or.inl ⟨by rfl, ?yt30⟩) hHeld ?rt30
    case yt30 => ((intro W hSw; obtain ⟨hS0, hS1, hS2⟩ := hSw; go_simp) <;> with_reducible rfl)
    try simp only [Act.put]
    try simp only [List.getElem_toArray]
    try simp only [List.getElem_cons_succ]
    try simp only [List.getElem_cons_zero]
    try simp only [List.setIfInBounds_toArray]
    try simp only [List.set_cons_succ]
    try simp only [List.set_cons_zero]
    refine wpAnyH_take (i := 7) (v := ?vt31) rfl (by kernel_rfl) (by kernel_rfl) (by kernel_rfl) (fun _ _ _ h => h) (Or.inl ⟨by rfl, ?yt31⟩) hHeld ?rt31
    case yt31 => ((intro W hSw; obtain ⟨hS0, hS1, hS2⟩ := hSw; go_simp) <;> with_reducible rfl)
    try simp only [Act.put]
    try simp only [List.getElem_toArray]
    try simp only [List.getElem_cons_succ]
    try simp only [List.getElem_cons_zero]
    try simp only [List.setIfInBounds_toArray]
    try simp only [List.set_cons_succ]
    try simp only [List.set_cons_zero]
    refine wpAnyH_take (i := 8) (v := ?vt32) rfl (by kernel_rfl) (by kernel_rfl) (by kernel_rfl) (fun _ _ _ h => h) (Or.inl ⟨by rfl, ?yt32⟩) hHeld ?rt32
    case yt32 => ((intro W hSw; obtain ⟨hS0, hS1, hS2⟩ := hSw; go_simp) <;> with_reducible rfl)
    try simp only [Act.put]
    try simp only [List.getElem_toArray]
    try simp only [List.getElem_cons_succ]
    try simp only [List.getElem_cons_zero]
    try simp only [List.setIfInBounds_toArray]
    try simp only [List.set_cons_succ]
    try simp only [List.set_cons_zero]
    refine wpAnyH_take (i := 9) (v := ?vt33) rfl (by kernel_rfl) (by kernel_rfl) (by kernel_rfl) (fun _ _ _ h => h) (Or.inl ⟨by rfl, ?yt33⟩) hHeld ?rt33
    case yt33 => ((intro W hSw; obtain ⟨hS0, hS1, hS2⟩ := hSw; go_simp) <;> with_reducible rfl)
    try simp only [Act.put]
    try simp only [List.getElem_toArray]
    try simp only [List.getElem_cons_succ]
    try simp only [List.getElem_cons_zero]
    try simp only [List.setIfInBounds_toArray]
    try simp only [List.set_cons_succ]
    try simp only [List.set_cons_zero]
    refine wpAnyH_take (i := 10) (v := ?vt34) rfl (by kernel_rfl) (by kernel_rfl) (by kernel_rfl) (fun _ _ _ h => h) (Or.inl ⟨by rfl, ?yt34⟩) hHeld ?rt34
    case yt34 => ((intro W hSw; obtain ⟨hS0, hS1, hS2⟩ := hSw; go_simp) <;> with_reducible rfl)
    try simp only [Act.put]
    try simp only [List.getElem_toArray]
    try simp only [List.getElem_cons_succ]
    try simp only [List.getElem_cons_zero]
    try simp only [List.setIfInBounds_toArray]
    try simp only [List.set_cons_succ]
    try simp only [List.set_cons_zero]
    refine wpAnyH_take (i := 11) (v := ?vt35) rfl (by kernel_rfl) (by kernel_rfl) (by kernel_rfl) (fun _ _ _ h => h) (Or.inl ⟨by rfl, ?yt35⟩) hHeld ?rt35
    case yt35 => ((intro W hSw; obtain ⟨hS0, hS1, hS2⟩ := hSw; go_simp) <;> with_reducible rfl)
    try simp only [Act.put]
    try simp only [List.getElem_toArray]
    try simp only [List.getElem_cons_succ]
    try simp only [List.getElem_cons_zero]
    try simp only [List.setIfInBounds_toArray]
    try simp only [List.set_cons_succ]
    try simp only [List.set_cons_zero]
    refine wpAnyH_take (i := 12) (v := ?vt36) rfl (by kernel_rfl) (by kernel_rfl) (by kernel_rfl) (fun _ _ _ h => h) (Or.inl ⟨by rfl, ?yt36⟩) hHeld ?rt36
    case yt36 => ((intro W hSw; obtain ⟨hS0, hS1, hS2⟩ := hSw; go_simp) <;> with_reducible rfl)
    try simp only [Act.put]
    try simp only [List.getElem_toArray]
    try simp only [List.getElem_cons_succ]
    try simp only [List.getElem_cons_zero]
    try simp only [List.setIfInBounds_toArray]
    try simp only [List.set_cons_succ]
    try simp only [List.set_cons_zero]
    refine wpAnyH_take (i := 13) (v := ?vt37) rfl (by kernel_rfl) (by kernel_rfl) (by kernel_rfl) (fun _ _ _ h => h) (Or.inl ⟨by rfl, ?yt37⟩) hHeld ?rt37
    case yt37 => ((intro W hSw; obtain ⟨hS0, hS1, hS2⟩ := hSw; go_simp) <;> with_reducible rfl)
    try simp only [Act.put]
    try simp only [List.getElem_toArray]
    try simp only [List.getElem_cons_succ]
    try simp only [List.getElem_cons_zero]
    try simp only [List.setIfInBounds_toArray]
    try simp only [List.set_cons_succ]
    try simp only [List.set_cons_zero]
    refine wpAnyH_take (i := 14) (v := ?vt38) rfl (by kernel_rfl) (by kernel_rfl) (by kernel_rfl) (fun _ _ _ h => h) (Or.inl ⟨by rfl, ?yt38⟩) hHeld ?rt38
    case yt38 => ((intro W hSw; obtain ⟨hS0, hS1, hS2⟩ := hSw; go_simp) <;> with_reducible rfl)
    try simp only [Act.put]
    try simp only [List.getElem_toArray]
    try simp only [List.getElem_cons_succ]
    try simp only [List.getElem_cons_zero]
    try simp only [List.setIfInBounds_toArray]
    try simp only [List.set_cons_succ]
    try simp only [List.set_cons_zero]
    refine wpAnyH_take (i := 15) (v := ?vt39) rfl (by kernel_rfl) (by kernel_rfl) (by kernel_rfl) (fun _ _ _ h => h) (Or.inl ⟨by rfl, ?yt39⟩) hHeld ?rt39
    case yt39 => ((intro W hSw; obtain ⟨hS0, hS1, hS2⟩ := hSw; go_simp) <;> with_reducible rfl)
    try simp only [Act.put]
    try simp only [List.getElem_toArray]
    try simp only [List.getElem_cons_succ]
    try simp only [List.getElem_cons_zero]
    try simp only [List.setIfInBounds_toArray]
    try simp only [List.set_cons_succ]
    try simp only [List.set_cons_zero]
    refine wpAnyH_ready (rs := [16]) (by kernel_rfl) (by simp) ?_
    refine AllReadyH.cons rfl (fun K hK => ?_) AllReadyH.nil
    go_simp
    refine hK.out _ _ ⟨(World.cell?_setCell_other _ _ _ _ (fun e => hne0 (by injection e with e _ _; exact e.symm))).trans hHeld.1, (World.cell?_setCell_other _ _ _ _ (fun e => hne0 (by injection e with e _ _; exact e.symm))).trans hHeld.2.1, (World.cell?_setCell_other _ _ _ _ (fun e => hne0 (by injection e with e _ _; exact e.symm))).trans hHeld.2.2⟩ (fun hHeld => ?_)
    clear hK K
    try simp only [Act.put]
    try simp only [List.getElem_toArray]
    try simp only [List.getElem_cons_succ]
    try simp only [List.getElem_cons_zero]
    try simp only [List.setIfInBounds_toArray]
    try simp only [List.set_cons_succ]
    try simp only [List.set_cons_zero]
    refine wpAnyH_take (i := 17) (v := ?vt40) rfl (by kernel_rfl) (by kernel_rfl) (by kernel_rfl) (fun _ _ _ h => h) (Or.inl ⟨by rfl, ?yt40⟩) hHeld ?rt40
    case yt40 => ((intro W hSw; obtain ⟨hS0, hS1, hS2⟩ := hSw; go_simp) <;> with_reducible rfl)
    try simp only [Act.put]
    try simp only [List.getElem_toArray]
    try simp only [List.getElem_cons_succ]
    try simp only [List.getElem_cons_zero]
    try simp only [List.setIfInBounds_toArray]
    try simp only [List.set_cons_succ]
    try simp only [List.set_cons_zero]
    refine wpAnyH_ready (rs := [18]) (by kernel_rfl) (by simp) ?_
    refine AllReadyH.cons rfl (fun K hK => ?_) AllReadyH.nil
    go_simp
    refine hK.out _ _ ⟨(World.cell?_setCell_other _ _ _ _ (fun e => hne0 (by injection e with e _ _; exact e.symm))).trans hHeld.1, (World.cell?_setCell_other _ _ _ _ (fun e => hne0 (by injection e with e _ _; exact e.symm))).trans hHeld.2.1, (World.cell?_setCell_other _ _ _ _ (fun e => hne0 (by injection e with e _ _; exact e.symm))).trans hHeld.2.2⟩ (fun hHeld => ?_)
    clear hK K
    try simp only [Act.put]
    try simp only [List.getElem_toArray]
    try simp only [List.getElem_cons_succ]
    try simp only [List.getElem_cons_zero]
    try simp only [List.setIfInBounds_toArray]
    try simp only [List.set_cons_succ]
    try simp only [List.set_cons_zero]
    refine wpAnyH_take (i := 19) (v := ?vt41) rfl (by kernel_rfl) (by kernel_rfl) (by kernel_rfl) (fun _ _ _ h => h) (Or.inl ⟨by rfl, ?yt41⟩) hHeld ?rt41
    case yt41 => ((intro W hSw; obtain ⟨hS0, hS1, hS2⟩ := hSw; go_simp) <;> with_reducible rfl)
    try simp only [Act.put]
    try simp only [List.getElem_toArray]
    try simp only [List.getElem_cons_succ]
    try simp only [List.getElem_cons_zero]
    try simp only [List.setIfInBounds_toArray]
    try simp only [List.set_cons_succ]
    try simp only [List.set_cons_zero]
    refine wpAnyH_ready (rs := [20]) (by kernel_rfl) (by simp) ?_
    refine AllReadyH.cons rfl (fun K hK => ?_) AllReadyH.nil
    go_simp
    refine hK.out _ _ ⟨(World.cell?_setCell_other _ _ _ _ (fun e => hne0 (by injection e with e _ _; exact e.symm))).trans hHeld.1, (World.cell?_setCell_other _ _ _ _ (fun e => hne0 (by injection e with e _ _; exact e.symm))).trans hHeld.2.1, (World.cell?_setCell_other _ _ _ _ (fun e => hne0 (by injection e with e _ _; exact e.symm))).trans hHeld.2.2⟩ (fun hHeld => ?_)
    clear hK K
    refine wpAnyH_done (by kernel_rfl) ?_ _
    refine NoPanic.normal ?_
    clear hHeld y6 y8 y12 g1 g2 g4 gf
    have HB5 : Hid (Bx2 w.heap.size (((W2.setCell ⟨w.heap.size, 4, none⟩ (.int .i64 x.pl.second)).setCell ⟨w.heap.size, 1, none⟩ (.int .i64 x.pl.secondTy)).setCell ⟨w.heap.size, 2, none⟩ (.int .i64 (x.second : Int))).drew mk ex x.pl.secondTy (x.second : Int) ti x.pl.second pr pa (.slice acv cln ccv) en py') := (HB3.out.set x.pl.secondTy (x.second : Int) x.pl.second).chg (T := fun _ => False) (Chg.refl _ _).drew (fun e => e) (fun e => e)
    have HU5 : Hid (Below w.heap.size w (((W2.setCell ⟨w.heap.size, 4, none⟩ (.int .i64 x.pl.second)).setCell ⟨w.heap.size, 1, none⟩ (.int .i64 x.pl.secondTy)).setCell ⟨w.heap.size, 2, none⟩ (.int .i64 (x.second : Int))).drew) := (((HU2.out.setCell (p := ⟨w.heap.size, 4, none⟩) (Nat.le_refl _) _).setCell (p := ⟨w.heap.size, 1, none⟩) (Nat.le_refl _) _).setCell (p := ⟨w.heap.size, 2, none⟩) (Nat.le_refl _) _).drew
    clear HB3 HU2 HW2
    generalize (((W2.setCell ⟨w.heap.size, 4, none⟩ (.int .i64 x.pl.second)).setCell ⟨w.heap.size, 1, none⟩ (.int .i64 x.pl.secondTy)).setCell ⟨w.heap.size, 2, none⟩ (.int .i64 (x.second : Int))).drew = W4 at *
    obtain ⟨q0, q1, q2, q3, q4, q5, q6, q7, q8, q9, q10, z0, z1, z2, z3, z4, z5, z6, z7, z8, z9, z10, qf0, qf1⟩ := HB5.out
    have HU6 : Hid (Below w.heap.size w ((((((((((((W4.setCell ⟨w.heap.size, 10, none⟩ (.int .i64 0)).setCell ⟨w.heap.size + 1, 0, none⟩ (.bool mk)).setCell ⟨w.heap.size + 1, 1, none⟩ (.int .i64 x.pl.secondTy)).setCell ⟨w.heap.size + 1, 2, none⟩ (.int .i64 (x.second : Int))).setCell ⟨w.heap.size + 1, 3, none⟩ (.int .i64 ti)).setCell ⟨w.heap.size + 1, 4, none⟩ (.int .i64 x.pl.second)).setCell ⟨w.heap.size + 1, 5, none⟩ (.slice acv cln ccv)).setCell ⟨w.heap.size + 1, 6, none⟩ (.bool ex)).setCell ⟨w.heap.size + 1, 7, none⟩ (.int .i64 pr)).setCell ⟨w.heap.size + 1, 8, none⟩ (.string en)).setCell ⟨w.heap.size + 1, 9, none⟩ (.string py')).setCell ⟨w.heap.size + 1, 10, none⟩ (.int .i64 0))) := ((((((((((((HU5.out.setCell (p := ⟨w.heap.size, 10, none⟩) (Nat.le_refl _) _).setCell (p := ⟨w.heap.size + 1, 0, none⟩) (Nat.le_succ _) _).setCell (p := ⟨w.heap.size + 1, 1, none⟩) (Nat.le_succ _) _).setCell (p := ⟨w.heap.size + 1, 2, none⟩) (Nat.le_succ _) _).setCell (p := ⟨w.heap.size + 1, 3, none⟩) (Nat.le_succ _) _).setCell (p := ⟨w.heap.size + 1, 4, none⟩) (Nat.le_succ _) _).setCell (p := ⟨w.heap.size + 1, 5, none⟩) (Nat.le_succ _) _).setCell (p := ⟨w.heap.size + 1, 6, none⟩) (Nat.le_succ _) _).setCell (p := ⟨w.heap.size + 1, 7, none⟩) (Nat.le_succ _) _).setCell (p := ⟨w.heap.size + 1, 8, none⟩) (Nat.le_succ _) _).setCell (p := ⟨w.heap.size + 1, 9, none⟩) (Nat.le_succ _) _).setCell (p := ⟨w.heap.size + 1, 10, none⟩) (Nat.le_succ _) _)
    clear HB5
    go_wp2
    refine bodyPost_ret (v := .agg #[.bool mk, .int .i64 x.pl.secondTy, .int .i64 (x.second : Int), .int .i64 ti, .int .i64 x.pl.second, .slice acv cln ccv, .bool ex, .int .i64 pr, .string en, .string py', .int .i64 0]) (by simp [results, Try.results125, go_sem, z0, z1, z2, z3, z4, z5, z6, z7, z8, z9, z10]) rfl ⟨by rw [Hpp.out], HU6.out⟩

end Go.Proofs.Ytdjhhnolcafkiaa

/- Again. -/
namespace Go.Proofs.Ytdjhhnolcafkiaa
open Go.RowKit
namespace Pk
/-- a packet as it is sent again -/
def againR (x : Wn) (k : Kp) : ByteArray × Int := tellR k.x.mrk k.x.ex x.pl.secondTy (x.second : Int) k.x.ti x.pl.second k.x.pr 0 k.x.cl k.x.en (numB k.x.nu.toNat ++ k.x.py)
def sentW (x : Wn) (p : Nat) (k : Kp) (rests : Int) : Wn := { x with kept := x.kept.set p { k with rests := rests }, second := (x.second + 1) % 65536 }
/-- what is sent again of a number, and what the want then is -/
def againF (x : Wn) (number : Nat) (now delay tokens : Int) : Wn × Option ByteArray :=
  if posF number (x.kept.map Kp.n) < 0 then (x, none) else
  match x.kept[(posF number (x.kept.map Kp.n)).toNat]? with
  | none => (x, none)
  | some k => if now < k.rests then (x, none) else if (againR x k).2 ≠ 0 ∨ tokens < (againR x k).1.size then (x, none) else (sentW x (posF number (x.kept.map Kp.n)).toNat k (now + delay), some (againR x k).1)
/-- what is kept can be sent again -/
def KOk (x : Wn) : Prop := ∀ k ∈ x.kept, (0 ≤ k.x.nu ∧ k.x.nu ≤ 65535) ∧ k.x.cl.length ≤ 1000 ∧ k.x.en.size ≤ 1000000 ∧ k.x.py.size ≤ 1000000
theorem flat_set {α : Type} {f : α → List Value} {k : Nat} (hf : ∀ x, (f x).length = k) (y : α) (u : Value) (j : Nat) (hj : j < k) : ∀ (l : List α) (i : Nat) (h : i < l.length), f y = (f l[i]).set j u → (l.flatMap f).set (i * k + j) u = (l.set i y).flatMap f
  | a :: r, 0, _, e => by
    have e' : f y = (f a).set j u := e
    rw [List.flatMap_cons, List.set_cons_zero, List.flatMap_cons, e', Nat.zero_mul, Nat.zero_add, List.set_append_left _ _ (by rw [hf]; exact hj)]
  | a :: r, i + 1, h, e => by
    have ih := flat_set hf y u j hj r i (by simpa using h) (by simpa using e)
    have e1 : (i + 1) * k + j - (f a).length = i * k + j := by rw [hf, Nat.succ_mul]; omega
    rw [List.flatMap_cons, List.set_cons_succ, List.flatMap_cons, List.set_append_right _ _ (by rw [hf, Nat.succ_mul]; omega), e1, ih]
theorem cellsK_rests (k : Kp) (r : Int) : cellsK { k with rests := r } = (cellsK k).set 12 (.int .i64 r) := rfl
/-- the time until which it rests is stored -/
theorem WnAt.rest {C : Nat → Prop} {W : World} {base wb g cap : Nat} {x : Wn} {p : Nat} {k : Kp} (h : WnAt C W base wb (.slice (some ⟨g, 0, none⟩) x.kept.length cap) x) (hp : p < x.kept.length) (hk : x.kept[p] = k) (r : Int) :
    WnAt C (W.setCell ⟨g, p * 13 + 12, none⟩ (.int .i64 r)) base wb (.slice (some ⟨g, 0, none⟩) x.kept.length cap) { x with kept := x.kept.set p { k with rests := r } } ∧ SdUp W (W.setCell ⟨g, p * 13 + 12, none⟩ (.int .i64 r)) wb (.slice (some ⟨g, 0, none⟩) x.kept.length cap) (.slice (some ⟨g, 0, none⟩) x.kept.length cap) := by
  have hgw : g ≠ wb := fun e => h.ne (by rw [e]; rfl)
  have hc : Chg (fun b => b = g) W (W.setCell ⟨g, p * 13 + 12, none⟩ (.int .i64 r)) := (Chg.refl (fun b => b = g) _).setCell ⟨g, p * 13 + 12, none⟩ (.inl rfl) _
  have hst := (h.row.stored (p * 13 + 12) (.int .i64 r)).1
  have hrow : (W.setCell ⟨g, p * 13 + 12, none⟩ (.int .i64 r)).ownsRow base 185 13 (.slice (some ⟨g, 0, none⟩) x.kept.length cap) (x.kept.set p { k with rests := r }).length ((x.kept.set p { k with rests := r }).flatMap cellsK) := by
    rw [List.length_set, ← flat_set cellsK_len { k with rests := r } (.int .i64 r) 12 (by omega) x.kept p hp (by rw [hk]; exact cellsK_rests k r)]
    exact hst
  have n : ¬ wb = g := fun e => hgw e.symm
  refine ⟨⟨hc.cell h.c0 n, hc.cell h.c1 n, hc.cell h.c2 n, hc.cell h.c3 n, hc.cell h.c4 n, hc.cell h.c5 n, hc.cell h.c6 n, hc.cell h.c7 n, hc.cell h.c8 n, hc.cell h.c9 n, hc.cell h.c10 n, hc.cell h.c11 n, hc.cell h.c12 n, fun o => (hc.frozen (p := ⟨wb, o, none⟩) h.lt n).trans (h.fz o), hrow, h.sb, fun q hq => ?_, h.n1, h.n2⟩, hc.mono (fun b _ e => .inr (by rw [e]; rfl)), fun _ h => .inl h⟩
  have hcon : IsC C W q.cv q.x.cl := by
    rcases List.mem_or_eq_of_mem_set hq with hq | rfl
    · exact h.con q hq
    · exact h.con k (hk ▸ List.getElem_mem hp)
  exact hcon.chg hc (fun b hb e => h.n2 g rfl (e ▸ hb))
theorem again_none {x : Wn} {number : Nat} {now delay tokens : Int} (h : posF number (x.kept.map Kp.n) = -1) : againF x number now delay tokens = (x, none) := by
  unfold againF
  rw [h, if_pos (by omega)]
theorem again_at {x : Wn} {number p : Nat} {k : Kp} {now delay tokens : Int} (h : posF number (x.kept.map Kp.n) = p) (hk : x.kept[p]? = some k) : againF x number now delay tokens = if now < k.rests then (x, none) else if (againR x k).2 ≠ 0 ∨ tokens < (againR x k).1.size then (x, none) else (sentW x p k (now + delay), some (againR x k).1) := by
  unfold againF
  rw [h, if_neg (by omega)]
  simp only [Int.toNat_natCast, hk]
/-- what Again answers -/
def ansV : Option ByteArray → Value
  | none => .tuple #[.string ⟨#[]⟩, .bool false]
  | some t => .tuple #[.string t, .bool true]
end Pk
open Pk

set_option maxRecDepth 20000 in
set_option maxHeartbeats 4000000 in
theorem again_any (C : Nat → Prop) (base wb : Nat) (v : Value) (x : Wn) (number : Nat) (now delay tokens : Int) (w : World) (h : WnAt C w base wb v x) (hC : ∀ b, C b → b < w.heap.size) (ok : KOk x) (hs2 : x.second < 65536) (hl : x.kept.length ≤ 90000) (hnow : 0 ≤ now ∧ now ≤ 2000000000000000) (hde : 0 ≤ delay ∧ delay ≤ 1000000) :
    Calls Try.prog 114 #[.pointer (some ⟨wb, 0, none⟩), .int .u16 number, .int .i64 now, .int .i64 delay, .int .i64 tokens] w fun e w' => e = .returned (ansV (againF x number now delay tokens).2) ∧ WnAt C w' base wb v (againF x number now delay tokens).1 ∧ SdUp w w' wb v v := by
  obtain ⟨ao, cap, rfl⟩ := rowA_shape h.row
  have H : Hid (WnAt C w base wb (.slice ao x.kept.length cap) x) := h
  have HC : Hid (∀ b, C b → b < w.heap.size) := hC
  have Hok : Hid (KOk x) := ok
  clear h hC ok
  go_enter Try.func114, Try.ntmps114
  go_wp2_with fail
  refine (findK_any base wb _ x.kept number _ H.out.c2 H.out.row (by omega)).mono ?_
  rintro e w1 ⟨rfl, hb1⟩
  have H1 : Hid (WnAt C w1 base wb (.slice ao x.kept.length cap) x) := H.out.below hb1
  have HU1 : Hid (SdUp w w1 wb (.slice ao x.kept.length cap) (.slice ao x.kept.length cap)) := ⟨Chg.ofBelow hb1, fun _ h => .inl h⟩
  have HC1 : Hid (∀ b, C b → b < w1.heap.size) := fun b hb => Nat.lt_of_lt_of_le (HC.out b hb) hb1.size
  clear hb1 H HC
  rcases posF_cases number (x.kept.map Kp.n) with ⟨hp, -⟩ | ⟨p, hpl, hp, -, -⟩
  · have HA : Hid (againF x number now delay tokens = (x, none)) := again_none hp
    have e0 : posF number (x.kept.map fun y => y.n) = -1 := hp
    rw [e0]
    clear hp e0
    go_wp2
    go_ret2
    rw [HA.out]
    exact ⟨rfl, H1.out, HU1.out⟩
  · rw [List.length_map] at hpl
    have hpk : x.kept[p]? = some x.kept[p] := List.getElem?_eq_getElem hpl
    have e0 : posF number (x.kept.map fun y => y.n) = (p : Int) := hp
    rw [e0]
    have HA0 := again_at (now := now) (delay := delay) (tokens := tokens) hp hpk
    have hkm : x.kept[p] ∈ x.kept := List.getElem_mem hpl
    have hkk := Hok.out _ hkm
    have hcon := H1.out.con _ hkm
    obtain ⟨g, rfl⟩ := rowA_some H1.out.row (by omega)
    have hcells : ∀ j, j < 13 → w1.cell? ⟨g, p * 13 + j, none⟩ = (cellsK x.kept[p])[j]? := fun j hj => by
      have h := H1.out.row.cellAt (p * 13 + j) (by omega)
      rw [flat_at cellsK_len x.kept p j hpl hj] at h
      exact h
    obtain ⟨k, hk⟩ : ∃ k, x.kept[p] = k := ⟨_, rfl⟩
    have Hk : Hid (x.kept[p] = k) := hk
    rw [hk] at hcells HA0 hkk hcon
    have HA : Hid (againF x number now delay tokens = if now < k.rests then (x, none) else if (againR x k).2 ≠ 0 ∨ tokens < (againR x k).1.size then (x, none) else (sentW x p k (now + delay), some (againR x k).1)) := HA0
    obtain ⟨kn, ⟨mk, ex, ty, nu, ti, so, pr, pa, cl, en, py⟩, cv, rests⟩ := k
    simp only at hkk hcon
    obtain ⟨acv, ccv, rfl, _⟩ := hcon.isInts
    obtain ⟨n, rfl⟩ := Int.eq_ofNat_of_zero_le hkk.1.1
    have d1 := hcells 1 (by omega)
    have d2 := hcells 2 (by omega)
    have d3 := hcells 3 (by omega)
    have d4 := hcells 4 (by omega)
    have d5 := hcells 5 (by omega)
    have d6 := hcells 6 (by omega)
    have d7 := hcells 7 (by omega)
    have d8 := hcells 8 (by omega)
    have d9 := hcells 9 (by omega)
    have d10 := hcells 10 (by omega)
    have d11 := hcells 11 (by omega)
    have d12 := hcells 12 (by omega)
    simp only [cellsK, List.getElem?_cons_zero, List.getElem?_cons_succ] at d1 d2 d3 d4 d5 d6 d7 d8 d9 d10 d11 d12
    have y2 := H1.out.c2
    have HI : Hid (IsC C w1 (.slice acv cl.length ccv) cl) := hcon
    have hpi : ¬ (p : Int) < 0 := by omega
    have hpl' : (p : Int) < x.kept.length := by omega
    obtain ⟨L, hL⟩ : ∃ L, x.kept.length = L := ⟨_, rfl⟩
    clear hcells HA0 hcon hk hkm hpk hp e0
    by_cases hrest : now < rests
    · go_wp2
      go_ret2
      rw [HA.out, if_pos hrest]
      exact ⟨rfl, H1.out, HU1.out⟩
    · have hn16 : n < 65536 := by omega
      go_wp2_with fail
      refine (repacked_any C base wb _ x mk ex ty ti so pr pa n acv cl.length ccv en py _ H1.out HC1.out hn16 hs2 hkk.2.2.2).mono ?_
      rintro e w2 ⟨rfl, hb2⟩
      have H2 : Hid (WnAt C w2 base wb (.slice (some ⟨g, 0, none⟩) x.kept.length cap) x) := H1.out.below hb2
      have HU2 : Hid (SdUp w w2 wb (.slice (some ⟨g, 0, none⟩) x.kept.length cap) (.slice (some ⟨g, 0, none⟩) x.kept.length cap)) := HU1.out.trans ⟨Chg.ofBelow hb2, fun _ h => .inl h⟩
      have HI2 : Hid (IsC C w2 (.slice acv cl.length ccv) cl) := HI.out.chg (T := fun _ => False) (Chg.ofBelow hb2) (fun _ _ e => e)
      have hnb : (numB n).size = 2 := by unfold numB; rw [Lib.size_eq]; exact told_length n 2
      have hsum : (numB n ++ py).size ≤ 2000000 := by rw [ByteArray.size_append]; omega
      clear hb2 HI d1 d2 d3 d4 d5 d6 d7 d8 d9 d10 d11 d12 y2 H1 HU1 hnb
      go_wp2_with fail
      refine (writePacket_any mk ex x.pl.secondTy (x.second : Int) ti x.pl.second pr 0 (.slice acv cl.length ccv) cl en (numB n ++ py) _ _ (Nat.le_refl _) HI2.out.isInts (by omega) (by omega) (by omega)).mono ?_
      rintro e w3 ⟨rfl, hb3⟩
      have H3 : Hid (WnAt C w3 base wb (.slice (some ⟨g, 0, none⟩) x.kept.length cap) x) := H2.out.below hb3
      have HU3 : Hid (SdUp w w3 wb (.slice (some ⟨g, 0, none⟩) x.kept.length cap) (.slice (some ⟨g, 0, none⟩) x.kept.length cap)) := HU2.out.trans ⟨Chg.ofBelow hb3, fun _ h => .inl h⟩
      rw [if_neg (show ¬ now < rests by omega)] at HA
      have HR : Hid (againR x ⟨kn, ⟨mk, ex, ty, n, ti, so, pr, pa, cl, en, py⟩, .slice acv cl.length ccv, rests⟩ = tellR mk ex x.pl.secondTy (x.second : Int) ti x.pl.second pr 0 cl en (numB n ++ py)) := rfl
      rw [HR.out] at HA
      generalize tellR mk ex x.pl.secondTy (x.second : Int) ti x.pl.second pr 0 cl en (numB n ++ py) = tr at *
      obtain ⟨text, er⟩ := tr
      simp only at HA
      clear hb3 HI2 H2 HU2 HR
      by_cases her : er = 0
      · subst her
        by_cases hto : tokens < text.size
        · go_wp2
          go_ret2
          rw [HA.out, if_pos (.inr hto)]
          exact ⟨rfl, H3.out, HU3.out⟩
        · have y2 := H3.out.c2
          obtain ⟨S1, V1⟩ := H3.out.rest hpl Hk.out (now + delay)
          obtain ⟨S2, V2⟩ := S1.set12 ((x.second + 1) % 65536)
          have HS2 : Hid (WnAt C ((w3.setCell ⟨g, p * 13 + 12, none⟩ (.int .i64 (now + delay))).setCell ⟨wb, 12, none⟩ (.int .u16 (((x.second + 1) % 65536 : Nat) : Int))) base wb (.slice (some ⟨g, 0, none⟩) x.kept.length cap) (sentW x p ⟨kn, ⟨mk, ex, ty, n, ti, so, pr, pa, cl, en, py⟩, .slice acv cl.length ccv, rests⟩ (now + delay))) := S2
          have HV2 : Hid (SdUp w ((w3.setCell ⟨g, p * 13 + 12, none⟩ (.int .i64 (now + delay))).setCell ⟨wb, 12, none⟩ (.int .u16 (((x.second + 1) % 65536 : Nat) : Int))) wb (.slice (some ⟨g, 0, none⟩) x.kept.length cap) (.slice (some ⟨g, 0, none⟩) x.kept.length cap)) := HU3.out.trans (V1.trans V2)
          have d12 : w3.cell? ⟨g, p * 13 + 12, none⟩ = some (.int .i64 rests) := by
            have h := H3.out.row.cellAt (p * 13 + 12) (by omega)
            rw [flat_at cellsK_len x.kept p 12 hpl (by omega), Hk.out] at h
            exact h
          have df := H3.out.row.frozenAt (p * 13 + 12)
          have y12 := S1.c12
          have yf := S1.fz
          have hun := u16_next x.second
          have hwr : IntKind.i64.wrap (now + delay) = now + delay := wrapI64 _ (by omega) (by omega)
          clear S1 V1 S2 V2
          go_wp2
          go_ret2
          rw [HA.out, if_neg (by simp; omega)]
          exact ⟨rfl, HS2.out, HV2.out⟩
      · go_wp2
        go_ret2
        rw [HA.out, if_pos (.inl her)]
        exact ⟨rfl, H3.out, HU3.out⟩

end Go.Proofs.Ytdjhhnolcafkiaa

/- wire.readEntries, readAsking: what an asking asks for. -/
namespace Go.Proofs.Ytdjhhnolcafkiaa
open Go.RowKit
namespace Pk

/-- a byte of a text -/
def byteAt (s : ByteArray) (k : Nat) : UInt8 := s.data.toList.getD k 0
theorem index_at (s : ByteArray) (k : Nat) (h : k < s.size) (W : World) : (Instr.index 9 (.string s) (.int .i64 (k : Int))).run Try.prog W = .ok (.int .u8 ((byteAt s k).toNat : Int)) W := by
  rw [run_index_string W 9 s .i64 k Try.underlying9, dif_pos ⟨by omega, by omega⟩]
  have e : s[((k : Nat) : Int).toNat]'(by omega) = byteAt s k := by
    unfold byteAt
    rw [List.getD_eq_getElem?_getD, List.getElem?_eq_getElem (by simpa using h)]
    rfl
  rw [e]
theorem list_four (s : ByteArray) (h : 4 ≤ s.size) : s.data.toList = byteAt s 0 :: byteAt s 1 :: byteAt s 2 :: byteAt s 3 :: (s.extract 4 s.size).data.toList := by
  have hl : s.data.toList.length = s.size := (Lib.size_eq s).symm
  rw [Lib.extract_data, List.take_of_length_le (by rw [List.length_drop]; omega)]
  unfold byteAt
  match hm : s.data.toList, (show 4 ≤ s.data.toList.length by omega) with
  | a :: b :: c :: d :: r, _ => rfl
theorem num_first (s : ByteArray) (h : 2 ≤ s.size) : num (s.extract 0 2).data.toList = num [byteAt s 0, byteAt s 1] := by
  have hl : s.data.toList.length = s.size := (Lib.size_eq s).symm
  rw [Lib.extract_data, List.drop_zero]
  unfold byteAt
  match hm : s.data.toList, (show 2 ≤ s.data.toList.length by omega) with
  | a :: b :: r, _ => rfl
theorem ents_four (s : ByteArray) (h : 4 ≤ s.size) : entsR s.data.toList = ((num [byteAt s 0, byteAt s 1] : Nat) : Int) :: (byteNums (num [byteAt s 0, byteAt s 1] + 1) (byteAt s 3).toNat ++ byteNums (num [byteAt s 0, byteAt s 1] + 9) (byteAt s 2).toNat) ++ entsR (s.extract 4 s.size).data.toList := by
  rw [list_four s h, entsR_bytes]
theorem num_two_lt (a b : UInt8) : num [a, b] < 65536 := by
  have h1 := a.toNat_lt
  have h2 := b.toNat_lt
  rw [num_pair]
  omega

end Pk
open Pk

set_option maxRecDepth 20000 in
set_option maxHeartbeats 2000000 in
theorem readEntries_any (s : ByteArray) (w : World) (hs : s.size ≤ 1500) (h4 : s.size % 4 = 0) :
    Calls Try.prog 101 #[.string s] w fun e w' => ∃ v, e = .returned v ∧ OwnInts w' w.heap.size v (entsR s.data.toList) ∧ Below w.heap.size w w' := by
  go_enter Try.func101, Try.ntmps101
  go_wp2
  go_loopw [0, 3] (fun tv v wr => ∃ (t : ByteArray) (l : List Int), tv = .string t ∧ l ++ entsR t.data.toList = entsR s.data.toList ∧ t.size ≤ s.size ∧ t.size % 4 = 0 ∧ 4 * l.length + 17 * t.size ≤ 17 * s.size ∧ OwnInts wr w.heap.size v l ∧ Below w.heap.size w wr) (fun tv _ _ => strLen tv)
  case atStart => exact ⟨s, [], rfl, rfl, Nat.le_refl _, h4, by simp, World.ownsRow_nil _ _ _ _, Below.refl _ _⟩
  case round =>
    obtain ⟨t, l, rfl, hl, ht, ht4, hlen, hown, hb⟩ := hrel
    have Hl : Hid (l ++ entsR t.data.toList = entsR s.data.toList) := hl
    obtain ⟨a1, c1, rfl⟩ := hown.shape
    have Hown : Hid (OwnInts wr w.heap.size (.slice a1 l.length c1) l) := hown
    have Hb : Hid (Below w.heap.size w wr) := hb
    have hws := hb.size
    clear hl hown hb
    by_cases h0 : 4 ≤ t.size
    · have hne : t.toList.isEmpty = false := by rw [isEmpty_size]; exact decide_eq_false (by omega)
      have h4i : (4 : Int) ≤ t.size := by omega
      have Hs : Hid (entsR t.data.toList = _) := ents_four t h0
      have j3 : ∀ W : World, (Instr.index 9 (.string t) (.int .i64 3)).run Try.prog W = .ok (.int .u8 ((byteAt t 3).toNat : Int)) W := fun W => index_at t 3 (by omega) W
      have j2 : ∀ W : World, (Instr.index 9 (.string t) (.int .i64 2)).run Try.prog W = .ok (.int .u8 ((byteAt t 2).toNat : Int)) W := fun W => index_at t 2 (by omega) W
      have hnf := num_first t (by omega)
      have hp := num_two_lt (byteAt t 0) (byteAt t 1)
      have hb3 := (byteAt t 3).toNat_lt
      have hb2 := (byteAt t 2).toNat_lt
      generalize num [byteAt t 0, byteAt t 1] = p at *
      generalize (byteAt t 3).toNat = d at *
      generalize (byteAt t 2).toNat = c at *
      have hwp : IntKind.u16.wrap (p : Int) = (p : Int) := by simp [IntKind.wrap, IntKind.signed, IntKind.bits]; omega
      have hw1 : IntKind.u16.wrap ((p : Int) + 1) = (((p + 1) % 65536 : Nat) : Int) := by simp [IntKind.wrap, IntKind.signed, IntKind.bits]
      have hw9 : IntKind.u16.wrap ((p : Int) + 9) = (((p + 9) % 65536 : Nat) : Int) := by simp [IntKind.wrap, IntKind.signed, IntKind.bits]
      have hr1 : (p + 1) % 65536 < 65536 := Nat.mod_lt _ (by decide)
      have hr9 : (p + 9) % 65536 < 65536 := Nat.mod_lt _ (by decide)
      have M1 : Hid (byteNums ((p + 1) % 65536) d = byteNums (p + 1) d) := byteNums_mod _ _
      have M9 : Hid (byteNums ((p + 9) % 65536) c = byteNums (p + 9) c) := byteNums_mod _ _
      generalize (p + 1) % 65536 = r1 at *
      generalize (p + 9) % 65536 = r9 at *
      go_wp2_with fail
      refine (readNumber_any _ _ (by simp only [ByteArray.size_extract]; omega)).mono ?_
      rintro e w1 ⟨rfl, hw1e⟩
      rw [hnf, hw1e]
      clear hnf hw1e w1
      go_wp2_with (at_builtin; (
        refine wpList_append_int rfl (.tmp 13) (.tmp 16) rfl w.heap.size _ l (p : Int) rfl (Hown.out.alloc _) _ 1 rfl ?_ (by omega) (by simp; omega) ?_
        · exact cell_one_new _ _ _ 0 _ rfl
        intro v' w2 hown' hgrow _
        refine stop_here ?_))
      have R1 : Hid (OwnInts w2 w.heap.size v' (l ++ [(p : Int)])) := hown'
      have hx2 : wr.heap.size ≤ w2.heap.size := by have := hgrow.size; simp at this; omega
      have R2 : Hid (Below w.heap.size w w2) := (Hb.out.alloc hws _).grown hgrow (by simp; omega) (fun x hx => (World.ownsRow.lt Hown.out x hx).1)
      obtain ⟨a2, c2, rfl⟩ := hown'.shape
      have hl2 : (l ++ [(p : Int)]).length ≤ l.length + 1 := by simp
      clear hown' hgrow Hown Hb
      generalize hLL : l ++ [(p : Int)] = L at *
      have HL : Hid (l ++ [(p : Int)] = L) := hLL
      clear hLL
      refine hid_in ?_
      go_wp2_with fail
      refine (addSet_any w.heap.size _ L r1 d _ (by omega) hr1 R1.out (by omega) (by omega)).mono ?_
      rintro e w3 ⟨v3, rfl, hown3, hb3w⟩
      rw [M1.out] at hown3
      have R3 : Hid (OwnInts w3 w.heap.size v3 (L ++ byteNums (p + 1) d)) := hown3
      have R4 : Hid (Below w.heap.size w w3) := R2.out.trans hb3w
      have hx3 : wr.heap.size ≤ w3.heap.size := Nat.le_trans hx2 hb3w.size
      obtain ⟨a3, c3, rfl⟩ := hown3.shape
      have hn1 := byteNums_length (p + 1) d
      have hn2 := byteNums_length (p + 9) c
      have hl3 : (L ++ byteNums (p + 1) d).length ≤ l.length + 9 := by rw [List.length_append]; omega
      clear hown3 hb3w R1 R2
      generalize hLL : L ++ byteNums (p + 1) d = L3 at *
      have HL3 : Hid (L ++ byteNums (p + 1) d = L3) := hLL
      clear hLL
      go_wp2_with fail
      refine (addSet_any w.heap.size _ L3 r9 c _ (by omega) hr9 R3.out (by omega) (by omega)).mono ?_
      rintro e w4 ⟨v4, rfl, hown4, hb4w⟩
      rw [M9.out] at hown4
      have R5 : Hid (OwnInts w4 w.heap.size v4 (L3 ++ byteNums (p + 9) c)) := hown4
      have R6 : Hid (Below w.heap.size w w4) := R4.out.trans hb4w
      obtain ⟨a4, c4, rfl⟩ := hown4.shape
      have hl4 : (L3 ++ byteNums (p + 9) c).length ≤ l.length + 17 := by rw [List.length_append]; omega
      clear hown4 hb4w R3 R4
      generalize hLL : L3 ++ byteNums (p + 9) c = L4 at *
      have HL4 : Hid (L3 ++ byteNums (p + 9) c = L4) := hLL
      clear hLL
      go_wp2
      go_roundw
      case rel =>
        refine ⟨t.extract 4 t.size, L4, rfl, ?_, by simp only [ByteArray.size_extract]; omega, by simp only [ByteArray.size_extract]; omega, by simp only [ByteArray.size_extract]; omega, R5.out, R6.out⟩
        rw [← HL4.out, ← HL3.out, ← HL.out, ← Hl.out, Hs.out]
        simp
      case measure => simp only [strLen, ByteArray.size_extract]; omega
    · have ht0 : t.size = 0 := by omega
      have hne : t.toList.isEmpty = true := by rw [isEmpty_size]; exact decide_eq_true ht0
      have Hn : Hid (entsR t.data.toList = []) := by
        show _ = _
        rw [show t.data.toList = [] from List.eq_nil_of_length_eq_zero (by rw [← Lib.size_eq]; exact ht0)]
        rfl
      go_wp2
      go_ret
      refine ⟨_, rfl, ?_, Hb.out⟩
      have h := Hl.out
      rw [Hn.out, List.append_nil] at h
      rw [← h]
      exact Hown.out

set_option maxHeartbeats 2000000 in
theorem readAsking_any (s : ByteArray) (w : World) (hs0 : 12 ≤ s.size) (hs : s.size ≤ 1500) (h4 : s.size % 4 = 0) :
    Calls Try.prog 82 #[.string s] w fun e w' => ∃ v, e = .returned (.agg #[.int .i64 (num (s.extract 4 8).data.toList), .int .i64 (num (s.extract 8 12).data.toList), v]) ∧ OwnInts w' w.heap.size v (entsR (s.extract 12 s.size).data.toList) ∧ Below w.heap.size w w' := by
  have i8 : (8 : Int) ≤ s.size := by omega
  have i12 : (12 : Int) ≤ s.size := by omega
  go_enter Try.func82, Try.ntmps82
  go_wp2
  refine wp_region_noPanic ?_
  refine wp_region_held_drew (S := fun _ => True) (by kernel_rfl) trivial (fun hHeld => ?_)
  refine wpAnyH_take (i := 0) (v := ?v0) rfl (by kernel_rfl) (by kernel_rfl) (by kernel_rfl) (fun _ _ _ h => h) (Or.inl ⟨by rfl, ?y0⟩) hHeld ?r0
  case y0 => ((intro W _; go_simp) <;> with_reducible rfl)
  try simp only [Act.put]
  try simp only [List.setIfInBounds_toArray]
  try simp only [List.set_cons_succ]
  try simp only [List.set_cons_zero]
  refine wpAnyH_take (i := 1) (v := ?v1) rfl (by kernel_rfl) (by kernel_rfl) (by kernel_rfl) (fun _ _ _ h => h) (Or.inl ⟨by rfl, ?y1⟩) hHeld ?r1
  case y1 => ((intro W _; go_simp) <;> with_reducible rfl)
  try simp only [Act.put]
  try simp only [List.setIfInBounds_toArray]
  try simp only [List.set_cons_succ]
  try simp only [List.set_cons_zero]
  refine wpAnyH_take (i := 3) (v := ?v3) rfl (by kernel_rfl) (by kernel_rfl) (by kernel_rfl) (fun _ _ _ h => h) (Or.inl ⟨by rfl, ?y3⟩) hHeld ?r3
  case y3 => ((intro W _; go_simp) <;> with_reducible rfl)
  try simp only [Act.put]
  try simp only [List.setIfInBounds_toArray]
  try simp only [List.set_cons_succ]
  try simp only [List.set_cons_zero]
  refine wpAnyH_take (i := 4) (v := ?v4) rfl (by kernel_rfl) (by kernel_rfl) (by kernel_rfl) (fun _ _ _ h => h) (Or.inl ⟨by rfl, ?y4⟩) hHeld ?r4
  case y4 => ((intro W _; go_simp) <;> with_reducible rfl)
  try simp only [Act.put]
  try simp only [List.setIfInBounds_toArray]
  try simp only [List.set_cons_succ]
  try simp only [List.set_cons_zero]
  refine wpAnyH_take (i := 6) (v := ?v6) rfl (by kernel_rfl) (by kernel_rfl) (by kernel_rfl) (fun _ _ _ h => h) (Or.inl ⟨by rfl, ?y6⟩) hHeld ?r6
  case y6 => ((intro W _; go_simp) <;> with_reducible rfl)
  try simp only [Act.put]
  try simp only [List.setIfInBounds_toArray]
  try simp only [List.set_cons_succ]
  try simp only [List.set_cons_zero]
  refine wpAnyH_take (i := 7) (v := ?v7) rfl (by kernel_rfl) (by kernel_rfl) (by kernel_rfl) (fun _ _ _ h => h) (Or.inl ⟨by rfl, ?y7⟩) hHeld ?r7
  case y7 => ((intro W _; go_simp) <;> with_reducible rfl)
  try simp only [Act.put]
  try simp only [List.setIfInBounds_toArray]
  try simp only [List.set_cons_succ]
  try simp only [List.set_cons_zero]
  refine wpAnyH_ready (rs := [2]) (by kernel_rfl) (by simp) ?_
  refine AllReadyH.cons rfl (fun K hK => ?_) AllReadyH.nil
  go_simp
  refine (readNumber_any _ _ (by simp only [ByteArray.size_extract]; omega)).mono ?_
  rintro e w1 ⟨rfl, hw1e⟩
  rw [hw1e]
  clear hw1e w1
  go_wp2_with fail
  refine hK.out _ _ trivial (fun hHeld => ?_)
  clear hK K
  refine wpAnyH_ready (rs := [5]) (by kernel_rfl) (by simp) ?_
  refine AllReadyH.cons rfl (fun K hK => ?_) AllReadyH.nil
  go_simp
  refine (readNumber_any _ _ (by simp only [ByteArray.size_extract]; omega)).mono ?_
  rintro e w1 ⟨rfl, hw1e⟩
  rw [hw1e]
  clear hw1e w1
  go_wp2_with fail
  refine hK.out _ _ trivial (fun hHeld => ?_)
  clear hK K
  refine wpAnyH_ready (rs := [8]) (by kernel_rfl) (by simp) ?_
  refine AllReadyH.cons rfl (fun K hK => ?_) AllReadyH.nil
  go_simp
  refine (readEntries_any _ _ (by simp only [ByteArray.size_extract]; omega) (by simp only [ByteArray.size_extract]; omega)).mono ?_
  rintro e w1 ⟨v1, rfl, hown1, hb1⟩
  obtain ⟨a1, c1, rfl⟩ := hown1.shape
  have hsz : w.heap.size < w1.heap.size := by have := hb1.size; simp at this; omega
  have hc1 := box_below hb1 w.heap.size (by simp)
  have hz1 : ∀ o, w1.frozen? ⟨w.heap.size, o, none⟩ = false := fun o => (hb1.frozen (p := ⟨w.heap.size, o, none⟩) (by simp)).trans (frozen_new w _ _ o)
  have d0 : w1.cell? ⟨w.heap.size, 0, none⟩ = some (.int .i64 0) := (hc1 0).trans (cell_new w _ _ 0)
  have d1 : w1.cell? ⟨w.heap.size, 1, none⟩ = some (.int .i64 0) := (hc1 1).trans (cell_new w _ _ 1)
  have d2 : w1.cell? ⟨w.heap.size, 2, none⟩ = some (.slice none 0 0) := (hc1 2).trans (cell_new w _ _ 2)
  have Hown1 : Hid (OwnInts w1 (w.heap.size + 1) (.slice a1 (entsR (s.extract 12 s.size).data.toList).length c1) (entsR (s.extract 12 s.size).data.toList)) := hown1.mono (by simp)
  have Hb1 : Hid (Below w.heap.size w w1) := ((Below.refl _ _).alloc (Nat.le_refl _) _).drew.trans (hb1.mono (by simp))
  clear hown1 hb1 hc1
  generalize hLe : entsR (s.extract 12 s.size).data.toList = L at *
  have HLe : Hid (entsR (s.extract 12 s.size).data.toList = L) := hLe
  clear hLe
  go_wp2_with fail
  refine hK.out _ _ trivial (fun hHeld => ?_)
  clear hK K
  refine wpAnyH_take (i := 9) (v := ?v9) rfl (by kernel_rfl) (by kernel_rfl) (by kernel_rfl) (fun _ _ _ h => h) (Or.inl ⟨by rfl, ?y9⟩) hHeld ?r9
  case y9 => ((intro W _; go_simp) <;> with_reducible rfl)
  try simp only [Act.put]
  try simp only [List.setIfInBounds_toArray]
  try simp only [List.set_cons_succ]
  try simp only [List.set_cons_zero]
  refine wpAnyH_ready (rs := [10]) (by kernel_rfl) (by simp) ?_
  refine AllReadyH.cons rfl (fun K hK => ?_) AllReadyH.nil
  go_simp
  refine hK.out _ _ trivial (fun hHeld => ?_)
  clear hK K
  refine wpAnyH_done (by kernel_rfl) ?_ _
  refine NoPanic.normal ?_
  go_wp2
  refine bodyPost_ret (v := .agg #[.int .i64 (num (s.extract 4 8).data.toList), .int .i64 (num (s.extract 8 12).data.toList), .slice a1 L.length c1]) (by simp [results, Try.results82, go_sem, d0, d1, d2]) rfl ⟨_, rfl, ?_, ?_⟩
  · rw [HLe.out]
    exact ((((Hown1.out.setCell (a := ⟨w.heap.size, 0, none⟩) (Nat.lt_succ_self _) _).setCell (a := ⟨w.heap.size, 1, none⟩) (Nat.lt_succ_self _) _).setCell (a := ⟨w.heap.size, 2, none⟩) (Nat.lt_succ_self _) _)).mono (Nat.le_succ _)
  · exact ((Hb1.out.setCell (p := ⟨w.heap.size, 0, none⟩) (Nat.le_refl _) _).setCell (p := ⟨w.heap.size, 1, none⟩) (Nat.le_refl _) _).setCell (p := ⟨w.heap.size, 2, none⟩) (Nat.le_refl _) _

end Go.Proofs.Ytdjhhnolcafkiaa

/- wire.ReadReport, mender.ParseReport: what a report is read as. -/
namespace Go.Proofs.Ytdjhhnolcafkiaa
open Go.RowKit
namespace Pk

def wrongR : Value := .tuple #[.slice none 0 0, .int .i64 1]
/-- what is answered -/
def RepAs (r : Option (List (Nat × Nat × List Int))) (B : Nat) (e : Ending) (w : World) : Prop :=
  match r with
  | some L => ∃ lv xs, e = .returned (.tuple #[lv, .int .i64 0]) ∧ OwnAsks w B lv xs ∧ xs.map (fun x => (x.a, x.b, x.l)) = L.map (fun y => ((y.1 : Int), (y.2.1 : Int), y.2.2))
  | none => e = .returned wrongR

theorem low5 (b : UInt8) : bits .and .u8 (b.toNat : Int) 31 = ((b.toNat % 32 : Nat) : Int) := by
  have hb := b.toNat_lt
  have h := u8_and_nat b.toNat 31 (by omega) (by omega)
  rw [show (31 : Nat) = 2 ^ 5 - 1 from rfl, Nat.and_two_pow_sub_one_eq_mod] at h
  exact h
def mapN (L : List (Nat × Nat × List Int)) : List (Int × Int × List Int) := L.map fun y => ((y.1 : Int), (y.2.1 : Int), y.2.2)
def mapA (xs : List Ask1) : List (Int × Int × List Int) := xs.map fun x => (x.a, x.b, x.l)

/-- what is still to be read, behind what has been -/
def RestR (s t : ByteArray) (xs : List Ask1) : Prop := ∃ D : List (Nat × Nat × List Int), mapA xs = mapN D ∧ partsF s.data.toList = (partsF t.data.toList).map (D ++ ·)

theorem RestR.start (s : ByteArray) : RestR s s [] := ⟨[], rfl, by simp⟩
theorem RestR.wrong {s t : ByteArray} {xs : List Ask1} (h : RestR s t xs) (h2 : partsF t.data.toList = none) : partsF s.data.toList = none := by
  obtain ⟨D, _, h3⟩ := h
  rw [h3, h2]
  rfl
theorem RestR.done {s t : ByteArray} {xs : List Ask1} (h : RestR s t xs) (h2 : t.size = 0) : ∃ L, partsF s.data.toList = some L ∧ mapA xs = mapN L := by
  obtain ⟨D, h1, h3⟩ := h
  refine ⟨D, ?_, h1⟩
  rw [h3, show t.data.toList = [] from List.eq_nil_of_length_eq_zero (by rw [← Lib.size_eq]; exact h2), partsF_nil]
  simp
theorem RestR.skip {s t u : ByteArray} {xs : List Ask1} (h : RestR s t xs) (h2 : partsF t.data.toList = partsF u.data.toList) : RestR s u xs := by
  obtain ⟨D, h1, h3⟩ := h
  exact ⟨D, h1, by rw [h3, h2]⟩
theorem RestR.take {s t u : ByteArray} {xs : List Ask1} {x : Ask1} {a b : Nat} (h : RestR s t xs) (h2 : partsF t.data.toList = (partsF u.data.toList).map ((a, b, x.l) :: ·)) (ha : x.a = a) (hb : x.b = b) : RestR s u (xs ++ [x]) := by
  obtain ⟨D, h1, h3⟩ := h
  refine ⟨D ++ [(a, b, x.l)], ?_, ?_⟩
  · unfold mapA mapN at *
    rw [List.map_append, List.map_append, h1]
    simp [ha, hb]
  · rw [h3, h2, Option.map_map]
    congr 1
    funext L
    simp

/-- the length of a part -/
def pLen (t : ByteArray) : Nat := 4 + 4 * num (t.extract 2 4).data.toList
theorem pLen_eq (t : ByteArray) (_h : 4 ≤ t.size) : partLen t.data.toList = pLen t := by
  unfold partLen pLen
  rw [Lib.extract_data]
theorem num_lt_two (l : List UInt8) (h : l.length ≤ 2) : num l < 65536 := by
  match l, h with
  | [], _ => simp [num]
  | [a], _ => have := a.toNat_lt; simp [num]; omega
  | [a, b], _ => exact num_two_lt a b
theorem list_ne (t : ByteArray) (h : 0 < t.size) : t.data.toList ≠ [] := fun e => by
  have h2 : t.data.toList.length = 0 := by rw [e]; rfl
  rw [← Lib.size_eq] at h2
  omega
theorem parts_short (t : ByteArray) (h0 : 0 < t.size) (h : t.size < 4) : partsF t.data.toList = none := by
  rw [partsF_step _ (list_ne t h0), if_pos (.inl (by rw [← Lib.size_eq]; exact h))]
theorem parts_mark (t : ByteArray) (h0 : 0 < t.size) (h : (byteAt t 0).toNat / 32 ≠ 4) : partsF t.data.toList = none := by
  rw [partsF_step _ (list_ne t h0), if_pos (.inr h)]
theorem parts_long (t : ByteArray) (h4 : 4 ≤ t.size) (h : t.size < pLen t) : partsF t.data.toList = none := by
  rw [partsF_step _ (list_ne t (by omega)), pLen_eq t h4, ← Lib.size_eq, if_pos h]
  split <;> rfl
theorem drop_eq (t : ByteArray) (n : Nat) (_h : n ≤ t.size) : t.data.toList.drop n = (t.extract n t.size).data.toList := by
  rw [Lib.extract_data, List.take_of_length_le (by rw [List.length_drop, ← Lib.size_eq]; exact Nat.le_refl _)]
theorem parts_other (t : ByteArray) (h4 : 4 ≤ t.size) (hm : (byteAt t 0).toNat / 32 = 4) (h : pLen t ≤ t.size) (hn : ¬ ((byteAt t 0).toNat % 32 = 1 ∧ (byteAt t 1).toNat = 205)) : partsF t.data.toList = partsF (t.extract (pLen t) t.size).data.toList := by
  unfold byteAt at *
  rw [partsF_step _ (list_ne t (by omega)), pLen_eq t h4, ← Lib.size_eq, if_neg (by rintro (e | e); omega; exact e hm), if_neg (by omega), if_neg hn, drop_eq t _ h]
theorem parts_small (t : ByteArray) (h4 : 4 ≤ t.size) (hm : (byteAt t 0).toNat / 32 = 4) (h : pLen t ≤ t.size) (hn : (byteAt t 0).toNat % 32 = 1 ∧ (byteAt t 1).toNat = 205) (h16 : pLen t < 16) : partsF t.data.toList = none := by
  unfold byteAt at *
  rw [partsF_step _ (list_ne t (by omega)), pLen_eq t h4, ← Lib.size_eq, if_neg (by rintro (e | e); omega; exact e hm), if_neg (by omega), if_pos hn, if_pos h16]
theorem parts_ask (t : ByteArray) (h4 : 4 ≤ t.size) (hm : (byteAt t 0).toNat / 32 = 4) (h : pLen t ≤ t.size) (hn : (byteAt t 0).toNat % 32 = 1 ∧ (byteAt t 1).toNat = 205) (h16 : 16 ≤ pLen t) :
    partsF t.data.toList = (partsF (t.extract (pLen t) t.size).data.toList).map ((num ((t.extract 0 (pLen t)).extract 4 8).data.toList, num ((t.extract 0 (pLen t)).extract 8 12).data.toList, entsR ((t.extract 0 (pLen t)).extract 12 (t.extract 0 (pLen t)).size).data.toList) :: ·) := by
  unfold byteAt at *
  rw [partsF_step _ (list_ne t (by omega)), pLen_eq t h4, ← Lib.size_eq, if_neg (by rintro (e | e); omega; exact e hm), if_neg (by omega), if_pos hn, if_neg (by omega), drop_eq t _ h]
  have hs : (t.extract 0 (pLen t)).size = pLen t := by rw [ByteArray.size_extract]; omega
  rw [hs]
  generalize pLen t = n at *
  have e1 : ∀ a b, b ≤ n → ((t.extract 0 n).extract a b).data.toList = (t.data.toList.drop a).take (b - a) := fun a b hb => by
    rw [Lib.extract_data, Lib.extract_data, List.drop_zero, Nat.sub_zero, List.drop_take, List.take_take, Nat.min_eq_left (by omega)]
  rw [e1 4 8 (by omega), e1 8 12 (by omega), e1 12 n (Nat.le_refl _)]

end Pk
open Pk

set_option maxRecDepth 20000 in
set_option maxHeartbeats 2000000 in
theorem readReport_mid (s : ByteArray) (w : World) (h0 : 0 < s.size) (hs : s.size ≤ 1500) :
    Calls Try.prog 49 #[.string s] w fun e w' => Below w.heap.size w w' ∧ RepAs (partsF s.data.toList) w.heap.size e w' := by
  have hne : s.toList.isEmpty = false := by rw [isEmpty_size]; exact decide_eq_false (by omega)
  have hsi : (s.size : Int) ≤ 1500 := by omega
  go_enter Try.func49, Try.ntmps49
  go_wp2
  refine wp_scope_fwd 0 rfl ?_
  go_wp2
  go_loopw [4, 5] (fun s4 s5 wr => ∃ (t : ByteArray) (xs : List Ask1), s5 = .string t ∧ RestR s t xs ∧ 16 * xs.length + t.size ≤ s.size ∧ OwnAsks wr w.heap.size s4 xs ∧ Below w.heap.size w wr) (fun _ s5 _ => strLen s5)
  case atStart => exact ⟨s, [], rfl, RestR.start s, by simp, OwnAsks.nil _ _, Below.refl _ _⟩
  case round =>
    obtain ⟨t, xs, rfl, hR, hlen, hown, hb⟩ := hrel
    have HR : Hid (RestR s t xs) := hR
    obtain ⟨a1, c1, rfl⟩ := rowA_shape hown.row
    have Hown : Hid (OwnAsks wr w.heap.size (.slice a1 xs.length c1) xs) := hown
    have Hb : Hid (Below w.heap.size w wr) := hb
    have hws := hb.size
    clear hR hown hb
    have hg0 : ∀ e w', e = .returned wrongR → Below w.heap.size w w' → partsF t.data.toList = none → Below w.heap.size w w' ∧ RepAs (partsF s.data.toList) w.heap.size e w' := fun e w' he hbe hpe => by
      refine ⟨hbe, ?_⟩
      rw [HR.out.wrong hpe]
      exact he
    have Hg0 : Hid (∀ e w', e = .returned wrongR → Below w.heap.size w w' → partsF t.data.toList = none → Below w.heap.size w w' ∧ RepAs (partsF s.data.toList) w.heap.size e w') := hg0
    clear hg0
    by_cases h0 : t.size = 0
    · have hne : t.toList.isEmpty = true := by rw [isEmpty_size]; exact decide_eq_true h0
      go_wp2
      refine jump_ret 0 ?_
      go_ret2
      refine ⟨Hb.out, ?_⟩
      obtain ⟨L, hL, hm⟩ := HR.out.done h0
      rw [hL]
      exact ⟨_, xs, rfl, Hown.out, hm⟩
    have hne : t.toList.isEmpty = false := by rw [isEmpty_size]; exact decide_eq_false h0
    by_cases h4 : t.size < 4
    · have h4i : (t.size : Int) < 4 := by omega
      have Hn : Hid (partsF t.data.toList = none) := parts_short t (by omega) h4
      go_wp2
      go_step3
      refine jump_here 0 ?_
      go_wp2
      rw [Exit.noGoto_ret]
      go_ret2
      exact Hg0.out _ _ rfl Hb.out Hn.out
    have h4i : ¬ (t.size : Int) < 4 := by omega
    have h4j : (4 : Int) ≤ t.size := by omega
    have j0 : ∀ W : World, (Instr.index 9 (.string t) (.int .i64 0)).run Try.prog W = .ok (.int .u8 ((byteAt t 0).toNat : Int)) W := fun W => index_at t 0 (by omega) W
    have j1 : ∀ W : World, (Instr.index 9 (.string t) (.int .i64 1)).run Try.prog W = .ok (.int .u8 ((byteAt t 1).toNat : Int)) W := fun W => index_at t 1 (by omega) W
    have hb0 := (byteAt t 0).toNat_lt
    have hb1 := (byteAt t 1).toNat_lt
    by_cases hm : (byteAt t 0).toNat / 32 = 4
    case neg =>
      have Hn : Hid (partsF t.data.toList = none) := parts_mark t (by omega) hm
      have hmi : (((byteAt t 0).toNat : Int) / 32 != 4) = true := by rw [bne_iff_ne]; omega
      clear hm
      go_wp2
      go_step3
      refine jump_here 0 ?_
      go_wp2
      rw [Exit.noGoto_ret]
      go_ret2
      exact Hg0.out _ _ rfl Hb.out Hn.out
    have hmi : (((byteAt t 0).toNat : Int) / 32 != 4) = false := by rw [bne_eq_false_iff_eq]; omega
    have Hm : Hid ((byteAt t 0).toNat / 32 = 4) := hm
    have hl5 := low5 (byteAt t 0)
    have HP : Hid (pLen t = 4 + 4 * num (t.extract 2 4).data.toList) := rfl
    have hnl := num_lt_two (t.extract 2 4).data.toList (by rw [← Lib.size_eq, ByteArray.size_extract]; omega)
    clear hm
    by_cases hp : t.size < pLen t
    · have Hn : Hid (partsF t.data.toList = none) := parts_long t (by omega) hp
      have hpi : (t.size : Int) < 4 + 4 * (num (t.extract 2 4).data.toList : Int) := by have := HP.out; omega
      generalize hq : num (t.extract 2 4).data.toList = q at *
      have Hq : Hid (num (t.extract 2 4).data.toList = q) := hq
      clear hq hp
      go_wp2_with fail
      refine (readNumber_any _ _ (by simp only [ByteArray.size_extract]; omega)).mono ?_
      rintro e w1 ⟨rfl, hw1e⟩
      rw [Hq.out, hw1e]
      clear hw1e w1
      go_wp2
      go_step3
      refine jump_here 0 ?_
      go_wp2
      rw [Exit.noGoto_ret]
      go_ret2
      exact Hg0.out _ _ rfl Hb.out Hn.out
    have hpi : 4 + 4 * (num (t.extract 2 4).data.toList : Int) ≤ (t.size : Int) := by have := HP.out; omega
    have HPs : Hid (pLen t ≤ t.size) := by show _ ≤ _; omega
    have Hp4 : Hid (pLen t % 4 = 0) := by show _ = _; have := HP.out; omega
    clear hp
    generalize hq : num (t.extract 2 4).data.toList = q at *
    have Hq : Hid (num (t.extract 2 4).data.toList = q) := hq
    clear hq
    by_cases hf : (byteAt t 0).toNat % 32 = 1
    case neg =>
      have Hsk : Hid (RestR s (t.extract (4 + 4 * q) t.size) xs) := by
        show RestR _ _ _
        rw [← HP.out]
        exact HR.out.skip (parts_other t (by omega) Hm.out HPs.out (fun e => hf e.1))
      have hfi : ((((byteAt t 0).toNat % 32 : Nat) : Int) == 1) = false := by rw [beq_eq_false_iff_ne]; omega
      clear hf
      generalize (byteAt t 0).toNat % 32 = f5 at *
      go_wp2_with fail
      refine (readNumber_any _ _ (by simp only [ByteArray.size_extract]; omega)).mono ?_
      rintro e w1 ⟨rfl, hw1e⟩
      rw [Hq.out, hw1e]
      clear hw1e w1
      go_wp2
      go_roundw
      case rel => exact ⟨_, xs, rfl, Hsk.out, by simp only [ByteArray.size_extract]; omega, Hown.out, Hb.out⟩
      case measure => simp only [strLen, ByteArray.size_extract]; omega
    by_cases hk : (byteAt t 1).toNat = 205
    case neg =>
      have Hsk : Hid (RestR s (t.extract (4 + 4 * q) t.size) xs) := by
        show RestR _ _ _
        rw [← HP.out]
        exact HR.out.skip (parts_other t (by omega) Hm.out HPs.out (fun e => hk e.2))
      have hfi : ((((byteAt t 0).toNat % 32 : Nat) : Int) == 1) = true := by rw [beq_iff_eq]; omega
      have hki : (((byteAt t 1).toNat : Int) == 205) = false := by rw [beq_eq_false_iff_ne]; omega
      clear hf hk
      generalize (byteAt t 0).toNat % 32 = f5 at *
      generalize (byteAt t 1).toNat = k5 at *
      go_wp2_with fail
      refine (readNumber_any _ _ (by simp only [ByteArray.size_extract]; omega)).mono ?_
      rintro e w1 ⟨rfl, hw1e⟩
      rw [Hq.out, hw1e]
      clear hw1e w1
      go_wp2
      go_roundw
      case rel => exact ⟨_, xs, rfl, Hsk.out, by simp only [ByteArray.size_extract]; omega, Hown.out, Hb.out⟩
      case measure => simp only [strLen, ByteArray.size_extract]; omega
    by_cases h16 : pLen t < 16
    · have Hn : Hid (partsF t.data.toList = none) := parts_small t (by omega) Hm.out HPs.out ⟨hf, hk⟩ h16
      have h16i : 4 + 4 * (q : Int) < 16 := by have := HP.out; omega
      have hfi : ((((byteAt t 0).toNat % 32 : Nat) : Int) == 1) = true := by rw [beq_iff_eq]; omega
      have hki : (((byteAt t 1).toNat : Int) == 205) = true := by rw [beq_iff_eq]; omega
      clear hf hk h16
      generalize (byteAt t 0).toNat % 32 = f5 at *
      generalize (byteAt t 1).toNat = k5 at *
      go_wp2_with fail
      refine (readNumber_any _ _ (by simp only [ByteArray.size_extract]; omega)).mono ?_
      rintro e w1 ⟨rfl, hw1e⟩
      rw [Hq.out, hw1e]
      clear hw1e w1
      go_wp2
      go_step3
      refine jump_here 0 ?_
      go_wp2
      rw [Exit.noGoto_ret]
      go_ret2
      exact Hg0.out _ _ rfl Hb.out Hn.out
    have Hpa : Hid (partsF t.data.toList = _) := parts_ask t (by omega) Hm.out HPs.out ⟨hf, hk⟩ (by omega)
    have h16i : ¬ 4 + 4 * (q : Int) < 16 := by have := HP.out; omega
    have hfi : ((((byteAt t 0).toNat % 32 : Nat) : Int) == 1) = true := by rw [beq_iff_eq]; omega
    have hki : (((byteAt t 1).toNat : Int) == 205) = true := by rw [beq_iff_eq]; omega
    have hq16 : 16 ≤ 4 + 4 * q := by omega
    have hqs : 4 + 4 * q ≤ t.size := by omega
    rw [HP.out] at Hpa
    clear hf hk h16
    generalize (byteAt t 0).toNat % 32 = f5 at *
    generalize (byteAt t 1).toNat = k5 at *
    go_wp2_with fail
    refine (readNumber_any _ _ (by simp only [ByteArray.size_extract]; omega)).mono ?_
    rintro e w1 ⟨rfl, hw1e⟩
    rw [Hq.out, hw1e]
    clear hw1e w1
    go_wp2_with fail
    have hex : (t.extract 0 (4 + 4 * q)).size = 4 + 4 * q := by simp only [ByteArray.size_extract]; omega
    refine (readAsking_any _ _ (by omega) (by omega) (by omega)).mono ?_
    rintro e w1 ⟨v, rfl, hown1, hb1⟩
    obtain ⟨a2, c2, rfl⟩ := hown1.shape
    have Ho1 : Hid (OwnInts w1 wr.heap.size (.slice a2 (entsR ((t.extract 0 (4 + 4 * q)).extract 12 (t.extract 0 (4 + 4 * q)).size).data.toList).length c2) (entsR ((t.extract 0 (4 + 4 * q)).extract 12 (t.extract 0 (4 + 4 * q)).size).data.toList)) := hown1
    have Hb1 : Hid (Below wr.heap.size wr w1) := hb1
    have hws1 := hb1.size
    have hle : (entsR ((t.extract 0 (4 + 4 * q)).extract 12 (t.extract 0 (4 + 4 * q)).size).data.toList).length ≤ 6400 := by
      have := entsR_length q ((t.extract 0 (4 + 4 * q)).extract 12 (t.extract 0 (4 + 4 * q)).size).data.toList (by rw [← Lib.size_eq, ByteArray.size_extract]; omega)
      omega
    clear hown1 hb1
    generalize hee : entsR ((t.extract 0 (4 + 4 * q)).extract 12 (t.extract 0 (4 + 4 * q)).size).data.toList = el at *
    generalize hsa : num ((t.extract 0 (4 + 4 * q)).extract 4 8).data.toList = sa at *
    generalize hsb : num ((t.extract 0 (4 + 4 * q)).extract 8 12).data.toList = sb at *
    clear hee hsa hsb
    have hinfo := asks_info
    obtain ⟨i0, hi, hz0, hz1, hz2⟩ := info_parts hinfo
    have Hi : Hid (Try.prog.info? 40 = some i0 ∧ i0.zero = some (.agg #[.int .i64 0, .int .i64 0, .slice none 0 0]) ∧ i0.size = 3 ∧ i0.bytes = 40) := ⟨hi, hz0, hz1, hz2⟩
    clear hi hz0 hz1 hz2 hinfo
    go_wp2_with (at_builtin; (
      refine wpList_append_at rfl (.tmp 46) (.tmp 51) 37 rfl w.heap.size 40 i0 _ 3 40 Try.underlying37 Hi.out rfl (by decide) _ xs.length (flatA xs) rfl ((rowN_chg (Chg.ofBelow (T := fun _ => False) Hb1.out) Hown.out.row (fun _ _ e => e)).alloc _) _ 1 1 [.int .i64 sa, .int .i64 sb, .slice a2 el.length c2] rfl rfl (cells_new _ [.int .i64 sa, .int .i64 sb, .slice a2 el.length c2] _) ?_ (by unfold maxLen; omega) (by omega) (by simp; omega) ?_
      · intro u hu; simp at hu; rcases hu with rfl | rfl | rfl <;> rfl
      intro v' w2 hown' hgrow hob
      refine stop_here ?_))
    have Ha2 : Hid (OwnAsks w2 w.heap.size v' (xs ++ [⟨sa, sb, .slice a2 el.length c2, el⟩])) := by
      refine OwnAsks.snoc (x := ⟨sa, sb, .slice a2 el.length c2, el⟩) Hown.out (Hb1.out.alloc hws1 _) (Ho1.out.alloc _) hle hws hown' hgrow ?_
      rcases hob with h | h
      · exact .inl h
      · exact .inr (fun b hb => by rw [h] at hb; simp at hb; simp; omega)
    have Hb2 : Hid (Below w.heap.size w w2) := (Hb.out.trans ((Hb1.out.mono hws).alloc (Nat.le_trans hws hws1) _)).grown hgrow (by simp; omega) (fun x hx => (World.ownsRow.lt Hown.out.row x hx).1)
    have Hrs : Hid (RestR s (t.extract (4 + 4 * q) t.size) (xs ++ [⟨sa, sb, .slice a2 el.length c2, el⟩])) := HR.out.take (x := ⟨sa, sb, .slice a2 el.length c2, el⟩) Hpa.out rfl rfl
    obtain ⟨a3, c3, rfl⟩ := rowA_shape hown'
    clear hown' hgrow hob
    refine hid_in ?_
    go_wp2
    go_roundw
    case rel => exact ⟨_, _, rfl, Hrs.out, by simp only [ByteArray.size_extract, List.length_append, List.length_singleton]; omega, Ha2.out, Hb2.out⟩
    case measure => simp only [strLen, ByteArray.size_extract]; omega

set_option maxHeartbeats 1000000 in
theorem readReport_none (s : ByteArray) (w : World) (h0 : s.size = 0 ∨ 1500 < s.size) (hs : s.size ≤ maxLen) :
    Calls Try.prog 49 #[.string s] w fun e w' => Below w.heap.size w w' ∧ e = .returned wrongR := by
  unfold maxLen at hs
  by_cases hz : s.size = 0
  · have hne : s.toList.isEmpty = true := by rw [isEmpty_size]; exact decide_eq_true hz
    go_enter Try.func49, Try.ntmps49
    go_wp2
    refine wp_scope_fwd 0 rfl ?_
    go_wp2
    go_step3
    refine jump_here 0 ?_
    go_wp2
    rw [Exit.noGoto_ret]
    go_ret2
    exact ⟨Below.refl _ _, rfl⟩
  · have hne : s.toList.isEmpty = false := by rw [isEmpty_size]; exact decide_eq_false hz
    have hi : (1500 : Int) < s.size := by omega
    go_enter Try.func49, Try.ntmps49
    go_wp2
    refine wp_scope_fwd 0 rfl ?_
    go_wp2
    go_step3
    refine jump_here 0 ?_
    go_wp2
    rw [Exit.noGoto_ret]
    go_ret2
    exact ⟨Below.refl _ _, rfl⟩

theorem readReport_any (s : ByteArray) (w : World) (hs : s.size ≤ maxLen) :
    Calls Try.prog 49 #[.string s] w fun e w' => Below w.heap.size w w' ∧ RepAs (repR s) w.heap.size e w' := by
  unfold repR
  by_cases h : s.size = 0 ∨ 1500 < s.size
  · rw [if_pos h]
    exact readReport_none s w h hs
  · rw [if_neg h]
    exact readReport_mid s w (by omega) (by omega)

set_option maxHeartbeats 1000000 in
theorem parseReport_any (s : ByteArray) (w : World) (hs : s.size ≤ maxLen) :
    Calls Try.prog 24 #[.string s] w fun e w' => Below w.heap.size w w' ∧ RepAs (repR s) w.heap.size e w' := by
  go_enter Try.func24, Try.ntmps24
  go_wp2_with fail
  refine (readReport_any s _ hs).mono ?_
  rintro e w1 ⟨hb1, hr⟩
  have Hb1 : Hid (Below w.heap.size w w1) := hb1
  clear hb1
  cases hR : repR s with
  | none =>
    rw [hR] at hr
    have he : e = .returned wrongR := hr
    simp only [wrongR] at he
    subst he
    have HR : Hid (repR s = none) := hR
    clear hR hr
    go_wp2
    go_ret2
    refine ⟨Hb1.out, ?_⟩
    rw [HR.out]
    rfl
  | some L =>
    rw [hR] at hr
    obtain ⟨lv, xs, he, hown, hm⟩ := hr
    subst he
    have Hown : Hid (OwnAsks w1 w.heap.size lv xs) := hown
    have Hm : Hid (xs.map (fun x => (x.a, x.b, x.l)) = L.map (fun y => ((y.1 : Int), (y.2.1 : Int), y.2.2))) := hm
    obtain ⟨a2, c2, rfl⟩ := rowA_shape hown.row
    have HR : Hid (repR s = some L) := hR
    clear hR hown hm
    go_wp2
    go_ret2
    refine ⟨Hb1.out, ?_⟩
    rw [HR.out]
    exact ⟨_, xs, rfl, Hown.out, Hm.out⟩

end Go.Proofs.Ytdjhhnolcafkiaa

/- sendAgain: what it does in numbers; a mender in memory while it goes on. -/
namespace Go.Proofs.Ytdjhhnolcafkiaa
open Go.RowKit
namespace Pk
/-- one number is asked for -/
def stepM (M : Md) (i : Nat) (n : Nat) : Md × Option ByteArray :=
  match M.wns[i]? with
  | none => (M, none)
  | some x =>
    match (againF x n M.s.now M.c.delay M.s.tokens).2 with
    | none => ({ M with s := { M.s with refused := M.s.refused + 1 } }, none)
    | some t => ({ M with wns := M.wns.set i (againF x n M.s.now M.c.delay M.s.tokens).1, s := { M.s with again := M.s.again + 1, tokens := M.s.tokens - t.size } }, some t)
def stp (i : Nat) (a : Md × List ByteArray) (n : Int) : Md × List ByteArray := ((stepM a.1 i (n % 65536).toNat).1, a.2 ++ (stepM a.1 i (n % 65536).toNat).2.toList)
def numsM (i : Nat) (l : List Int) (a : Md × List ByteArray) : Md × List ByteArray := l.foldl (stp i) a
def asksM (i : Nat) (src : Int) (l : List (Int × List Int)) (a : Md × List ByteArray) : Md × List ByteArray := l.foldl (fun a q => if q.1 = src then numsM i q.2 a else a) a
theorem numsM_take (i : Nat) (l : List Int) (a : Md × List ByteArray) (k : Nat) (h : k < l.length) : numsM i (l.take (k + 1)) a = stp i (numsM i (l.take k) a) (l.getD k 0) := by
  unfold numsM
  rw [List.take_succ_eq_append_getElem h, List.foldl_append]
  simp [List.getD, h]
theorem asksM_take (i : Nat) (src : Int) (l : List (Int × List Int)) (a : Md × List ByteArray) (k : Nat) (q : Int × List Int) (h : l[k]? = some q) : asksM i src (l.take (k + 1)) a = if q.1 = src then numsM i q.2 (asksM i src (l.take k) a) else asksM i src (l.take k) a := by
  obtain ⟨hk, rfl⟩ := List.getElem?_eq_some_iff.1 h
  unfold asksM
  rw [List.take_succ_eq_append_getElem hk, List.foldl_append]
  rfl
/-- what keeps the numbers within their kinds while packets are sent again -/
structure SOk (i c : Nat) (src id : Int) (a : Md × List ByteArray) : Prop where
  now : 0 ≤ a.1.s.now ∧ a.1.s.now ≤ 1000000000000000
  del : 0 ≤ a.1.c.delay ∧ a.1.c.delay ≤ 1000000
  tok : 0 ≤ a.1.s.tokens ∧ a.1.s.tokens ≤ 1000000
  ag : 0 ≤ a.1.s.again ∧ a.1.s.again ≤ 1000000000000000 + (c : Int)
  re : 0 ≤ a.1.s.refused ∧ a.1.s.refused ≤ 1000000000000000 + (c : Int)
  len : a.2.length ≤ c
  wnt : ∃ x, a.1.wns[i]? = some x ∧ KOk x ∧ x.second < 65536 ∧ x.kept.length ≤ 90000 ∧ x.src = src ∧ x.id = id
theorem sentW_ok {x : Wn} {p : Nat} {k : Kp} {r : Int} (h : KOk x) (hk : x.kept[p]? = some k) : KOk (sentW x p k r) := fun q hq => by
  rcases List.mem_or_eq_of_mem_set hq with hq | rfl
  · exact h q hq
  · exact h k (List.mem_of_getElem? hk)
/-- what Again makes of a want -/
theorem againF_facts (x : Wn) (n : Nat) (now delay tokens : Int) (h : KOk x) : KOk (againF x n now delay tokens).1 ∧ (x.second < 65536 → (againF x n now delay tokens).1.second < 65536) ∧ (againF x n now delay tokens).1.kept.length = x.kept.length ∧ (againF x n now delay tokens).1.src = x.src ∧ (againF x n now delay tokens).1.id = x.id ∧ ((againF x n now delay tokens).2 = none → (againF x n now delay tokens).1 = x) ∧ ∀ t, (againF x n now delay tokens).2 = some t → (t.size : Int) ≤ tokens := by
  have same : KOk x ∧ (x.second < 65536 → x.second < 65536) ∧ x.kept.length = x.kept.length ∧ x.src = x.src ∧ x.id = x.id ∧ ((none : Option ByteArray) = none → x = x) ∧ ∀ t, (none : Option ByteArray) = some t → (t.size : Int) ≤ tokens := ⟨h, id, rfl, rfl, rfl, fun _ => rfl, fun t e => by cases e⟩
  rcases posF_cases n (x.kept.map Kp.n) with ⟨hp, -⟩ | ⟨p, hpl, hp, -, -⟩
  · rw [again_none hp]
    exact same
  · rw [List.length_map] at hpl
    rw [again_at hp (List.getElem?_eq_getElem hpl)]
    split
    · exact same
    · split
      · exact same
      · rename_i hc
        refine ⟨sentW_ok h (List.getElem?_eq_getElem hpl), fun _ => Nat.mod_lt _ (by decide), by simp [sentW], rfl, rfl, (fun e => by cases e), fun t e => ?_⟩
        simp only [Option.some.injEq] at e
        rw [← e]
        have := fun hh => hc (.inr hh)
        omega
theorem SOk.step {i c : Nat} {src id : Int} {a : Md × List ByteArray} (h : SOk i c src id a) (n : Int) : SOk i (c + 1) src id (stp i a n) := by
  obtain ⟨M, L⟩ := a
  obtain ⟨x, hx, hko, h2, hl, hs, hid⟩ := h.wnt
  have hn := h.now; have hd := h.del; have ht := h.tok; have ha := h.ag; have hr := h.re; have hL := h.len
  simp only at hx hn hd ht ha hr hL
  obtain ⟨f1, f2, f3, f4, f5, f6, f7⟩ := againF_facts x (n % 65536).toNat M.s.now M.c.delay M.s.tokens hko
  unfold stp stepM
  simp only [hx]
  cases hA : (againF x (n % 65536).toNat M.s.now M.c.delay M.s.tokens).2 with
  | none => exact ⟨hn, hd, ht, by simp only; omega, by simp only; omega, by simp; omega, x, hx, hko, h2, hl, hs, hid⟩
  | some t =>
    have := f7 t hA
    refine ⟨hn, hd, by simp only; omega, by simp only; omega, by simp only; omega, by simp; omega, _, ?_, f1, f2 h2, by omega, by omega, by omega⟩
    rw [List.getElem?_set_self (List.getElem?_eq_some_iff.1 hx).1]
theorem SOk.mono {i c d : Nat} {src id : Int} {a : Md × List ByteArray} (h : SOk i c src id a) (hd : c ≤ d) : SOk i d src id a :=
  ⟨h.now, h.del, h.tok, ⟨h.ag.1, by have := h.ag.2; omega⟩, ⟨h.re.1, by have := h.re.2; omega⟩, Nat.le_trans h.len hd, h.wnt⟩
theorem SOk.nums {i : Nat} {src id : Int} : ∀ (l : List Int) (c : Nat) (a : Md × List ByteArray), SOk i c src id a → SOk i (c + l.length) src id (numsM i l a)
  | [], c, a, h => h
  | n :: r, c, a, h => (SOk.nums r (c + 1) (stp i a n) (h.step n)).mono (by simp; omega)
theorem SOk.asks {i : Nat} {src id : Int} : ∀ (l : List (Int × List Int)) (c : Nat) (a : Md × List ByteArray), (∀ q ∈ l, q.2.length ≤ 6400) → SOk i c src id a → SOk i (c + 6400 * l.length) src id (asksM i src l a)
  | [], c, a, _, h => h
  | q :: r, c, a, hl, h => by
    have hq := hl q (by simp)
    have ih := SOk.asks r (c + 6400) (if q.1 = src then numsM i q.2 a else a) (fun y hy => hl y (by simp [hy])) (by
      split
      · exact (h.nums q.2 c a).mono (by omega)
      · exact h.mono (by omega))
    exact ih.mono (by simp; omega)

/-- a want turned, its list in its place -/
theorem MdAt.wnt0 {W W' : World} {ρ : Nat → Nat} {mb : Nat} {M : Md} {sv wv : Value} {SB WB : List (Nat × Value)} {i : Nat} {p : Nat × Value} {x x' : Wn} (h : MdAt W ρ mb M sv wv SB WB) (h1 : WB[i]? = some p) (h2 : M.wns[i]? = some x) (hid : x'.id = x.id) (hS : WnAt (fun b => ρ b = 4) W' (p.1 + 1) p.1 p.2 x') (hU : SdUp W W' p.1 p.2 p.2) :
    MdAt W' ρ mb { M with wns := M.wns.set i x' } sv wv SB WB ∧ Chg (fun b => ρ b ≠ 0) W W' := by
  obtain ⟨a, b, c⟩ := h.wnt h1 h2 hid hS hU
  have hr := (h.wa i p x h1 h2).2.2
  have e : (fun b => if p.2.ownBlock = some b then 1001 + 2 * x.id.toNat else ρ b) = ρ := funext fun b => by
    split
    · rename_i hb; exact (hr b hb).symm
    · rfl
  have e2 : WB.set i (p.1, p.2) = WB := by
    obtain ⟨hi, e3⟩ := List.getElem?_eq_some_iff.1 h1
    rw [← e3]
    exact List.set_getElem_self hi
  rw [e, e2] at a
  exact ⟨a, c⟩
/-- how things stand while packets are sent again -/
structure SendRel (w : World) (ρ : Nat → Nat) (mb : Nat) (sv wv : Value) (SB WB : List (Nat × Value)) (a : Md × List ByteArray) (ov : Value) (W : World) : Prop where
  md : MdAt W ρ mb a.1 sv wv SB WB
  row : W.ownsRow w.heap.size 9 1 ov a.2.length (a.2.map Value.string)
  chg : Chg (fun b => ρ b ≠ 0) w W
  hi : ∀ b, w.heap.size ≤ b → ρ b = 0
section
variable {w : World} {ρ : Nat → Nat} {mb : Nat} {sv wv : Value} {SB WB : List (Nat × Value)} {a : Md × List ByteArray} {ov : Value} {W : World}
theorem SendRel.rz (h : SendRel w ρ mb sv wv SB WB a ov W) : ∀ b, ov.ownBlock = some b → ρ b = 0 := fun b hb => h.hi b (h.row.lt b hb).1
theorem SendRel.chgd {W' : World} {M' : Md} (h : SendRel w ρ mb sv wv SB WB a ov W) (hm : MdAt W' ρ mb M' sv wv SB WB) (hc : Chg (fun b => ρ b ≠ 0) W W') : SendRel w ρ mb sv wv SB WB (M', a.2) ov W' :=
  ⟨hm, rowA_chg hc h.row (fun b hb e => e (h.rz b hb)), h.chg.trans hc (fun _ _ e => e), h.hi⟩
theorem SendRel.below {W' : World} (h : SendRel w ρ mb sv wv SB WB a ov W) (hb : Below W.heap.size W W') : SendRel w ρ mb sv wv SB WB a ov W' := h.chgd (h.md.below hb) (Chg.ofBelow hb)
theorem SendRel.app {W3 : World} {ob : Obj} {ov' : Value} {t : ByteArray} (h : SendRel w ρ mb sv wv SB WB a ov W) (hg : (W.alloc ob).grownBy W3 ov.ownBlock) (hrow : W3.ownsRow w.heap.size 9 1 ov' (a.2.length + 1) (a.2.map Value.string ++ [.string t])) : SendRel w ρ mb sv wv SB WB (a.1, a.2 ++ [t]) ov' W3 := by
  have h1 := h.below ((Below.refl _ _).alloc (Nat.le_refl _) ob)
  have hz := h.rz
  refine ⟨h1.md.chg (Chg.ofGrown hg) hz, ?_, h1.chg.trans (Chg.ofGrown hg) (fun b hb e => ?_), h.hi⟩
  · simp only [List.length_append, List.length_singleton, List.map_append, List.map_cons, List.map_nil]
    exact hrow
  · have := (h.row.lt b e).1
    omega
end
theorem one_at (B : Nat) (w : World) (hB : B = w.heap.size) (v : Value) (t : TypeId) : ∀ j u, [v][j]? = some u → (w.alloc (.cells #[v] t)).cell? ((⟨B, 0, none⟩ : Addr).add j) = some u := by
  subst hB
  exact cell_one_new _ _ _
theorem u16_any (n : Int) : IntKind.u16.wrap n = (((n % 65536).toNat : Nat) : Int) := by simp [IntKind.wrap, IntKind.signed, IntKind.bits]; omega
end Pk
open Pk

set_option maxHeartbeats 400000 in
theorem sourceK_any (sb : Nat) (src : Int) (w : World) (h : w.cell? ⟨sb, 0, none⟩ = some (.int .i64 src)) :
    Calls Try.prog 113 #[.pointer (some ⟨sb, 0, none⟩)] w fun e w' => e = .returned (.int .i64 src) ∧ w' = w := by
  go_enter Try.func113, Try.ntmps113
  go_wp2
  go_ret
  exact ⟨rfl, rfl⟩

end Go.Proofs.Ytdjhhnolcafkiaa
