/- The document's answer: noughts, and a number as bytes. -/
import Derived.Test.YtdjhhnolcafkiaaRefNum
import Derived.Test.YtdjhhnolcafkiaaBuf
import Derived.Test.YtdjhhnolcafkiaaBoth
namespace Go.Proofs.Ytdjhhnolcafkiaa
open Go.RowKit Pk

theorem append_list (a b : ByteArray) : (a ++ b).data.toList = a.data.toList ++ b.data.toList := by
  rw [ByteArray.data_append, Array.toList_append]

set_option maxHeartbeats 400000 in
theorem refNoughts_any (n : Nat) (w : World) (hn : n ≤ 255) :
    Calls Try.prog 63 #[.int .i64 n] w fun e w' => (∃ t : ByteArray, e = .returned (.string t) ∧ t.data.toList = List.replicate n 0) ∧ w' = w := by
  go_enter Try.func63, Try.ntmps63
  go_wp2
  go_loop [3, 4] (fun v i => ∃ (k : Nat) (t : ByteArray), k ≤ n ∧ i = .int .i64 k ∧ v = .string t ∧ t.data.toList = List.replicate k 0) (fun _ i => n - (intOf i).toNat)
  case atStart => exact ⟨0, ⟨#[]⟩, Nat.zero_le _, rfl, rfl, rfl⟩
  case round =>
    obtain ⟨k, t, hk, rfl, rfl, ht⟩ := hrel
    have hts : t.size ≤ 255 := by rw [Lib.size_eq, ht, List.length_replicate]; omega
    have Ht : Hid (t.data.toList = List.replicate k 0) := ht
    clear ht
    by_cases hlt : k < n
    · go_wp2
      go_round
      case rel => exact ⟨k + 1, t ++ ⟨#[0]⟩, by omega, by go_num, rfl, by rw [append_list, Ht.out, List.replicate_succ']⟩
      case measure => simp [intOf]; omega
    · have e : k = n := by omega
      subst e
      go_wp2
      go_ret
      exact ⟨⟨t, rfl, Ht.out⟩, rfl⟩

theorem conv_one (g : Nat) (W : World) (b : UInt8) (h : W.cell? ⟨g, 0, none⟩ = some (.int .u8 (b.toNat : Int))) :
    (convert 56 9 (.slice (some ⟨g, 0, none⟩) 1 1)).run Try.prog W = .ok (.string ⟨#[b]⟩) W := by
  rw [run_convert_bytes_string W 56 9 5 _ _ _ Try.underlying56 Try.underlying5 Try.underlying9]
  have hl := run_loadCells_list (P := Try.prog) W ⟨g, 0, none⟩ [.int .u8 (b.toNat : Int)] (fun j v hj => by
    match j, hj with
    | 0, hj => simp at hj; subst hj; simpa [Addr.add] using h)
  rw [run_bytesToString W ⟨g, 0, none⟩ 1 1 [(b.toNat : Int)] hl]
  congr 2
  apply ba_ext
  rw [push_fold]
  simp

set_option maxHeartbeats 300000 in
theorem refTold_step (k v : Nat) (w : World) (hk : k + 1 ≤ 8) (hv : v < 9223372036854775808) (ih : ∀ (v : Nat) (w : World), k ≤ 8 → v < 9223372036854775808 → Calls Try.prog 62 #[.int .i64 v, .int .i64 k] w fun e w' => (∃ t : ByteArray, e = .returned (.string t) ∧ t.data.toList = told v k) ∧ Below w.heap.size w w') :
    Calls Try.prog 62 #[.int .i64 v, .int .i64 ((k + 1 : Nat) : Int)] w fun e w' => (∃ t : ByteArray, e = .returned (.string t) ∧ t.data.toList = told v (k + 1)) ∧ Below w.heap.size w w' := by
  have Ih : Hid (∀ (x : Int) (w : World), 0 ≤ x → x < 9223372036854775808 → Calls Try.prog 62 #[.int .i64 x, .int .i64 k] w fun e w' => (∃ t : ByteArray, e = .returned (.string t) ∧ t.data.toList = told x.toNat k) ∧ Below w.heap.size w w') := by
    intro x w h0 h1
    obtain ⟨q, rfl⟩ := Int.eq_ofNat_of_zero_le h0
    rw [Int.toNat_natCast]
    exact ih q w (by omega) (by omega)
  clear ih
  obtain ⟨b, hb⟩ : ∃ b : UInt8, b = UInt8.ofNat (v % 256) := ⟨_, rfl⟩
  have Hb : Hid (UInt8.ofNat (v % 256) = b) := hb.symm
  have hbv : IntKind.u8.wrap ((v : Int).tmod 256) = (b.toNat : Int) := by
    rw [Int.tmod_eq_emod_of_nonneg (by omega), IntKind.wrap_u8', hb, UInt8.toNat_ofNat']; omega
  have hwv : IntKind.i64.wrap ((v : Int) / 256) = (v : Int) / 256 := wrapI64 _ (by omega) (by omega)
  have hwk : IntKind.i64.wrap (k : Int) = (k : Int) := wrapI64 _ (by omega) (by omega)
  have hne : (((k + 1 : Nat) : Int) == 0) = false := by simp; omega
  have hcv := fun g W => conv_one g W b
  clear hb
  go_enter Try.func62, Try.ntmps62
  go_wp2
  refine wp_region_noPanic ?_
  refine wp_region_held_drew (S := fun _ => True) (by kernel_rfl) trivial (fun hHeld => ?_)
  refine wpAnyH_take (i := 0) (v := ?v2007) rfl (by kernel_rfl) (by kernel_rfl) (by kernel_rfl) (fun _ _ _ h => h) (Or.inl ⟨by rfl, ?y2007⟩) hHeld ?r2007
  case y2007 => ((intro W hSw; go_simp) <;> with_reducible rfl)
  try simp only [Act.put]
  try simp only [List.getElem_toArray]
  try simp only [List.getElem_cons_succ]
  try simp only [List.getElem_cons_zero]
  try simp only [List.setIfInBounds_toArray]
  try simp only [List.set_cons_succ]
  try simp only [List.set_cons_zero]
  refine wpAnyH_take (i := 1) (v := ?v2008) rfl (by kernel_rfl) (by kernel_rfl) (by kernel_rfl) (fun _ _ _ h => h) (Or.inl ⟨by rfl, ?y2008⟩) hHeld ?r2008
  case y2008 => ((intro W hSw; go_simp) <;> with_reducible rfl)
  try simp only [Act.put]
  try simp only [List.getElem_toArray]
  try simp only [List.getElem_cons_succ]
  try simp only [List.getElem_cons_zero]
  try simp only [List.setIfInBounds_toArray]
  try simp only [List.set_cons_succ]
  try simp only [List.set_cons_zero]
  refine wpAnyH_take (i := 2) (v := ?v2009) rfl (by kernel_rfl) (by kernel_rfl) (by kernel_rfl) (fun _ _ _ h => h) (Or.inl ⟨by rfl, ?y2009⟩) hHeld ?r2009
  case y2009 => ((intro W hSw; go_simp) <;> with_reducible rfl)
  try simp only [Act.put]
  try simp only [List.getElem_toArray]
  try simp only [List.getElem_cons_succ]
  try simp only [List.getElem_cons_zero]
  try simp only [List.setIfInBounds_toArray]
  try simp only [List.set_cons_succ]
  try simp only [List.set_cons_zero]
  refine wpAnyH_take (i := 3) (v := ?v2010) rfl (by kernel_rfl) (by kernel_rfl) (by kernel_rfl) (fun _ _ _ h => h) (Or.inl ⟨by rfl, ?y2010⟩) hHeld ?r2010
  case y2010 => ((intro W hSw; go_simp) <;> with_reducible rfl)
  try simp only [Act.put]
  try simp only [List.getElem_toArray]
  try simp only [List.getElem_cons_succ]
  try simp only [List.getElem_cons_zero]
  try simp only [List.setIfInBounds_toArray]
  try simp only [List.set_cons_succ]
  try simp only [List.set_cons_zero]
  refine wpAnyH_take (i := 5) (v := ?v2011) rfl (by kernel_rfl) (by kernel_rfl) (by kernel_rfl) (fun _ _ _ h => h) (Or.inl ⟨by rfl, ?y2011⟩) hHeld ?r2011
  case y2011 => ((intro W hSw; go_simp) <;> with_reducible rfl)
  try simp only [Act.put]
  try simp only [List.getElem_toArray]
  try simp only [List.getElem_cons_succ]
  try simp only [List.getElem_cons_zero]
  try simp only [List.setIfInBounds_toArray]
  try simp only [List.set_cons_succ]
  try simp only [List.set_cons_zero]
  refine wpAnyH_take (i := 6) (v := ?v2012) rfl (by kernel_rfl) (by kernel_rfl) (by kernel_rfl) (fun _ _ _ h => h) (Or.inl ⟨by rfl, ?y2012⟩) hHeld ?r2012
  case y2012 => ((intro W hSw; go_simp) <;> with_reducible rfl)
  try simp only [Act.put]
  try simp only [List.getElem_toArray]
  try simp only [List.getElem_cons_succ]
  try simp only [List.getElem_cons_zero]
  try simp only [List.setIfInBounds_toArray]
  try simp only [List.set_cons_succ]
  try simp only [List.set_cons_zero]
  refine wpAnyH_take (i := 7) (v := ?v2013) rfl (by kernel_rfl) (by kernel_rfl) (by kernel_rfl) (fun _ _ _ h => h) (Or.inl ⟨by rfl, ?y2013⟩) hHeld ?r2013
  case y2013 => ((intro W hSw; go_simp) <;> with_reducible rfl)
  try simp only [Act.put]
  try simp only [List.getElem_toArray]
  try simp only [List.getElem_cons_succ]
  try simp only [List.getElem_cons_zero]
  try simp only [List.setIfInBounds_toArray]
  try simp only [List.set_cons_succ]
  try simp only [List.set_cons_zero]
  refine wpAnyH_ready (rs := [4, 8]) (by kernel_rfl) (by simp) ?_
  refine AllReadyH.cons rfl (fun K hK => ?_) (AllReadyH.cons rfl (fun K hK => ?_) AllReadyH.nil)
  · go_simp
    refine (Ih.out ((v : Int) / 256) _ (by omega) (by omega)).mono ?_
    rintro e w1 ⟨⟨t, rfl, ht⟩, hb1⟩
    have hq : ((v : Int) / 256).toNat = v / 256 := by omega
    rw [hq] at ht
    have Ht : Hid (t.data.toList = told (v / 256) k) := ht
    clear hq
    have hts : t.size ≤ 8 := by rw [Lib.size_eq, ht, told_length]; omega
    have hcat : ¬ 9223372036854775807 < t.size + 1 := by omega
    clear ht
    have Hbel : Hid (Below w.heap.size w w1) := (Below.refl _ _).drew.trans hb1
    clear hb1
    go_wp2_with fail
    refine hK.out _ _ trivial (fun hHeld => ?_)
    clear hK K
    refine wpAnyH_ready (rs := [8]) (by kernel_rfl) (by simp) ?_
    refine AllReadyH.cons rfl (fun K hK => ?_) AllReadyH.nil
    go_simp
    refine hK.out _ _ trivial (fun hHeld => ?_)
    clear hK K
    refine wpAnyH_ready (rs := [9]) (by kernel_rfl) (by simp) ?_
    refine AllReadyH.cons rfl (fun K hK => ?_) AllReadyH.nil
    go_simp
    refine hK.out _ _ trivial (fun hHeld => ?_)
    clear hK K
    refine wpAnyH_take (i := 10) (v := ?v2001) rfl (by kernel_rfl) (by kernel_rfl) (by kernel_rfl) (fun _ _ _ h => h) (Or.inl ⟨by rfl, ?y2001⟩) hHeld ?r2001
    case y2001 => ((intro W hSw; go_simp) <;> with_reducible rfl)
    try simp only [Act.put]
    try simp only [List.getElem_toArray]
    try simp only [List.getElem_cons_succ]
    try simp only [List.getElem_cons_zero]
    try simp only [List.setIfInBounds_toArray]
    try simp only [List.set_cons_succ]
    try simp only [List.set_cons_zero]
    refine wpAnyH_take (i := 11) (v := ?v2002) rfl (by kernel_rfl) (by kernel_rfl) (by kernel_rfl) (fun _ _ _ h => h) (Or.inl ⟨by rfl, ?y2002⟩) hHeld ?r2002
    case y2002 => ((intro W hSw; go_simp) <;> with_reducible rfl)
    try simp only [Act.put]
    try simp only [List.getElem_toArray]
    try simp only [List.getElem_cons_succ]
    try simp only [List.getElem_cons_zero]
    try simp only [List.setIfInBounds_toArray]
    try simp only [List.set_cons_succ]
    try simp only [List.set_cons_zero]
    refine wpAnyH_done (by kernel_rfl) ?_ _
    refine NoPanic.normal ?_
    go_wp2
    go_ret
    refine ⟨⟨t ++ ⟨#[b]⟩, rfl, ?_⟩, Hbel.out.alloc Hbel.out.size _⟩
    rw [append_list, Ht.out, told, Hb.out]
  · go_simp
    refine hK.out _ _ trivial (fun hHeld => ?_)
    clear hK K
    refine wpAnyH_ready (rs := [4, 9]) (by kernel_rfl) (by simp) ?_
    refine AllReadyH.cons rfl (fun K hK => ?_) (AllReadyH.cons rfl (fun K hK => ?_) AllReadyH.nil)
    · go_simp
      refine (Ih.out ((v : Int) / 256) _ (by omega) (by omega)).mono ?_
      rintro e w1 ⟨⟨t, rfl, ht⟩, hb1⟩
      have hq : ((v : Int) / 256).toNat = v / 256 := by omega
      rw [hq] at ht
      have Ht : Hid (t.data.toList = told (v / 256) k) := ht
      clear hq
      have hts : t.size ≤ 8 := by rw [Lib.size_eq, ht, told_length]; omega
      have hcat : ¬ 9223372036854775807 < t.size + 1 := by omega
      clear ht
      have hcc : w1.cell? ⟨w.heap.size, 0, none⟩ = some (.int .u8 (b.toNat : Int)) := (hb1.cell (p := ⟨w.heap.size, 0, none⟩) (by simp)).trans (by go_simp)
      have Hbel : Hid (Below w.heap.size w w1) := (((Below.refl _ _).alloc (Nat.le_refl _) _).drew).trans (hb1.mono (by simp))
      clear hb1
      go_wp2_with fail
      refine hK.out _ _ trivial (fun hHeld => ?_)
      clear hK K
      refine wpAnyH_ready (rs := [9]) (by kernel_rfl) (by simp) ?_
      refine AllReadyH.cons rfl (fun K hK => ?_) AllReadyH.nil
      go_simp
      refine hK.out _ _ trivial (fun hHeld => ?_)
      clear hK K
      refine wpAnyH_take (i := 10) (v := ?v2003) rfl (by kernel_rfl) (by kernel_rfl) (by kernel_rfl) (fun _ _ _ h => h) (Or.inl ⟨by rfl, ?y2003⟩) hHeld ?r2003
      case y2003 => ((intro W hSw; go_simp) <;> with_reducible rfl)
      try simp only [Act.put]
      try simp only [List.getElem_toArray]
      try simp only [List.getElem_cons_succ]
      try simp only [List.getElem_cons_zero]
      try simp only [List.setIfInBounds_toArray]
      try simp only [List.set_cons_succ]
      try simp only [List.set_cons_zero]
      refine wpAnyH_take (i := 11) (v := ?v2004) rfl (by kernel_rfl) (by kernel_rfl) (by kernel_rfl) (fun _ _ _ h => h) (Or.inl ⟨by rfl, ?y2004⟩) hHeld ?r2004
      case y2004 => ((intro W hSw; go_simp) <;> with_reducible rfl)
      try simp only [Act.put]
      try simp only [List.getElem_toArray]
      try simp only [List.getElem_cons_succ]
      try simp only [List.getElem_cons_zero]
      try simp only [List.setIfInBounds_toArray]
      try simp only [List.set_cons_succ]
      try simp only [List.set_cons_zero]
      refine wpAnyH_done (by kernel_rfl) ?_ _
      refine NoPanic.normal ?_
      go_wp2
      go_ret
      refine ⟨⟨t ++ ⟨#[b]⟩, rfl, ?_⟩, Hbel.out⟩
      rw [append_list, Ht.out, told, Hb.out]
    · go_simp
      refine hK.out _ _ trivial (fun hHeld => ?_)
      clear hK K
      refine wpAnyH_ready (rs := [4]) (by kernel_rfl) (by simp) ?_
      refine AllReadyH.cons rfl (fun K hK => ?_) AllReadyH.nil
      go_simp
      refine (Ih.out ((v : Int) / 256) _ (by omega) (by omega)).mono ?_
      rintro e w1 ⟨⟨t, rfl, ht⟩, hb1⟩
      have hq : ((v : Int) / 256).toNat = v / 256 := by omega
      rw [hq] at ht
      have Ht : Hid (t.data.toList = told (v / 256) k) := ht
      clear hq
      have hts : t.size ≤ 8 := by rw [Lib.size_eq, ht, told_length]; omega
      have hcat : ¬ 9223372036854775807 < t.size + 1 := by omega
      clear ht
      have Hbel : Hid (Below w.heap.size w w1) := (((Below.refl _ _).alloc (Nat.le_refl _) _).drew).trans (hb1.mono (by simp))
      clear hb1
      go_wp2_with fail
      refine hK.out _ _ trivial (fun hHeld => ?_)
      clear hK K
      refine wpAnyH_take (i := 10) (v := ?v2005) rfl (by kernel_rfl) (by kernel_rfl) (by kernel_rfl) (fun _ _ _ h => h) (Or.inl ⟨by rfl, ?y2005⟩) hHeld ?r2005
      case y2005 => ((intro W hSw; go_simp) <;> with_reducible rfl)
      try simp only [Act.put]
      try simp only [List.getElem_toArray]
      try simp only [List.getElem_cons_succ]
      try simp only [List.getElem_cons_zero]
      try simp only [List.setIfInBounds_toArray]
      try simp only [List.set_cons_succ]
      try simp only [List.set_cons_zero]
      refine wpAnyH_take (i := 11) (v := ?v2006) rfl (by kernel_rfl) (by kernel_rfl) (by kernel_rfl) (fun _ _ _ h => h) (Or.inl ⟨by rfl, ?y2006⟩) hHeld ?r2006
      case y2006 => ((intro W hSw; go_simp) <;> with_reducible rfl)
      try simp only [Act.put]
      try simp only [List.getElem_toArray]
      try simp only [List.getElem_cons_succ]
      try simp only [List.getElem_cons_zero]
      try simp only [List.setIfInBounds_toArray]
      try simp only [List.set_cons_succ]
      try simp only [List.set_cons_zero]
      refine wpAnyH_done (by kernel_rfl) ?_ _
      refine NoPanic.normal ?_
      go_wp2
      go_ret
      refine ⟨⟨t ++ ⟨#[b]⟩, rfl, ?_⟩, Hbel.out⟩
      rw [append_list, Ht.out, told, Hb.out]

theorem refTold_any (k : Nat) : ∀ (v : Nat) (w : World), k ≤ 8 → v < 9223372036854775808 → Calls Try.prog 62 #[.int .i64 v, .int .i64 k] w fun e w' => (∃ t : ByteArray, e = .returned (.string t) ∧ t.data.toList = told v k) ∧ Below w.heap.size w w' := by
  induction k with
  | zero =>
    intro v w _ _
    go_enter Try.func62, Try.ntmps62
    go_wp2
    go_ret
    exact ⟨⟨_, rfl, rfl⟩, Below.refl _ _⟩
  | succ k ih =>
    intro v w hk hv
    exact refTold_step k v w hk hv ih

end Go.Proofs.Ytdjhhnolcafkiaa
