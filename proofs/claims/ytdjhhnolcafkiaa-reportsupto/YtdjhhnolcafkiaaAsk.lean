/- wire.WriteAsking, mender.TellAsking: an asking as bytes. -/
import Derived.Test.YtdjhhnolcafkiaaEntries
import Derived.Test.YtdjhhnolcafkiaaWrite
namespace Go.Proofs.Ytdjhhnolcafkiaa
open Go.RowKit
namespace Pk

/-- is it an asking? -/
def askOk (se so : Int) (l : List Int) : Bool := decide (0 ≤ se ∧ se ≤ 4294967295) && decide (0 ≤ so ∧ so ≤ 4294967295) && decide (1 ≤ l.length) && decide (l.length ≤ 300) && allIn l 65535
def entB (E : List (Nat × Nat)) : List UInt8 := E.flatMap fun p => told p.1 2 ++ told p.2 2
def askB (se so : Nat) (E : List (Nat × Nat)) : List UInt8 := [129, 205] ++ told (2 + E.length) 2 ++ told se 4 ++ told so 4 ++ entB E
/-- what is answered -/
def askR (se so : Int) (l : List Int) : ByteArray × Int := if askOk se so l = true then (⟨(askB se.toNat so.toNat (entriesF l)).toArray⟩, 0) else (⟨#[]⟩, 2)

theorem entB_succ (E : List (Nat × Nat)) (k : Nat) (h : k < E.length) : entB (E.take (k + 1)) = entB (E.take k) ++ told (E[k]).1 2 ++ told (E[k]).2 2 := by
  unfold entB
  rw [List.take_succ_eq_append_getElem h, List.flatMap_append, List.append_assoc]
  simp
theorem flatE_at (E : List (Nat × Nat)) : ∀ k (h : k < E.length), (flatE E)[k * 2]? = some (.int .u16 (E[k]).1) ∧ (flatE E)[k * 2 + 1]? = some (.int .u16 (E[k]).2) := by
  induction E with
  | nil => intro k h; simp at h
  | cons p E ih =>
    intro k h
    rw [show flatE (p :: E) = .int .u16 p.1 :: .int .u16 p.2 :: flatE E from rfl]
    cases k with
    | zero => exact ⟨rfl, rfl⟩
    | succ k =>
      have := ih k (by simpa using h)
      rw [show (k + 1) * 2 = k * 2 + 1 + 1 by omega]
      simpa using this

end Pk
open Pk

set_option maxHeartbeats 1000000 in
theorem askingFits_any (se so : Int) (nv : Value) (l : List Int) (w : World) (hv : IsInts w.heap.size w nv l) (hl : l.length ≤ 17592186044416) :
    Calls Try.prog 79 #[.agg #[.int .i64 se, .int .i64 so, nv]] w fun e w' => e = .returned (.bool (askOk se so l)) ∧ Below w.heap.size w w' := by
  have Hv : Hid (∀ o, IsInts w.heap.size (w.alloc o) nv l) := fun o => hv.alloc (Nat.le_refl _) o
  obtain ⟨ao, cap, rfl, _⟩ := hv
  go_enter Try.func79, Try.ntmps79
  go_wp2_with (first
    | (go_at_call 69; refine (within_any _ _ _).mono ?_; rintro e w' ⟨rfl, rfl⟩)
    | (go_at_call 98; refine (allWithin_any w.heap.size _ l _ _ ?_ hl).mono ?_; exact Hv.out _; rintro e w' ⟨rfl, rfl⟩))
  all_goals go_ret
  all_goals refine ⟨Pk.ret_bool ?_, ?_⟩
  all_goals first | exact (Below.refl _ _).alloc (Nat.le_refl _) _ | skip
  all_goals unfold Pk.askOk
  all_goals first
    | (rw [decide_eq_false ‹¬(0 ≤ se ∧ se ≤ 4294967295)›]; simp; done)
    | (rw [decide_eq_false ‹¬(0 ≤ so ∧ so ≤ 4294967295)›]; simp; done)
    | (rw [decide_eq_false (p := 1 ≤ l.length) (by omega)]; simp; done)
    | (rw [decide_eq_false (p := l.length ≤ 300) (by omega)]; simp; done)
    | (rw [decide_eq_true ‹0 ≤ se ∧ se ≤ 4294967295›, decide_eq_true ‹0 ≤ so ∧ so ≤ 4294967295›, decide_eq_true (p := 1 ≤ l.length) (by omega), decide_eq_true (p := l.length ≤ 300) (by omega)]; simp; done)


theorem rowN_chg {T : Nat → Prop} {a b : World} {base e size n : Nat} {v : Value} {xs : List Value} (h : Chg T a b) (ho : a.ownsRow base e size v n xs) (hn : ∀ x, v.ownBlock = some x → ¬ T x) : b.ownsRow base e size v n xs := by
  have hl := ho.lt
  obtain ⟨h1, h2 | ⟨g, cap, cur, rfl, hb, hh, r⟩⟩ := ho
  · exact ⟨h1, .inl h2⟩
  · exact ⟨h1, .inr ⟨g, cap, cur, rfl, hb, (h.block g (hl g rfl).2 (hn g rfl)).trans hh, r⟩⟩
theorem rowN_mono {a : World} {base base' e size n : Nat} {v : Value} {xs : List Value} (ho : a.ownsRow base e size v n xs) (hb : base' ≤ base) : a.ownsRow base' e size v n xs := by
  obtain ⟨h1, h2 | ⟨g, cap, cur, rfl, hg, r⟩⟩ := ho
  · exact ⟨h1, .inl h2⟩
  · exact ⟨h1, .inr ⟨g, cap, cur, rfl, by omega, r⟩⟩

theorem allIn_mem {l : List Int} {m : Int} (h : allIn l m = true) : ∀ n ∈ l, 0 ≤ n ∧ n ≤ m := by
  intro n hn
  have := List.all_eq_true.1 h n hn
  simpa using this

set_option maxRecDepth 20000 in
set_option maxHeartbeats 4000000 in
theorem writeAsking_ok (se so : Int) (nv : Value) (l : List Int) (w : World) (hv : IsInts w.heap.size w nv l) (hok : askOk se so l = true) :
    Calls Try.prog 48 #[.agg #[.int .i64 se, .int .i64 so, nv]] w fun e w' => e = .returned (.tuple #[.string ⟨(askB se.toNat so.toNat (entriesF l)).toArray⟩, .int .i64 0]) ∧ Below w.heap.size w w' := by
  have Hv : Hid (∀ o, IsInts (w.alloc o).heap.size (w.alloc o) nv l) := fun o => (hv.alloc (Nat.le_refl _) o).mono (by simp)
  have Hv0 : Hid (IsInts w.heap.size w nv l) := hv
  have Hok : Hid (askOk se so l = true) := hok
  simp only [askOk, Bool.and_eq_true, decide_eq_true_eq] at hok
  obtain ⟨⟨⟨⟨h1, h2⟩, h3⟩, h4⟩, h5⟩ := hok
  have Hin : Hid (∀ n ∈ l, 0 ≤ n ∧ n ≤ 65535) := allIn_mem h5
  obtain ⟨ao, cap, rfl, _⟩ := hv
  obtain ⟨se, rfl⟩ := Int.eq_ofNat_of_zero_le h1.1
  obtain ⟨so, rfl⟩ := Int.eq_ofNat_of_zero_le h2.1
  rw [Int.toNat_natCast, Int.toNat_natCast]
  clear h5
  go_enter Try.func48, Try.ntmps48
  go_wp2_with fail
  refine (askingFits_any _ _ _ l _ (Hv.out _) (by omega)).mono ?_
  rintro e w1 ⟨rfl, hb1⟩
  rw [Hok.out]
  have hc1 := box_below hb1 w.heap.size (by simp)
  have hw1 : w.heap.size < w1.heap.size := by have := hb1.size; simp at this; omega
  have Hb1 : Hid (Below w.heap.size w w1) := ((Below.refl _ _).alloc (Nat.le_refl _) _).trans (hb1.mono (by simp))
  clear hb1
  go_wp2_with fail
  refine (makeEntries_any _ l _ ((Hv0.out.carry Hb1.out).mono (Nat.le_of_lt hw1)) h4 Hin.out).mono ?_
  rintro e w2 ⟨ev, rfl, hrow, hb2, hE, hEl⟩
  generalize hEE : entriesF l = E at *
  have HEE : Hid (entriesF l = E) := hEE
  obtain ⟨ae, ce, rfl⟩ := row_shapeN hrow
  have hc2 := box_below hb2 w.heap.size hw1
  have hw2 : w.heap.size < w2.heap.size := Nat.lt_of_lt_of_le hw1 hb2.size
  have Hb2 : Hid (Below w.heap.size w w2) := Hb1.out.trans (hb2.mono (Nat.le_of_lt hw1))
  have Hrow : Hid (w2.ownsRow w1.heap.size 135 2 (.slice ae E.length ce) E.length (flatE E)) := hrow
  have Hrl : Hid (∀ b, (Value.slice ae E.length ce).ownBlock = some b → b < w2.heap.size) := fun b hb => (hrow.lt b hb).2
  have HE : Hid (OkE E) := hE
  have hn : E.length ≤ 300 := by omega
  clear hb2 hrow hE hEE
  obtain ⟨L, hL⟩ : ∃ L : Nat, L = 12 + 4 * E.length := ⟨_, rfl⟩
  have hLi : 12 + 4 * (E.length : Int) = (L : Int) := by omega
  have HL : Hid (L = 12 + 4 * E.length) := hL
  have hLb : L ≤ 1212 ∧ 12 ≤ L := by omega
  obtain ⟨M, hM⟩ : ∃ M, M = 2 + E.length := ⟨_, rfl⟩
  have HM : Hid (M = 2 + E.length) := hM
  have hLq : ((L : Int) - 4) / 4 = (M : Int) := by omega
  have hMb : M ≤ 302 := by omega
  clear hL hM
  have hinfo : (Try.prog.info? 5).map (fun i => (i.zero, i.size, i.bytes)) = some (some (.int .u8 0), 1, 1) := by kernel_rfl
  obtain ⟨i0, hi, hz0, hz1, hz2⟩ := info_parts hinfo
  have Hm : Hid (i0.bytes * L ≤ 281474976710656) := by show _ ≤ _; rw [hz2]; omega
  have Hhi : Hid (Try.prog.info? 5 = some i0 ∧ i0.zero = some (.int .u8 0) ∧ i0.size = 1) := ⟨hi, hz0, hz1⟩
  clear hi hz0 hz1 hz2 hinfo
  go_wp2_with (at_make; refine wpList_make_own _ rfl (.const (.int .i64 0)) (.tmp 19) 56 rfl w.heap.size 5 i0 (.int .u8 0) 1 Try.underlying56 Hhi.out.1 Hhi.out.2.1 Hhi.out.2.2 .i64 .i64 _ L rfl rfl rfl Hm.out (by unfold maxLen; omega) (Nat.le_of_lt hw2) ?_; intro w3 hown3 hg3; have hc3 := box_grown_none hg3 w.heap.size hw2; refine stop_here ?_)
  have hw3 : w.heap.size < w3.heap.size := Nat.lt_of_lt_of_le hw2 hg3.size
  have hne : w.heap.size ≠ w2.heap.size := by omega
  have HB3 : Hid (Buf w3 w.heap.size w2.heap.size 0 L []) := ⟨rfl, hown3⟩
  have Hb3 : Hid (Below w.heap.size w w3) := Hb2.out.trans ((Below.refl _ _).grown hg3 (Nat.le_of_lt hw2) (by simp))
  have Hrow3 : Hid (w3.ownsRow w.heap.size 135 2 (.slice ae E.length ce) E.length (flatE E)) := rowN_mono (rowN_chg (Chg.ofGrown hg3) Hrow.out (fun _ _ e => by cases e)) (Nat.le_of_lt hw1)
  clear hown3 hg3 Hrow
  generalize w2.heap.size = g at *
  refine hid_in ?_
  go_wp2_with (at_builtin; (
    refine wl_bytes rfl (.tmp 21) (.tmp 22) rfl rfl (HB3.out.alloc _) _ 2 2 [129, 205] rfl rfl (cells_new _ [.int .u8 129, .int .u8 205] _) (by omega) ?_
    intro w4 hB4 hg4
    refine stop_here ?_))
  have hg4' : w3.grownBy w4 (some g) := (World.grownBy_alloc _ _ _).trans hg4
  have hc4 := box_kept hg4' w.heap.size hw3 hne
  have hw4 : w.heap.size < w4.heap.size := Nat.lt_of_lt_of_le hw3 hg4'.size
  have HB4 : Hid (Buf w4 w.heap.size g 2 L [129, 205]) := hB4
  have Hb4 : Hid (Below w.heap.size w w4) := Hb3.out.trans ((Below.refl _ _).grown hg4' (Nat.le_of_lt hw3) (by intro k hk; cases hk; omega))
  have Hrow4 : Hid (w4.ownsRow w.heap.size 135 2 (.slice ae E.length ce) E.length (flatE E)) := rowN_chg (Chg.ofGrown hg4') Hrow3.out (fun x hx e => by have := Hrl.out x hx; cases e; omega)
  clear hB4 hg4 hg4' HB3 Hb3 Hrow3
  refine hid_in ?_
  go_wp2_with fail
  refine (addNumber_any w.heap.size g 2 L _ M 2 _ (by omega) (by omega) (by omega) HB4.out).mono ?_
  rintro e w5 ⟨rfl, hB5, hg5⟩
  have hc5 := box_kept hg5 w.heap.size hw4 hne
  have hw5 : w.heap.size < w5.heap.size := Nat.lt_of_lt_of_le hw4 hg5.size
  have HB5 : Hid (Buf w5 w.heap.size g (2 + 2) L _) := hB5
  have Hb5 : Hid (Below w.heap.size w w5) := Hb4.out.trans ((Below.refl _ _).grown hg5 (Nat.le_of_lt hw4) (by intro k hk; cases hk; omega))
  have Hrow5 : Hid (w5.ownsRow w.heap.size 135 2 (.slice ae E.length ce) E.length (flatE E)) := rowN_chg (Chg.ofGrown hg5) Hrow4.out (fun x hx e => by have := Hrl.out x hx; cases e; omega)
  clear hB5 hg5 HB4 Hb4 Hrow4
  go_wp2_with fail
  refine (addNumber_any w.heap.size g 4 L _ se 4 _ (by omega) (by omega) (by omega) HB5.out).mono ?_
  rintro e w6 ⟨rfl, hB6, hg6⟩
  have hc6 := box_kept hg6 w.heap.size hw5 hne
  have hw6 : w.heap.size < w6.heap.size := Nat.lt_of_lt_of_le hw5 hg6.size
  have HB6 : Hid (Buf w6 w.heap.size g (4 + 4) L _) := hB6
  have Hb6 : Hid (Below w.heap.size w w6) := Hb5.out.trans ((Below.refl _ _).grown hg6 (Nat.le_of_lt hw5) (by intro k hk; cases hk; omega))
  have Hrow6 : Hid (w6.ownsRow w.heap.size 135 2 (.slice ae E.length ce) E.length (flatE E)) := rowN_chg (Chg.ofGrown hg6) Hrow5.out (fun x hx e => by have := Hrl.out x hx; cases e; omega)
  clear hB6 hg6 HB5 Hb5 Hrow5
  go_wp2_with fail
  refine (addNumber_any w.heap.size g 8 L _ so 4 _ (by omega) (by omega) (by omega) HB6.out).mono ?_
  rintro e w7 ⟨rfl, hB7, hg7⟩
  have hc7 := box_kept hg7 w.heap.size hw6 hne
  have hw7 : w.heap.size < w7.heap.size := Nat.lt_of_lt_of_le hw6 hg7.size
  have HB7 : Hid (Buf w7 w.heap.size g (8 + 4) L _) := hB7
  have Hb7 : Hid (Below w.heap.size w w7) := Hb6.out.trans ((Below.refl _ _).grown hg7 (Nat.le_of_lt hw6) (by intro k hk; cases hk; omega))
  have Hrow7 : Hid (w7.ownsRow w.heap.size 135 2 (.slice ae E.length ce) E.length (flatE E)) := rowN_chg (Chg.ofGrown hg7) Hrow6.out (fun x hx e => by have := Hrl.out x hx; cases e; omega)
  clear hB7 hg7 HB6 Hb6 Hrow6
  go_wp2
  go_loopw [6, 39] (fun s6 s39 wr => ∃ k : Nat, k ≤ E.length ∧ s39 = .int .i64 k ∧ s6 = .slice (some ⟨g, 0, none⟩) (12 + 4 * k) L ∧ Buf wr w.heap.size g (12 + 4 * k) L ([129, 205] ++ told M 2 ++ told se 4 ++ told so 4 ++ entB (E.take k)) ∧ wr.ownsRow w.heap.size 135 2 (.slice ae E.length ce) E.length (flatE E) ∧ Below w.heap.size w wr) (fun _ s39 _ => E.length - (intOf s39).toNat)
  case atStart => exact ⟨0, Nat.zero_le _, rfl, rfl, by have h := HB7.out; simpa [entB] using h, Hrow7.out, Hb7.out⟩
  case round =>
    obtain ⟨k, hk, rfl, rfl, hB, hrow, hb⟩ := hrel
    have HB : Hid (Buf wr w.heap.size g (12 + 4 * k) L ([129, 205] ++ told M 2 ++ told se 4 ++ told so 4 ++ entB (E.take k))) := hB
    have Hrow : Hid (wr.ownsRow w.heap.size 135 2 (.slice ae E.length ce) E.length (flatE E)) := hrow
    have Hb : Hid (Below w.heap.size w wr) := hb
    have hgl := hB.lt
    have hwr := hb.size
    by_cases hlt : k < E.length
    · have hlt' : (k : Int) < E.length := by omega
      obtain ⟨ge, rfl⟩ := row_some hrow (by omega)
      have hf := flatE_at E k hlt
      have d0 : wr.cell? ⟨ge, k * 2, none⟩ = some (.int .u16 (E[k]).1) := (hrow.cellAt (k * 2) (by omega)).trans hf.1
      have d1 : wr.cell? ⟨ge, k * 2 + 1, none⟩ = some (.int .u16 (E[k]).2) := (hrow.cellAt (k * 2 + 1) (by omega)).trans hf.2
      have hpr := HE.out (E[k]) (List.getElem_mem hlt)
      have Hes : Hid (entB (E.take (k + 1)) = entB (E.take k) ++ told (E[k]).1 2 ++ told (E[k]).2 2) := entB_succ E k hlt
      have hge : ge ≠ g := fun e => by have := Hrl.out ge rfl; omega
      generalize (E[k]).1 = p at *
      generalize (E[k]).2 = r at *
      have hkL : 12 + 4 * k + 4 ≤ L := by have := HL.out; omega
      clear hB hrow hb hf
      go_wp2_with fail
      refine (addNumber_any w.heap.size g (12 + 4 * k) L _ p 2 _ (by omega) (by omega) (by omega) (HB.out.alloc _)).mono ?_
      rintro e w8 ⟨rfl, hB8, hg8⟩
      have hc8 := box_kept hg8 wr.heap.size (by simp) (by omega)
      have HB8 : Hid (Buf w8 w.heap.size g (12 + 4 * k + 2) L _) := hB8
      have hw8 : wr.heap.size < w8.heap.size := by have := hg8.size; simp at this; omega
      have hg8' : wr.grownBy w8 (some g) := (World.grownBy_alloc _ _ _).trans hg8
      have Hb8 : Hid (Below w.heap.size w w8) := Hb.out.trans ((Below.refl _ _).grown hg8' hwr (by intro k hk; cases hk; omega))
      have Hrow8 : Hid (w8.ownsRow w.heap.size 135 2 (.slice (some ⟨ge, 0, none⟩) E.length ce) E.length (flatE E)) := rowN_chg (Chg.ofGrown hg8') Hrow.out (fun x hx e => by have := Hrl.out x hx; cases e; omega)
      clear hB8 hg8 hg8' d0 d1
      go_wp2_with fail
      refine (addNumber_any w.heap.size g (12 + 4 * k + 2) L _ r 2 _ (by omega) (by omega) (by omega) HB8.out).mono ?_
      rintro e w9 ⟨rfl, hB9, hg9⟩
      have Hb9 : Hid (Below w.heap.size w w9) := Hb8.out.trans ((Below.refl _ _).grown hg9 (by omega) (by intro k hk; cases hk; omega))
      have Hrow9 : Hid (w9.ownsRow w.heap.size 135 2 (.slice (some ⟨ge, 0, none⟩) E.length ce) E.length (flatE E)) := rowN_chg (Chg.ofGrown hg9) Hrow8.out (fun x hx e => by have := Hrl.out x hx; cases e; omega)
      have HB9 : Hid (Buf w9 w.heap.size g (12 + 4 * (k + 1)) L ([129, 205] ++ told M 2 ++ told se 4 ++ told so 4 ++ entB (E.take (k + 1)))) := by
        show Buf _ _ _ _ _ _
        rw [Hes.out, show 12 + 4 * (k + 1) = 12 + 4 * k + 2 + 2 by omega]
        simpa only [List.append_assoc] using hB9
      clear hB9 hg9 HB8 Hb8 Hrow8
      go_wp2
      go_roundw
      case rel => exact ⟨k + 1, by omega, by go_num, by congr 1, HB9.out, Hrow9.out, Hb9.out⟩
      case measure => simp [intOf]; omega
    · have hke : k = E.length := by omega
      subst hke
      have hlt' : ¬ (E.length : Int) < E.length := by omega
      have htx := run_text hB
      clear hB hrow hb
      go_wp2
      go_ret2
      refine ⟨ret_two ?_ rfl, Hb.out⟩
      rw [HEE.out, HM.out]
      simp [askB]

set_option maxHeartbeats 1000000 in
theorem writeAsking_no (se so : Int) (nv : Value) (l : List Int) (w : World) (hv : IsInts w.heap.size w nv l) (hl : l.length ≤ 17592186044416) (hok : askOk se so l = false) :
    Calls Try.prog 48 #[.agg #[.int .i64 se, .int .i64 so, nv]] w fun e w' => e = .returned (.tuple #[.string ⟨#[]⟩, .int .i64 2]) ∧ Below w.heap.size w w' := by
  have Hv : Hid (∀ o, IsInts (w.alloc o).heap.size (w.alloc o) nv l) := fun o => (hv.alloc (Nat.le_refl _) o).mono (by simp)
  have Hok : Hid (askOk se so l = false) := hok
  clear hok
  obtain ⟨ao, cap, rfl, _⟩ := hv
  go_enter Try.func48, Try.ntmps48
  go_wp2_with fail
  refine (askingFits_any _ _ _ l _ (Hv.out _) hl).mono ?_
  rintro e w1 ⟨rfl, hb1⟩
  rw [Hok.out]
  have Hb1 : Hid (Below w.heap.size w w1) := ((Below.refl _ _).alloc (Nat.le_refl _) _).trans (hb1.mono (by simp))
  clear hb1
  go_wp2
  go_ret2
  exact ⟨rfl, Hb1.out⟩

theorem writeAsking_any (se so : Int) (nv : Value) (l : List Int) (w : World) (hv : IsInts w.heap.size w nv l) (hl : l.length ≤ 17592186044416) :
    Calls Try.prog 48 #[.agg #[.int .i64 se, .int .i64 so, nv]] w fun e w' => e = .returned (.tuple #[.string (askR se so l).1, .int .i64 (askR se so l).2]) ∧ Below w.heap.size w w' := by
  unfold askR
  cases h : askOk se so l with
  | true => exact writeAsking_ok se so nv l w hv h
  | false => exact writeAsking_no se so nv l w hv hl h

set_option maxHeartbeats 1000000 in
theorem tellAsking_any (se so : Int) (nv : Value) (l : List Int) (w : World) (hv : IsInts w.heap.size w nv l) (hl : l.length ≤ 17592186044416) :
    Calls Try.prog 22 #[.agg #[.int .i64 se, .int .i64 so, nv]] w fun e w' => e = .returned (.tuple #[.string (askR se so l).1, .int .i64 (askR se so l).2]) ∧ Below w.heap.size w w' := by
  have Hv : Hid (∀ o, IsInts (w.alloc o).heap.size (w.alloc o) nv l) := fun o => (hv.alloc (Nat.le_refl _) o).mono (by simp)
  obtain ⟨ao, cap, rfl, _⟩ := hv
  go_enter Try.func22, Try.ntmps22
  go_wp2_with fail
  refine (writeAsking_any _ _ _ l _ (Hv.out _) hl).mono ?_
  rintro e w1 ⟨rfl, hb1⟩
  have Hb1 : Hid (Below w.heap.size w w1) := ((Below.refl _ _).alloc (Nat.le_refl _) _).trans (hb1.mono (by simp))
  clear hb1
  go_wp2
  go_ret2
  exact ⟨rfl, Hb1.out⟩

end Go.Proofs.Ytdjhhnolcafkiaa
