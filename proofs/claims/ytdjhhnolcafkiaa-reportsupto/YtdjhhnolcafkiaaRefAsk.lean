/- The document's TellAsking. -/
import Derived.Test.YtdjhhnolcafkiaaRefAskP
import Derived.Test.YtdjhhnolcafkiaaFindBits
import Derived.Test.YtdjhhnolcafkiaaAsks
import Derived.Deep.RegionHeld
import Derived.Outline
namespace Go.Proofs.Ytdjhhnolcafkiaa
open Go.RowKit
namespace Pk

theorem askR_no {se so : Int} {l : List Int} (h : askOk se so l = false) : askR se so l = (⟨#[]⟩, 2) := by
  unfold askR
  rw [if_neg (by rw [h]; simp)]
theorem askOk_no {se so : Int} {l : List Int} (h : ¬ ((0 ≤ se ∧ se ≤ 4294967295) ∧ (0 ≤ so ∧ so ≤ 4294967295) ∧ 1 ≤ l.length ∧ l.length ≤ 300)) : askOk se so l = false := by
  cases e : askOk se so l with
  | false => rfl
  | true =>
    simp only [askOk, Bool.and_eq_true, decide_eq_true_eq] at e
    exact absurd ⟨e.1.1.1.1, e.1.1.1.2, e.1.1.2, e.1.2⟩ h
theorem askOk_in {se so : Int} {l : List Int} (h : allIn l 65535 = false) : askOk se so l = false := by
  unfold askOk
  rw [h, Bool.and_false]
theorem entriesF_next (l : List Int) (i p : Nat) (E : List (Nat × Nat)) (hi : i < l.length) (hp : l.getD i 0 = p) (hE : entriesF (l.take i) = E) (hb : Brk E p) : entriesF (l.take (i + 1)) = E ++ [(p, 0)] := by
  rw [entriesF_succ l i hi, hE, hp, Int.toNat_natCast]
  exact hb

/-- the numbers taken into an entry, up to j -/
structure Grp (l : List Int) (E : List (Nat × Nat)) (p j : Nat) (S : List Nat) (more : Bool) : Prop where
  jl : j ≤ l.length
  ent : entriesF (l.take j) = E ++ [(p, orF S 0)]
  ran : ∀ d ∈ S, 1 ≤ d ∧ d ≤ 16
  len : S.length ≤ j
  stop : more = false → ∃ _h : j < l.length, ¬ (1 ≤ stepsTo (l.getD j 0).toNat p ∧ stepsTo (l.getD j 0).toNat p ≤ 16)
theorem Grp.brk {l : List Int} {E : List (Nat × Nat)} {p j : Nat} {S : List Nat} {more : Bool} (h : Grp l E p j S more) (hj : more = false ∨ j = l.length) : ∀ i, i = j → i < l.length → Brk (E ++ [(p, orF S 0)]) (l.getD i 0).toNat := by
  rintro i rfl hi
  rcases hj with hj | hj
  · obtain ⟨_, hn⟩ := h.stop hj
    exact pushE_no _ _ _ _ hn
  · omega

def mz : Value → Nat | .bool true => 1 | _ => 0
theorem Grp.add {l : List Int} {E : List (Nat × Nat)} {p j x : Nat} {S : List Nat} (h : Grp l E p j S true) (hj : j < l.length) (hx : l.getD j 0 = (x : Int)) (h1 : 1 ≤ stepsTo x p) (h2 : stepsTo x p ≤ 16) : Grp l E p (j + 1) (S ++ [stepsTo x p]) true := by
  refine ⟨by omega, ?_, ?_, ?_, fun e => by cases e⟩
  · rw [entriesF_succ l j hj, h.ent, hx, Int.toNat_natCast, pushE_yes _ _ _ _ h1 h2, orF_snoc]
  · intro d hd
    rcases List.mem_append.1 hd with hd | hd
    · exact h.ran d hd
    · simp at hd; subst hd; exact ⟨h1, h2⟩
  · have := h.len; simp; omega
theorem Grp.end {l : List Int} {E : List (Nat × Nat)} {p j x : Nat} {S : List Nat} (h : Grp l E p j S true) (hj : j < l.length) (hx : l.getD j 0 = (x : Int)) (hn : ¬ (1 ≤ stepsTo x p ∧ stepsTo x p ≤ 16)) : Grp l E p j S false :=
  ⟨h.jl, h.ent, h.ran, h.len, fun _ => ⟨hj, by rw [hx, Int.toNat_natCast]; exact hn⟩⟩
theorem entB_snoc (E : List (Nat × Nat)) (p b : Nat) : entB (E ++ [(p, b)]) = entB E ++ told p 2 ++ told b 2 := by
  unfold entB
  rw [List.flatMap_append]
  simp
theorem map_snoc (S : List Nat) (d : Nat) : (S ++ [d]).map (fun n : Nat => (n : Int)) = S.map (fun n : Nat => (n : Int)) ++ [(d : Int)] := by simp

theorem fold_len : ∀ (l : List Int) (E : List (Nat × Nat)), (l.foldl (fun E n => pushE E n.toNat) E).length ≤ E.length + l.length := by
  intro l
  induction l with
  | nil => intro E; simp
  | cons n l ih =>
    intro E
    have h1 := (pushE_len E n.toNat).1
    have h2 := ih (pushE E n.toNat)
    rw [List.foldl_cons, List.length_cons]
    omega

end Pk
open Pk

set_option maxRecDepth 20000 in
set_option maxHeartbeats 8000000 in
theorem refAsk_any (se so : Int) (nv : Value) (l : List Int) (w : World) (hv : IsInts w.heap.size w nv l) (hl : l.length ≤ 17592186044416) :
    Calls Try.prog 41 #[.agg #[.int .i64 se, .int .i64 so, nv]] w fun e w' => e = .returned (.tuple #[.string (askR se so l).1, .int .i64 (askR se so l).2]) ∧ Below w.heap.size w w' := by
  obtain ⟨ao, cap, rfl, hc⟩ := hv
  have Hc : Hid (∀ j, j < l.length → ∃ b off, ao = some ⟨b, off, none⟩ ∧ b < w.heap.size ∧ w.cell? ⟨b, off + j, none⟩ = some (.int .i64 (l.getD j 0))) := hc
  clear hc
  by_cases hall : (0 ≤ se ∧ se ≤ 4294967295) ∧ (0 ≤ so ∧ so ≤ 4294967295) ∧ 1 ≤ l.length ∧ l.length ≤ 300
  case neg =>
    have HA : Hid (askR se so l = (⟨#[]⟩, 2)) := askR_no (askOk_no hall)
    have Hw : Hid (Below w.heap.size w (w.alloc (.cells #[.int .i64 se, .int .i64 so, .slice ao l.length cap] 40))) := (Below.refl _ _).alloc (Nat.le_refl _) _
    by_cases h1 : 0 ≤ se ∧ se ≤ 4294967295
    case neg =>
      clear hall
      go_enter Try.func41, Try.ntmps41
      go_wp2_with fail
      refine (refIn_any _ _ _).mono ?_
      rintro e w1 ⟨rfl, rfl⟩
      rw [decide_eq_false h1]
      go_wp2_with fail
      refine (refIn_any _ _ _).mono ?_
      rintro e w1 ⟨rfl, rfl⟩
      generalize decide (0 ≤ so ∧ so ≤ 4294967295) = b2
      go_wp2
      go_ret2
      rw [HA.out]
      exact ⟨rfl, Hw.out⟩
    by_cases h2 : 0 ≤ so ∧ so ≤ 4294967295
    case neg =>
      clear hall
      go_enter Try.func41, Try.ntmps41
      go_wp2_with fail
      refine (refIn_any _ _ _).mono ?_
      rintro e w1 ⟨rfl, rfl⟩
      rw [decide_eq_true h1]
      go_wp2_with fail
      refine (refIn_any _ _ _).mono ?_
      rintro e w1 ⟨rfl, rfl⟩
      rw [decide_eq_false h2]
      go_wp2
      go_ret2
      rw [HA.out]
      exact ⟨rfl, Hw.out⟩
    by_cases h3 : 1 ≤ l.length
    case neg =>
      clear hall
      have h3i : (l.length : Int) < 1 := by omega
      go_enter Try.func41, Try.ntmps41
      go_wp2_with fail
      refine (refIn_any _ _ _).mono ?_
      rintro e w1 ⟨rfl, rfl⟩
      rw [decide_eq_true h1]
      go_wp2_with fail
      refine (refIn_any _ _ _).mono ?_
      rintro e w1 ⟨rfl, rfl⟩
      rw [decide_eq_true h2]
      go_wp2
      go_ret2
      rw [HA.out]
      exact ⟨rfl, Hw.out⟩
    have h3i : ¬ (l.length : Int) < 1 := by omega
    have h4i : (300 : Int) < l.length := by omega
    clear hall
    go_enter Try.func41, Try.ntmps41
    go_wp2_with fail
    refine (refIn_any _ _ _).mono ?_
    rintro e w1 ⟨rfl, rfl⟩
    rw [decide_eq_true h1]
    go_wp2_with fail
    refine (refIn_any _ _ _).mono ?_
    rintro e w1 ⟨rfl, rfl⟩
    rw [decide_eq_true h2]
    go_wp2
    go_ret2
    rw [HA.out]
    exact ⟨rfl, Hw.out⟩
  obtain ⟨h1, h2, h3, h4⟩ := hall
  have h3i : ¬ (l.length : Int) < 1 := by omega
  have h4i : ¬ (300 : Int) < l.length := by omega
  go_enter Try.func41, Try.ntmps41
  go_wp2_with fail
  refine (refIn_any _ _ _).mono ?_
  rintro e w1 ⟨rfl, rfl⟩
  rw [decide_eq_true h1]
  go_wp2_with fail
  refine (refIn_any _ _ _).mono ?_
  rintro e w1 ⟨rfl, rfl⟩
  rw [decide_eq_true h2]
  go_wp2
  obtain ⟨W1, hW1⟩ : ∃ W1, W1 = w.alloc (.cells #[.int .i64 se, .int .i64 so, .slice ao l.length cap] 40) := ⟨_, rfl⟩
  rw [← hW1]
  have hx0 : W1.cell? ⟨w.heap.size, 0, none⟩ = some (.int .i64 se) := by rw [hW1]; exact cell_new _ _ _ 0
  have hx1 : W1.cell? ⟨w.heap.size, 1, none⟩ = some (.int .i64 so) := by rw [hW1]; exact cell_new _ _ _ 1
  have hx2 : W1.cell? ⟨w.heap.size, 2, none⟩ = some (.slice ao l.length cap) := by rw [hW1]; exact cell_new _ _ _ 2
  have HW1 : Hid (Below w.heap.size w W1) := by show Below _ _ _; rw [hW1]; exact (Below.refl _ _).alloc (Nat.le_refl _) _
  have hW1s : w.heap.size < W1.heap.size := by rw [hW1]; simp
  clear hW1
  go_loopw [6] (fun s6 wr => ∃ k : Nat, k ≤ l.length ∧ s6 = .int .i64 k ∧ wr = W1 ∧ allIn (l.take k) 65535 = true) (fun s6 _ => l.length - (intOf s6).toNat)
  case atStart => exact ⟨0, Nat.zero_le _, rfl, rfl, rfl⟩
  case round =>
    obtain ⟨k, hk, rfl, rfl, hin⟩ := hrel
    have Hin : Hid (allIn (l.take k) 65535 = true) := hin
    clear hin
    by_cases hlt : k < l.length
    · have hlt' : (k : Int) < l.length := by omega
      obtain ⟨b, off, rfl, hb, hx⟩ := Hc.out k hlt
      have hx' := (HW1.out.cell (p := ⟨b, off + k, none⟩) hb).trans hx
      obtain ⟨q, hq⟩ : ∃ q, l.getD k 0 = q := ⟨_, rfl⟩
      have Hq : Hid (l.getD k 0 = q) := hq
      have Hsu : Hid (allIn (l.take (k + 1)) 65535 = (allIn (l.take k) 65535 && decide (0 ≤ l.getD k 0 ∧ l.getD k 0 ≤ 65535))) := allIn_take_succ l k 65535 hlt
      rw [hq] at hx' Hsu
      clear hq hx
      go_wp2_with fail
      refine (refIn_any _ _ _).mono ?_
      rintro e w1 ⟨rfl, rfl⟩
      by_cases hr : 0 ≤ q ∧ q ≤ 65535
      · rw [decide_eq_true hr]
        have hQ : allIn (l.take (k + 1)) 65535 = true := by rw [Hsu.out, Hin.out, decide_eq_true hr]; rfl
        have HQ : Hid (allIn (l.take (k + 1)) 65535 = true) := hQ
        clear hQ
        go_wp2
        go_roundw
        case rel => exact ⟨k + 1, by omega, by go_num, trivial, HQ.out⟩
        case measure => simp [intOf]; omega
      · rw [decide_eq_false hr]
        have HA : Hid (askR se so l = (⟨#[]⟩, 2)) := askR_no (askOk_in (allIn_false l (k + 1) 65535 (by rw [Hsu.out, decide_eq_false hr, Bool.and_false])))
        go_wp2
        go_ret2
        rw [HA.out]
        exact ⟨rfl, HW1.out⟩
    · have hlt' : ¬ (k : Int) < l.length := by omega
      have hke : k = l.length := by omega
      have hin := Hin.out
      rw [hke, List.take_of_length_le (Nat.le_refl _)] at hin
      have HAll : Hid (∀ n ∈ l, 0 ≤ n ∧ n ≤ 65535) := allIn_mem hin
      have HA : Hid (askR se so l = (⟨(askB se.toNat so.toNat (entriesF l)).toArray⟩, 0)) := by
        show _ = _
        unfold askR
        rw [if_pos]
        unfold askOk
        rw [decide_eq_true h1, decide_eq_true h2, decide_eq_true h3, decide_eq_true h4, hin]
        rfl
      clear hin Hin
      have hx0' : Hid (∀ W, Below (w.heap.size + 1) wr W → W.cell? ⟨w.heap.size, 0, none⟩ = some (.int .i64 se)) := fun W hW => (hW.cell (p := ⟨w.heap.size, 0, none⟩) (Nat.lt_succ_self _)).trans hx0
      have hx1' : Hid (∀ W, Below (w.heap.size + 1) wr W → W.cell? ⟨w.heap.size, 1, none⟩ = some (.int .i64 so)) := fun W hW => (hW.cell (p := ⟨w.heap.size, 1, none⟩) (Nat.lt_succ_self _)).trans hx1
      have hx2' : Hid (∀ W, Below (w.heap.size + 1) wr W → W.cell? ⟨w.heap.size, 2, none⟩ = some (.slice ao l.length cap)) := fun W hW => (hW.cell (p := ⟨w.heap.size, 2, none⟩) (Nat.lt_succ_self _)).trans hx2
      clear hx0 hx1
      go_wp2
      clear hx2
      generalize hw1 : wr = W1 at *
      clear hw1 hlt hlt' hk
      go_loopw [8, 9] (fun s8 s9 wr => ∃ (i : Nat) (t : ByteArray) (E : List (Nat × Nat)), i ≤ l.length ∧ s8 = .string t ∧ s9 = .int .i64 i ∧ t.data.toList = entB E ∧ entriesF (l.take i) = E ∧ E.length ≤ i ∧ (∀ j, j = i → j < l.length → Brk E (l.getD j 0).toNat) ∧ Below (w.heap.size + 1) W1 wr) (fun _ s9 _ => l.length - (intOf s9).toNat)
      case atStart => exact ⟨0, ⟨#[]⟩, [], Nat.zero_le _, rfl, rfl, rfl, rfl, Nat.le_refl _, fun j _ _ => rfl, Below.refl _ _⟩
      case round =>
        obtain ⟨i, t, E, hi, rfl, rfl, ht, hE, hEl, hbrk, hbel⟩ := hrel
        have Ht : Hid (t.data.toList = entB E) := ht
        have hts : t.size = 4 * E.length := by rw [Lib.size_eq, ht, entB_length]
        have hts' : t.size ≤ 1200 := by omega
        have HE : Hid (entriesF (l.take i) = E) := hE
        have Hbrk : Hid (∀ j, j = i → j < l.length → Brk E (l.getD j 0).toNat) := hbrk
        have Hbel : Hid (Below (w.heap.size + 1) W1 wr) := hbel
        have Hts : Hid (t.size = 4 * E.length) := hts
        have hwr := hbel.size
        have hx2 := hx2'.out wr hbel
        clear ht hE hbrk hbel hts
        by_cases hlt : i < l.length
        · have hlt' : (i : Int) < l.length := by omega
          obtain ⟨b, off, rfl, hb, hx⟩ := Hc.out i hlt
          have hx' := (Hbel.out.cell (p := ⟨b, off + i, none⟩) (by simp only; omega)).trans ((HW1.out.cell (p := ⟨b, off + i, none⟩) hb).trans hx)
          obtain ⟨p, hp⟩ : ∃ p : Nat, l.getD i 0 = (p : Int) := by
            have := HAll.out (l.getD i 0) (by rw [List.getD_eq_getElem?_getD, List.getElem?_eq_getElem hlt]; exact List.getElem_mem hlt)
            exact ⟨_, (Int.toNat_of_nonneg this.1).symm⟩
          have hp16 : p < 65536 := by
            have := HAll.out (l.getD i 0) (by rw [List.getD_eq_getElem?_getD, List.getElem?_eq_getElem hlt]; exact List.getElem_mem hlt)
            omega
          have HG : Hid (Grp l E p (i + 1) [] true) := by
            refine ⟨by omega, ?_, fun d hd => by simp at hd, by simp, fun e => by cases e⟩
            refine entriesF_next l i p E hlt hp HE.out ?_
            have := Hbrk.out i rfl hlt
            rwa [hp, Int.toNat_natCast] at this
          rw [hp] at hx'
          clear hx hp
          go_wp2
          clear hx2 hx'
          go_loopw [9, 11, 12] (fun s9 s11 s12 wi => ∃ (j : Nat) (S : List Nat) (more : Bool), s9 = .int .i64 j ∧ s12 = .bool more ∧ OwnInts wi (w.heap.size + 1) s11 (S.map fun n : Nat => (n : Int)) ∧ Grp l E p j S more ∧ i + 1 ≤ j ∧ Below (w.heap.size + 1) W1 wi) (fun s9 _ s12 _ => 2 * (l.length - (intOf s9).toNat) + mz s12)
          case atStart => exact ⟨i + 1, [], true, by go_num, rfl, World.ownsRow_nil _ _ _ _, HG.out, Nat.le_refl _, Hbel.out⟩
          case round =>
            clear Hbel
            obtain ⟨j, S, more, rfl, rfl, hown, hG, hij, hbel⟩ := hrel
            obtain ⟨a1, c1, rfl⟩ := hown.shape
            rw [List.length_map] at hown ⊢
            have Hown : Hid (OwnInts wr (w.heap.size + 1) (.slice a1 S.length c1) (S.map fun n : Nat => (n : Int))) := hown
            have HG : Hid (Grp l E p j S more) := hG
            have hjl := hG.jl
            have hSl := hG.len
            have Hbel : Hid (Below (w.heap.size + 1) W1 wr) := hbel
            have hwr := hbel.size
            have hx2 := hx2'.out wr hbel
            clear hown hG hbel
            by_cases hgo : more = true ∧ j < l.length
            · obtain ⟨rfl, hjlt⟩ := hgo
              have hjlt' : (j : Int) < l.length := by omega
              obtain ⟨b', off', hbo, _, hx⟩ := Hc.out j hjlt
              simp only [Option.some.injEq, Addr.mk.injEq, and_true] at hbo
              obtain ⟨rfl, rfl⟩ := hbo
              have hx' := (Hbel.out.cell (p := ⟨b, off + j, none⟩) (by simp only; omega)).trans ((HW1.out.cell (p := ⟨b, off + j, none⟩) hb).trans hx)
              obtain ⟨x, hxx⟩ : ∃ x : Nat, l.getD j 0 = (x : Int) := by
                have := HAll.out (l.getD j 0) (by rw [List.getD_eq_getElem?_getD, List.getElem?_eq_getElem hjlt]; exact List.getElem_mem hjlt)
                exact ⟨_, (Int.toNat_of_nonneg this.1).symm⟩
              have hx16 : x < 65536 := by
                have := HAll.out (l.getD j 0) (by rw [List.getD_eq_getElem?_getD, List.getElem?_eq_getElem hjlt]; exact List.getElem_mem hjlt)
                omega
              have Hxx : Hid (l.getD j 0 = (x : Int)) := hxx
              have Hrs : Hid (((x : Int) - (p : Int)) % 65536 = (stepsTo x p : Int)) := round_steps x p hx16 hp16
              rw [hxx] at hx'
              clear hx hxx
              go_wp2_with fail
              refine (refRound_any _ _).mono ?_
              rintro e w1 ⟨rfl, hw1⟩
              rw [hw1, Hrs.out]
              clear hw1 w1
              obtain ⟨d, hd⟩ : ∃ d, stepsTo x p = d := ⟨_, rfl⟩
              have Hd : Hid (stepsTo x p = d) := hd
              rw [hd]
              by_cases hr : 1 ≤ d ∧ d ≤ 16
              · obtain ⟨hr1, hr2⟩ := hr
                have HG2 : Hid (Grp l E p (j + 1) (S ++ [d]) true) := by
                  have := HG.out.add hjlt Hxx.out (by omega) (by omega)
                  rwa [hd] at this
                clear hd
                go_wp2_with (at_builtin; (
                  refine wpList_append_int rfl (.tmp 92) (.tmp 94) rfl (w.heap.size + 1) _ (S.map fun n : Nat => (n : Int)) (d : Int) rfl (Hown.out.alloc _) _ 1 rfl ?_ (by simp; omega) (by simp; omega) ?_
                  · exact cell_one_new _ _ _ 0 _ rfl
                  intro v' w2 hown' hgrow _
                  refine stop_here ?_))
                have R1 : Hid (OwnInts w2 (w.heap.size + 1) v' ((S ++ [d]).map fun n : Nat => (n : Int))) := by show OwnInts _ _ _ _; rw [map_snoc]; exact hown'
                have R2 : Hid (Below (w.heap.size + 1) W1 w2) := (Hbel.out.alloc (by omega) _).grown hgrow (by simp; omega) (fun x hx => (World.ownsRow.lt Hown.out x hx).1)
                obtain ⟨a2, c2, rfl⟩ := hown'.shape
                clear hown' hgrow hx2 hx'
                refine hid_in ?_
                go_wp2
                go_roundw
                case rel => exact ⟨j + 1, S ++ [d], true, by go_num, rfl, R1.out, HG2.out, by omega, R2.out⟩
                case measure => simp [intOf, mz]; omega
              · have HG2 : Hid (Grp l E p j S false) := HG.out.end hjlt Hxx.out (by rw [hd]; exact hr)
                clear hd
                by_cases hr1 : 1 ≤ d
                · have hr1' : (1 : Int) ≤ d := by omega
                  have hr2' : decide ((d : Int) ≤ 16) = false := decide_eq_false (by omega)
                  clear hr
                  go_wp2
                  go_roundw
                  case rel => exact ⟨j, S, false, rfl, rfl, Hown.out, HG2.out, by omega, Hbel.out⟩
                  case measure => simp [intOf, mz]
                · have hr1' : ¬ (1 : Int) ≤ d := by omega
                  clear hr
                  go_wp2
                  go_roundw
                  case rel => exact ⟨j, S, false, rfl, rfl, Hown.out, HG2.out, by omega, Hbel.out⟩
                  case measure => simp [intOf, mz]
            · have Hend : Hid (more = false ∨ j = l.length) := by
                show _ ∨ _
                cases more
                · exact .inl rfl
                · exact .inr (by have : ¬ j < l.length := fun h => hgo ⟨rfl, h⟩; omega)
              have Hown2 : Hid (∀ m, m < S.length → ∃ b2 o2, a1 = some ⟨b2, o2, none⟩ ∧ wr.cell? ⟨b2, o2 + m, none⟩ = some (.int .i64 (S.getD m 0 : Nat))) := by
                intro m hm
                obtain ⟨aa, cc, he, hh⟩ := OwnInts.isInts Hown.out
                simp only [Value.slice.injEq] at he
                obtain ⟨rfl, _, rfl⟩ := he
                obtain ⟨b2, o2, rfl, _, hx⟩ := hh m (by simpa using hm)
                refine ⟨b2, o2, rfl, hx.trans ?_⟩
                simp [List.getD, hm]
              have hO16 := orF_lt S HG.out.ran 0 (by omega)
              have Hbits : Hid (∀ k, (orF S 0).testBit k = S.contains (k + 1)) := fun k => by
                have := orF_bit S k (fun d hd => (HG.out.ran d hd).1) 0
                rw [this]
                simp
              have hS300 : S.length ≤ 300 := by omega
              have HBR : Hid (∀ i, i = j → i < l.length → Brk (E ++ [(p, orF S 0)]) (l.getD i 0).toNat) := HG.out.brk Hend.out
              clear Hown Hend
              rcases (show more = false ∨ (more = true ∧ ¬ j < l.length) by
                cases more
                · exact .inl rfl
                · exact .inr ⟨rfl, fun h => hgo ⟨rfl, h⟩⟩) with rfl | ⟨rfl, hjn⟩
              · clear hx2
                go_wp2
                go_loopw [14, 15, 16] (fun s14 s15 s16 wi => ∃ d : Nat, 1 ≤ d ∧ d ≤ 17 ∧ s14 = .int .i64 ((orF S 0 % 2 ^ (d - 1) : Nat) : Int) ∧ s15 = .int .i64 ((2 ^ (d - 1) : Nat) : Int) ∧ s16 = .int .i64 d ∧ wi = wr) (fun _ _ s16 _ => 17 - (intOf s16).toNat)
                case atStart => exact ⟨1, by omega, by omega, by simp [Nat.mod_one], rfl, rfl, rfl⟩
                case round =>
                  obtain ⟨d, hd1, hd2, rfl, rfl, rfl, rfl⟩ := hrel
                  by_cases hd : d ≤ 16
                  · have hd' : (d : Int) ≤ 16 := by omega
                    have hnx := mod_next (orF S 0) (d - 1)
                    rw [Hbits.out (d - 1), show d - 1 + 1 = d by omega] at hnx
                    have hU2 : (2 : Nat) ^ d = 2 * 2 ^ (d - 1) := by rw [← Nat.pow_succ', show (d - 1).succ = d by omega]
                    have hUl : (2 : Nat) ^ (d - 1) ≤ 2 ^ 15 := Nat.pow_le_pow_right (by omega) (by omega)
                    have hBl : orF S 0 % 2 ^ (d - 1) ≤ orF S 0 := Nat.mod_le _ _
                    have Hnx : Hid (orF S 0 % 2 ^ d = orF S 0 % 2 ^ (d - 1) + (if S.contains d = true then 2 ^ (d - 1) else 0)) := hnx
                    have HU2 : Hid ((2 : Nat) ^ d = 2 * 2 ^ (d - 1)) := hU2
                    clear hnx hU2
                    generalize hBB : orF S 0 % 2 ^ (d - 1) = B at *
                    generalize hUU : (2 : Nat) ^ (d - 1) = U at *
                    have HBB : Hid (orF S 0 % 2 ^ (d - 1) = B) := by show _ = _; rw [hUU]; exact hBB
                    clear hBB
                    have HUU : Hid ((2 : Nat) ^ (d - 1) = U) := hUU
                    clear hUU
                    go_wp2
                    go_loopw [14, 17] (fun s14 s17 wi => ∃ k : Nat, k ≤ S.length ∧ s14 = .int .i64 B ∧ s17 = .int .i64 k ∧ (∀ m, m < k → S.getD m 0 ≠ d) ∧ wi = wr) (fun _ s17 _ => S.length - (intOf s17).toNat)
                    case atStart => exact ⟨0, Nat.zero_le _, rfl, rfl, fun m hm => absurd hm (by omega), rfl⟩
                    case round =>
                      obtain ⟨k, hk, rfl, rfl, hno, rfl⟩ := hrel
                      have Hno : Hid (∀ m, m < k → S.getD m 0 ≠ d) := hno
                      clear hno
                      by_cases hks : k < S.length
                      · have hks' : (k : Int) < S.length := by omega
                        obtain ⟨b2, o2, rfl, hcl⟩ := Hown2.out k hks
                        obtain ⟨q, hq⟩ : ∃ q, S.getD k 0 = q := ⟨_, rfl⟩
                        have Hq : Hid (S.getD k 0 = q) := hq
                        rw [hq] at hcl
                        clear hq
                        by_cases hqd : q = d
                        · have hqd' : ((q : Int) == (d : Int)) = true := by simp [hqd]
                          have hcon : S.contains d = true := by
                            rw [List.contains_iff_mem, ← hqd, ← Hq.out, List.getD_eq_getElem?_getD, List.getElem?_eq_getElem hks]
                            exact List.getElem_mem hks
                          have Hcon : Hid (S.contains d = true) := hcon
                          clear hqd hcon
                          go_wp2
                          go_roundw
                          case rel => exact ⟨d + 1, by omega, by omega, by rw [show d + 1 - 1 = d by omega, Hnx.out, if_pos Hcon.out]; go_num, by rw [show d + 1 - 1 = d by omega, HU2.out]; go_num, by go_num, trivial⟩
                          case measure => simp [intOf]; omega
                        · have hqd' : ((q : Int) == (d : Int)) = false := by rw [beq_eq_false_iff_ne]; omega
                          go_wp2
                          go_roundw
                          case rel => exact ⟨k + 1, by omega, rfl, by go_num, fun m hm => by
                            rcases Nat.lt_or_ge m k with h | h
                            · exact Hno.out m h
                            · rw [show m = k by omega, Hq.out]; exact hqd, trivial⟩
                          case measure => simp [intOf]; omega
                      · have hks' : ¬ (k : Int) < S.length := by omega
                        have hcon : ¬ S.contains d = true := by
                          rw [List.contains_iff_mem]
                          intro hm
                          obtain ⟨m, hm1, hm2⟩ := List.mem_iff_getElem.1 hm
                          exact Hno.out m (by omega) (by rw [List.getD_eq_getElem?_getD, List.getElem?_eq_getElem hm1]; exact hm2)
                        have Hcon : Hid (¬ S.contains d = true) := hcon
                        clear hcon
                        go_wp2
                        go_roundw
                        case rel => exact ⟨d + 1, by omega, by omega, by rw [show d + 1 - 1 = d by omega, Hnx.out, if_neg Hcon.out]; rfl, by rw [show d + 1 - 1 = d by omega, HU2.out]; go_num, by go_num, trivial⟩
                        case measure => simp [intOf]; omega
                  · have hd' : ¬ (d : Int) ≤ 16 := by omega
                    have hd17 : d = 17 := by omega
                    subst hd17
                    have hfin : orF S 0 % 2 ^ (17 - 1) = orF S 0 := Nat.mod_eq_of_lt (by omega)
                    rw [hfin]
                    have Hent := HG.out.ent
                    generalize orF S 0 = B at *
                    have HEl : E.length + 1 ≤ j := by
                      have h1 : (entriesF (l.take j)).length ≤ (l.take j).length := by
                        have := (fold_len (l.take j) [])
                        simpa [entriesF] using this
                      rw [Hent, List.length_append, List.length_take] at h1
                      simp at h1
                      omega
                    have HEnt : Hid (entriesF (l.take j) = E ++ [(p, B)]) := Hent
                    have Hbr2 : Hid (∀ i, i = j → i < l.length → Brk (E ++ [(p, B)]) (l.getD i 0).toNat) := HBR.out
                    clear Hent hfin
                    go_wp2_with fail
                    refine (refTold_any 2 p _ (by omega) (by omega)).mono ?_
                    rintro e w1 ⟨⟨t1, rfl, ht1⟩, hb1⟩
                    have hs1 : t1.size = 2 := by rw [Lib.size_eq, ht1, told_length]
                    have Ht1 : Hid (t1.data.toList = told p 2) := ht1
                    have Hb1 : Hid (Below (w.heap.size + 1) W1 w1) := Hbel.out.trans (hb1.mono (by omega))
                    have hw1 : W1.heap.size ≤ w1.heap.size := Hb1.out.size
                    clear ht1 hb1
                    go_wp2_with fail
                    refine (refTold_any 2 B _ (by omega) (by omega)).mono ?_
                    rintro e w2 ⟨⟨t2, rfl, ht2⟩, hb2⟩
                    have hs2 : t2.size = 2 := by rw [Lib.size_eq, ht2, told_length]
                    have Ht2 : Hid (t2.data.toList = told B 2) := ht2
                    have Hb2 : Hid (Below (w.heap.size + 1) W1 w2) := Hb1.out.trans (hb2.mono (by omega))
                    clear ht2 hb2
                    go_wp2
                    go_roundw
                    case rel => exact ⟨j, t ++ t1 ++ t2, E ++ [(p, B)], by omega, rfl, rfl, by rw [append_list, append_list, Ht.out, Ht1.out, Ht2.out, entB_snoc], HEnt.out, by simp; omega, Hbr2.out, Hb2.out⟩
                    case measure => simp [intOf]; omega
              · have hjn' : ¬ (j : Int) < l.length := by omega
                go_wp2
                clear hx2
                go_loopw [14, 15, 16] (fun s14 s15 s16 wi => ∃ d : Nat, 1 ≤ d ∧ d ≤ 17 ∧ s14 = .int .i64 ((orF S 0 % 2 ^ (d - 1) : Nat) : Int) ∧ s15 = .int .i64 ((2 ^ (d - 1) : Nat) : Int) ∧ s16 = .int .i64 d ∧ wi = wr) (fun _ _ s16 _ => 17 - (intOf s16).toNat)
                case atStart => exact ⟨1, by omega, by omega, by simp [Nat.mod_one], rfl, rfl, rfl⟩
                case round =>
                  obtain ⟨d, hd1, hd2, rfl, rfl, rfl, rfl⟩ := hrel
                  by_cases hd : d ≤ 16
                  · have hd' : (d : Int) ≤ 16 := by omega
                    have hnx := mod_next (orF S 0) (d - 1)
                    rw [Hbits.out (d - 1), show d - 1 + 1 = d by omega] at hnx
                    have hU2 : (2 : Nat) ^ d = 2 * 2 ^ (d - 1) := by rw [← Nat.pow_succ', show (d - 1).succ = d by omega]
                    have hUl : (2 : Nat) ^ (d - 1) ≤ 2 ^ 15 := Nat.pow_le_pow_right (by omega) (by omega)
                    have hBl : orF S 0 % 2 ^ (d - 1) ≤ orF S 0 := Nat.mod_le _ _
                    have Hnx : Hid (orF S 0 % 2 ^ d = orF S 0 % 2 ^ (d - 1) + (if S.contains d = true then 2 ^ (d - 1) else 0)) := hnx
                    have HU2 : Hid ((2 : Nat) ^ d = 2 * 2 ^ (d - 1)) := hU2
                    clear hnx hU2
                    generalize hBB : orF S 0 % 2 ^ (d - 1) = B at *
                    generalize hUU : (2 : Nat) ^ (d - 1) = U at *
                    have HBB : Hid (orF S 0 % 2 ^ (d - 1) = B) := by show _ = _; rw [hUU]; exact hBB
                    clear hBB
                    have HUU : Hid ((2 : Nat) ^ (d - 1) = U) := hUU
                    clear hUU
                    go_wp2
                    go_loopw [14, 17] (fun s14 s17 wi => ∃ k : Nat, k ≤ S.length ∧ s14 = .int .i64 B ∧ s17 = .int .i64 k ∧ (∀ m, m < k → S.getD m 0 ≠ d) ∧ wi = wr) (fun _ s17 _ => S.length - (intOf s17).toNat)
                    case atStart => exact ⟨0, Nat.zero_le _, rfl, rfl, fun m hm => absurd hm (by omega), rfl⟩
                    case round =>
                      obtain ⟨k, hk, rfl, rfl, hno, rfl⟩ := hrel
                      have Hno : Hid (∀ m, m < k → S.getD m 0 ≠ d) := hno
                      clear hno
                      by_cases hks : k < S.length
                      · have hks' : (k : Int) < S.length := by omega
                        obtain ⟨b2, o2, rfl, hcl⟩ := Hown2.out k hks
                        obtain ⟨q, hq⟩ : ∃ q, S.getD k 0 = q := ⟨_, rfl⟩
                        have Hq : Hid (S.getD k 0 = q) := hq
                        rw [hq] at hcl
                        clear hq
                        by_cases hqd : q = d
                        · have hqd' : ((q : Int) == (d : Int)) = true := by simp [hqd]
                          have hcon : S.contains d = true := by
                            rw [List.contains_iff_mem, ← hqd, ← Hq.out, List.getD_eq_getElem?_getD, List.getElem?_eq_getElem hks]
                            exact List.getElem_mem hks
                          have Hcon : Hid (S.contains d = true) := hcon
                          clear hqd hcon
                          go_wp2
                          go_roundw
                          case rel => exact ⟨d + 1, by omega, by omega, by rw [show d + 1 - 1 = d by omega, Hnx.out, if_pos Hcon.out]; go_num, by rw [show d + 1 - 1 = d by omega, HU2.out]; go_num, by go_num, trivial⟩
                          case measure => simp [intOf]; omega
                        · have hqd' : ((q : Int) == (d : Int)) = false := by rw [beq_eq_false_iff_ne]; omega
                          go_wp2
                          go_roundw
                          case rel => exact ⟨k + 1, by omega, rfl, by go_num, fun m hm => by
                            rcases Nat.lt_or_ge m k with h | h
                            · exact Hno.out m h
                            · rw [show m = k by omega, Hq.out]; exact hqd, trivial⟩
                          case measure => simp [intOf]; omega
                      · have hks' : ¬ (k : Int) < S.length := by omega
                        have hcon : ¬ S.contains d = true := by
                          rw [List.contains_iff_mem]
                          intro hm
                          obtain ⟨m, hm1, hm2⟩ := List.mem_iff_getElem.1 hm
                          exact Hno.out m (by omega) (by rw [List.getD_eq_getElem?_getD, List.getElem?_eq_getElem hm1]; exact hm2)
                        have Hcon : Hid (¬ S.contains d = true) := hcon
                        clear hcon
                        go_wp2
                        go_roundw
                        case rel => exact ⟨d + 1, by omega, by omega, by rw [show d + 1 - 1 = d by omega, Hnx.out, if_neg Hcon.out]; rfl, by rw [show d + 1 - 1 = d by omega, HU2.out]; go_num, by go_num, trivial⟩
                        case measure => simp [intOf]; omega
                  · have hd' : ¬ (d : Int) ≤ 16 := by omega
                    have hd17 : d = 17 := by omega
                    subst hd17
                    have hfin : orF S 0 % 2 ^ (17 - 1) = orF S 0 := Nat.mod_eq_of_lt (by omega)
                    rw [hfin]
                    have Hent := HG.out.ent
                    generalize orF S 0 = B at *
                    have HEl : E.length + 1 ≤ j := by
                      have h1 : (entriesF (l.take j)).length ≤ (l.take j).length := by
                        have := (fold_len (l.take j) [])
                        simpa [entriesF] using this
                      rw [Hent, List.length_append, List.length_take] at h1
                      simp at h1
                      omega
                    have HEnt : Hid (entriesF (l.take j) = E ++ [(p, B)]) := Hent
                    have Hbr2 : Hid (∀ i, i = j → i < l.length → Brk (E ++ [(p, B)]) (l.getD i 0).toNat) := HBR.out
                    clear Hent hfin
                    go_wp2_with fail
                    refine (refTold_any 2 p _ (by omega) (by omega)).mono ?_
                    rintro e w1 ⟨⟨t1, rfl, ht1⟩, hb1⟩
                    have hs1 : t1.size = 2 := by rw [Lib.size_eq, ht1, told_length]
                    have Ht1 : Hid (t1.data.toList = told p 2) := ht1
                    have Hb1 : Hid (Below (w.heap.size + 1) W1 w1) := Hbel.out.trans (hb1.mono (by omega))
                    have hw1 : W1.heap.size ≤ w1.heap.size := Hb1.out.size
                    clear ht1 hb1
                    go_wp2_with fail
                    refine (refTold_any 2 B _ (by omega) (by omega)).mono ?_
                    rintro e w2 ⟨⟨t2, rfl, ht2⟩, hb2⟩
                    have hs2 : t2.size = 2 := by rw [Lib.size_eq, ht2, told_length]
                    have Ht2 : Hid (t2.data.toList = told B 2) := ht2
                    have Hb2 : Hid (Below (w.heap.size + 1) W1 w2) := Hb1.out.trans (hb2.mono (by omega))
                    clear ht2 hb2
                    go_wp2
                    go_roundw
                    case rel => exact ⟨j, t ++ t1 ++ t2, E ++ [(p, B)], by omega, rfl, rfl, by rw [append_list, append_list, Ht.out, Ht1.out, Ht2.out, entB_snoc], HEnt.out, by simp; omega, Hbr2.out, Hb2.out⟩
                    case measure => simp [intOf]; omega
        · have hlt' : ¬ (i : Int) < l.length := by omega
          have hil : i = l.length := by omega
          have hEl2 := HE.out
          rw [hil, List.take_of_length_le (Nat.le_refl _)] at hEl2
          rw [hEl2] at HA
          have HA' : Hid (askR se so l = (⟨(askB se.toNat so.toNat E).toArray⟩, 0)) := HA
          have hq4 : (t.size : Int) / 4 = (E.length : Int) := by have := Hts.out; omega
          obtain ⟨sn, rfl⟩ := Int.eq_ofNat_of_zero_le h1.1
          obtain ⟨tn, rfl⟩ := Int.eq_ofNat_of_zero_le h2.1
          have hy0 := hx0'.out wr Hbel.out
          have hy1 := hx1'.out wr Hbel.out
          have hE3 : E.length ≤ 300 := by omega
          have hwa : IntKind.i64.wrap (E.length : Int) = (E.length : Int) := wrapI64 _ (by omega) (by omega)
          have hwb : IntKind.i64.wrap (2 + (E.length : Int)) = ((2 + E.length : Nat) : Int) := by rw [wrapI64 _ (by omega) (by omega)]; omega
          have Hsum : Hid (Below w.heap.size w wr) := HW1.out.trans (Hbel.out.mono (Nat.le_succ _))
          have hs0 := Hsum.out.size
          have hsl : w.heap.size < wr.heap.size := by omega
          clear HA hEl2
          go_wp2
          refine wp_region_noPanic ?_
          refine wp_region_held_drew (S := fun W => W.cell? ⟨w.heap.size, 0, none⟩ = some (.int .i64 (sn : Int)) ∧ W.cell? ⟨w.heap.size, 1, none⟩ = some (.int .i64 (tn : Int))) (by kernel_rfl) ⟨hy0, hy1⟩ (fun hHeld => ?_)
          refine wpAnyH_take (i := 0) (v := ?vt1) rfl (by kernel_rfl) (by kernel_rfl) (by kernel_rfl) (fun _ _ _ h => h) (Or.inl ⟨by rfl, ?yt1⟩) hHeld ?rt1
          case yt1 => ((intro W hSw; obtain ⟨hS0, hS1⟩ := hSw; go_simp) <;> with_reducible rfl)
          try simp only [Act.put]
          try simp only [List.getElem_toArray]
          try simp only [List.getElem_cons_succ]
          try simp only [List.getElem_cons_zero]
          try simp only [List.setIfInBounds_toArray]
          try simp only [List.set_cons_succ]
          try simp only [List.set_cons_zero]
          refine wpAnyH_take (i := 1) (v := ?vt2) rfl (by kernel_rfl) (by kernel_rfl) (by kernel_rfl) (fun _ _ _ h => h) (Or.inl ⟨by rfl, ?yt2⟩) hHeld ?rt2
          case yt2 => ((intro W hSw; obtain ⟨hS0, hS1⟩ := hSw; go_simp) <;> with_reducible rfl)
          try simp only [Act.put]
          try simp only [List.getElem_toArray]
          try simp only [List.getElem_cons_succ]
          try simp only [List.getElem_cons_zero]
          try simp only [List.setIfInBounds_toArray]
          try simp only [List.set_cons_succ]
          try simp only [List.set_cons_zero]
          refine wpAnyH_take (i := 2) (v := ?vt3) rfl (by kernel_rfl) (by kernel_rfl) (by kernel_rfl) (fun _ _ _ h => h) (Or.inl ⟨by rfl, ?yt3⟩) hHeld ?rt3
          case yt3 => ((intro W hSw; obtain ⟨hS0, hS1⟩ := hSw; go_simp) <;> with_reducible rfl)
          try simp only [Act.put]
          try simp only [List.getElem_toArray]
          try simp only [List.getElem_cons_succ]
          try simp only [List.getElem_cons_zero]
          try simp only [List.setIfInBounds_toArray]
          try simp only [List.set_cons_succ]
          try simp only [List.set_cons_zero]
          refine wpAnyH_take (i := 3) (v := ?vt4) rfl (by kernel_rfl) (by kernel_rfl) (by kernel_rfl) (fun _ _ _ h => h) (Or.inl ⟨by rfl, ?yt4⟩) hHeld ?rt4
          case yt4 => ((intro W hSw; obtain ⟨hS0, hS1⟩ := hSw; go_simp) <;> with_reducible rfl)
          try simp only [Act.put]
          try simp only [List.getElem_toArray]
          try simp only [List.getElem_cons_succ]
          try simp only [List.getElem_cons_zero]
          try simp only [List.setIfInBounds_toArray]
          try simp only [List.set_cons_succ]
          try simp only [List.set_cons_zero]
          refine wpAnyH_take (i := 6) (v := ?vt5) rfl (by kernel_rfl) (by kernel_rfl) (by kernel_rfl) (fun _ _ _ h => h) (Or.inl ⟨by rfl, ?yt5⟩) hHeld ?rt5
          case yt5 => ((intro W hSw; obtain ⟨hS0, hS1⟩ := hSw; go_simp) <;> with_reducible rfl)
          try simp only [Act.put]
          try simp only [List.getElem_toArray]
          try simp only [List.getElem_cons_succ]
          try simp only [List.getElem_cons_zero]
          try simp only [List.setIfInBounds_toArray]
          try simp only [List.set_cons_succ]
          try simp only [List.set_cons_zero]
          refine wpAnyH_take (i := 7) (v := ?vt6) rfl (by kernel_rfl) (by kernel_rfl) (by kernel_rfl) (fun _ _ _ h => h) (Or.inl ⟨by rfl, ?yt6⟩) hHeld ?rt6
          case yt6 => ((intro W hSw; obtain ⟨hS0, hS1⟩ := hSw; go_simp) <;> with_reducible rfl)
          try simp only [Act.put]
          try simp only [List.getElem_toArray]
          try simp only [List.getElem_cons_succ]
          try simp only [List.getElem_cons_zero]
          try simp only [List.setIfInBounds_toArray]
          try simp only [List.set_cons_succ]
          try simp only [List.set_cons_zero]
          refine wpAnyH_take (i := 10) (v := ?vt7) rfl (by kernel_rfl) (by kernel_rfl) (by kernel_rfl) (fun _ _ _ h => h) (Or.inl ⟨by rfl, ?yt7⟩) hHeld ?rt7
          case yt7 => ((intro W hSw; obtain ⟨hS0, hS1⟩ := hSw; go_simp) <;> with_reducible rfl)
          try simp only [Act.put]
          try simp only [List.getElem_toArray]
          try simp only [List.getElem_cons_succ]
          try simp only [List.getElem_cons_zero]
          try simp only [List.setIfInBounds_toArray]
          try simp only [List.set_cons_succ]
          try simp only [List.set_cons_zero]
          refine wpAnyH_take (i := 11) (v := ?vt8) rfl (by kernel_rfl) (by kernel_rfl) (by kernel_rfl) (fun _ _ _ h => h) (Or.inl ⟨by rfl, ?yt8⟩) hHeld ?rt8
          case yt8 => ((intro W hSw; obtain ⟨hS0, hS1⟩ := hSw; go_simp) <;> with_reducible rfl)
          try simp only [Act.put]
          try simp only [List.getElem_toArray]
          try simp only [List.getElem_cons_succ]
          try simp only [List.getElem_cons_zero]
          try simp only [List.setIfInBounds_toArray]
          try simp only [List.set_cons_succ]
          try simp only [List.set_cons_zero]
          refine wpAnyH_take (i := 14) (v := ?vt9) rfl (by kernel_rfl) (by kernel_rfl) (by kernel_rfl) (fun _ _ _ h => h) (Or.inl ⟨by rfl, ?yt9⟩) hHeld ?rt9
          case yt9 => ((intro W hSw; obtain ⟨hS0, hS1⟩ := hSw; go_simp) <;> with_reducible rfl)
          try simp only [Act.put]
          try simp only [List.getElem_toArray]
          try simp only [List.getElem_cons_succ]
          try simp only [List.getElem_cons_zero]
          try simp only [List.setIfInBounds_toArray]
          try simp only [List.set_cons_succ]
          try simp only [List.set_cons_zero]
          refine wpAnyH_ready (rs := [4]) (by kernel_rfl) (by simp) ?_
          refine AllReadyH.cons rfl (fun K hK => ?_) AllReadyH.nil
          go_simp
          refine (refTold_any 2 (2 + E.length) _ (by omega) (by omega)).mono ?_
          rintro e w1 ⟨⟨t1, rfl, ht1⟩, hb1⟩
          have hs1 : t1.size = 2 := by rw [Lib.size_eq, ht1, told_length]
          have Ht1 : Hid (t1.data.toList = told (2 + E.length) 2) := ht1
          have hz0 := (hb1.cell (p := ⟨w.heap.size, 0, none⟩) (by simpa using hsl)).trans hy0
          have hz1 := (hb1.cell (p := ⟨w.heap.size, 1, none⟩) (by simpa using hsl)).trans hy1
          have Hb1 : Hid (Below w.heap.size w w1) := Hsum.out.drew.trans (hb1.mono hs0)
          have hsl1 : w.heap.size < w1.heap.size := Nat.lt_of_lt_of_le hsl hb1.size
          clear ht1 hb1 hy0 hy1
          go_wp2_with fail
          refine hK.out _ _ ⟨hz0, hz1⟩ (fun hHeld => ?_)
          clear hK K
          refine wpAnyH_take (i := 5) (v := ?vt10) rfl (by kernel_rfl) (by kernel_rfl) (by kernel_rfl) (fun _ _ _ h => h) (Or.inl ⟨by rfl, ?yt10⟩) hHeld ?rt10
          case yt10 => ((intro W hSw; obtain ⟨hS0, hS1⟩ := hSw; go_simp) <;> with_reducible rfl)
          try simp only [Act.put]
          try simp only [List.getElem_toArray]
          try simp only [List.getElem_cons_succ]
          try simp only [List.getElem_cons_zero]
          try simp only [List.setIfInBounds_toArray]
          try simp only [List.set_cons_succ]
          try simp only [List.set_cons_zero]
          refine wpAnyH_ready (rs := [8]) (by kernel_rfl) (by simp) ?_
          refine AllReadyH.cons rfl (fun K hK => ?_) AllReadyH.nil
          go_simp
          refine (refTold_any 4 sn _ (by omega) (by omega)).mono ?_
          rintro e w2 ⟨⟨t2, rfl, ht2⟩, hb2⟩
          have hs2 : t2.size = 4 := by rw [Lib.size_eq, ht2, told_length]
          have Ht2 : Hid (t2.data.toList = told sn 4) := ht2
          have hz0' := (hb2.cell (p := ⟨w.heap.size, 0, none⟩) hsl1).trans hz0
          have hz1' := (hb2.cell (p := ⟨w.heap.size, 1, none⟩) hsl1).trans hz1
          have Hb2 : Hid (Below w.heap.size w w2) := Hb1.out.trans (hb2.mono (Nat.le_of_lt hsl1))
          have hsl2 : w.heap.size < w2.heap.size := Nat.lt_of_lt_of_le hsl1 hb2.size
          clear ht2 hb2 hz0 hz1
          go_wp2_with fail
          refine hK.out _ _ ⟨hz0', hz1'⟩ (fun hHeld => ?_)
          clear hK K
          refine wpAnyH_take (i := 9) (v := ?vt11) rfl (by kernel_rfl) (by kernel_rfl) (by kernel_rfl) (fun _ _ _ h => h) (Or.inl ⟨by rfl, ?yt11⟩) hHeld ?rt11
          case yt11 => ((intro W hSw; obtain ⟨hS0, hS1⟩ := hSw; go_simp) <;> with_reducible rfl)
          try simp only [Act.put]
          try simp only [List.getElem_toArray]
          try simp only [List.getElem_cons_succ]
          try simp only [List.getElem_cons_zero]
          try simp only [List.setIfInBounds_toArray]
          try simp only [List.set_cons_succ]
          try simp only [List.set_cons_zero]
          refine wpAnyH_ready (rs := [12]) (by kernel_rfl) (by simp) ?_
          refine AllReadyH.cons rfl (fun K hK => ?_) AllReadyH.nil
          go_simp
          refine (refTold_any 4 tn _ (by omega) (by omega)).mono ?_
          rintro e w3 ⟨⟨t3, rfl, ht3⟩, hb3⟩
          have hs3 : t3.size = 4 := by rw [Lib.size_eq, ht3, told_length]
          have Ht3 : Hid (t3.data.toList = told tn 4) := ht3
          have hz0 := (hb3.cell (p := ⟨w.heap.size, 0, none⟩) hsl2).trans hz0'
          have hz1 := (hb3.cell (p := ⟨w.heap.size, 1, none⟩) hsl2).trans hz1'
          have Hb3 : Hid (Below w.heap.size w w3) := Hb2.out.trans (hb3.mono (Nat.le_of_lt hsl2))
          clear ht3 hb3 hz0' hz1'
          go_wp2_with fail
          refine hK.out _ _ ⟨hz0, hz1⟩ (fun hHeld => ?_)
          clear hK K
          have hnt : ¬ 9223372036854775807 < 12 + t.size := by omega
          refine wpAnyH_take (i := 13) (v := ?vt12) rfl (by kernel_rfl) (by kernel_rfl) (by kernel_rfl) (fun _ _ _ h => h) (Or.inl ⟨by rfl, ?yt12⟩) hHeld ?rt12
          case yt12 => ((intro W hSw; obtain ⟨hS0, hS1⟩ := hSw; go_simp) <;> with_reducible rfl)
          try simp only [Act.put]
          try simp only [List.getElem_toArray]
          try simp only [List.getElem_cons_succ]
          try simp only [List.getElem_cons_zero]
          try simp only [List.setIfInBounds_toArray]
          try simp only [List.set_cons_succ]
          try simp only [List.set_cons_zero]
          refine wpAnyH_take (i := 15) (v := ?vt13) rfl (by kernel_rfl) (by kernel_rfl) (by kernel_rfl) (fun _ _ _ h => h) (Or.inl ⟨by rfl, ?yt13⟩) hHeld ?rt13
          case yt13 => ((intro W hSw; obtain ⟨hS0, hS1⟩ := hSw; go_simp) <;> with_reducible rfl)
          try simp only [Act.put]
          try simp only [List.getElem_toArray]
          try simp only [List.getElem_cons_succ]
          try simp only [List.getElem_cons_zero]
          try simp only [List.setIfInBounds_toArray]
          try simp only [List.set_cons_succ]
          try simp only [List.set_cons_zero]
          refine wpAnyH_take (i := 16) (v := ?vt14) rfl (by kernel_rfl) (by kernel_rfl) (by kernel_rfl) (fun _ _ _ h => h) (Or.inl ⟨by rfl, ?yt14⟩) hHeld ?rt14
          case yt14 => ((intro W hSw; obtain ⟨hS0, hS1⟩ := hSw; go_simp) <;> with_reducible rfl)
          try simp only [Act.put]
          try simp only [List.getElem_toArray]
          try simp only [List.getElem_cons_succ]
          try simp only [List.getElem_cons_zero]
          try simp only [List.setIfInBounds_toArray]
          try simp only [List.set_cons_succ]
          try simp only [List.set_cons_zero]
          refine wpAnyH_take (i := 17) (v := ?vt15) rfl (by kernel_rfl) (by kernel_rfl) (by kernel_rfl) (fun _ _ _ h => h) (Or.inl ⟨by rfl, ?yt15⟩) hHeld ?rt15
          case yt15 => ((intro W hSw; obtain ⟨hS0, hS1⟩ := hSw; go_simp) <;> with_reducible rfl)
          try simp only [Act.put]
          try simp only [List.getElem_toArray]
          try simp only [List.getElem_cons_succ]
          try simp only [List.getElem_cons_zero]
          try simp only [List.setIfInBounds_toArray]
          try simp only [List.set_cons_succ]
          try simp only [List.set_cons_zero]
          refine wpAnyH_done (by kernel_rfl) ?_ _
          refine NoPanic.normal ?_
          go_wp2
          go_ret2
          rw [HA'.out]
          refine ⟨ret_two (ba_ext ?_) rfl, Hb3.out⟩
          rw [append_list, append_list, append_list, append_list, Ht.out, Ht1.out, Ht2.out, Ht3.out]
          simp [askB]

end Go.Proofs.Ytdjhhnolcafkiaa
