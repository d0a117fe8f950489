/-
  Whatever texts and packets it is given, menderlaw.Packets returns true and leaves its arguments as they were: ParsePacket of every text and TellPacket of every packet answer what the document answers, and the lists that come out are their owner's. Where what it reads is of bulk at most 1048576.
-/
import Derived.Test.YtdjhhnolcafkiaaRows
import Derived.Test.YtdjhhnolcafkiaaPacketsW
import Derived.ProofKit
import Derived.OpenShut
import Derived.ShutString
import Derived.ChangeOld
import Derived.Below
import Derived.JoinedCond
import Derived.Deep.Slices
namespace Go.Proofs.Ytdjhhnolcafkiaa
open Go.ChangeShapes Go.WideShapes Go.ChangeAt Go.RowKit Go.Deep
namespace Ps

theorem own : ownKnob Try.prog.godebug = none := by kernel_rfl
theorem laidOut : laidOutB Try.prog = true := by kernel_rfl

/-! what the bound gives -/
theorem bulk_pos {H : Type} (d : DataW H) : 0 < Rows.uptoBulk d := by
  cases d with
  | lit l => cases l <;> simp [Rows.uptoBulk]
  | _ => simp [Rows.uptoBulk]
theorem bulk_len {H : Type} : ∀ l : List (DataW H), l.length ≤ Rows.uptoBulkAll l
  | [] => Nat.zero_le _
  | d :: r => by have h1 := bulk_len r; have h2 := bulk_pos d; rw [Rows.uptoBulkAll, List.length_cons]; omega
theorem bulk_mem {H : Type} {d : DataW H} : ∀ {l : List (DataW H)}, d ∈ l → Rows.uptoBulk d ≤ Rows.uptoBulkAll l
  | x :: r, h => by
    rw [Rows.uptoBulkAll]
    rcases List.mem_cons.1 h with rfl | h
    · omega
    · have := bulk_mem h; omega
theorem bulk_row {H : Type} (a b : List (DataW H)) : Rows.uptoBulkAll a + 1 ≤ Rows.uptoBulk (.slice a b) := by rw [Rows.uptoBulk]; omega
theorem bulk_agg {H : Type} (a : List (DataW H)) : Rows.uptoBulkAll a ≤ Rows.uptoBulk (.agg a) := by rw [Rows.uptoBulk]; omega

section
variable {H : Type} {enc : TypeId × Value → H} {W : World} {base : Nat} {spare : Nat → Bool} {held : Bool}

theorem text_in {fuel : Nat} {c : Value} {x : DataW H × List MemPlace} (h : DataW.trod enc Try.prog W base spare held fuel 9 [c] = some x) : ∃ s : ByteArray, c = .string s ∧ s.size + 1 ≤ Rows.uptoBulk x.1 := by
  obtain ⟨s, e, hx, _⟩ := DataW.trod_string Try.underlying9 h
  simp only [List.cons.injEq, and_true] at e
  refine ⟨s, e, ?_⟩
  rw [hx, Rows.uptoBulk, Lib.size_eq]
  exact Nat.le_refl _

/-- the texts that came in -/
theorem texts_in {fuel : Nat} {c : Value} {x : DataW H × List MemPlace} (h : DataW.trod enc Try.prog W base spare held fuel 22 [c] = some x) (hk : Rows.uptoBulk x.1 ≤ 1048576) :
    ∃ ta tn tc, c = .slice ta tn tc ∧ tn ≤ 1048576 ∧ ∀ i, i < tn → ∃ b off s, ta = some ⟨b, off, none⟩ ∧ b < W.heap.size ∧ W.cell? ⟨b, off + i, none⟩ = some (.string s) ∧ s.size ≤ 1048576 := by
  rcases open_slice1 Try.underlying22 (by kernel_rfl) h with ⟨hcs, _⟩ | ⟨a, len, cap, m, n, V, D, Pl, hcs, _, hl, hm, hmm, rfl, hx⟩
  · simp only [List.cons.injEq, and_true] at hcs
    exact ⟨none, 0, 0, hcs, Nat.zero_le _, fun i hi => absurd hi (by omega)⟩
  · simp only [List.cons.injEq, and_true] at hcs
    have hlm : len ≤ m := by rw [hmm]; split <;> omega
    have hb1 := bulk_row ((List.range len).map D) ((List.range (m - len)).map fun j => D (len + j))
    have hb2 := bulk_len ((List.range len).map D)
    rw [List.length_map, List.length_range] at hb2
    simp only at hk
    refine ⟨some a, len, cap, hcs, by omega, fun i hi => ?_⟩
    obtain ⟨h1, h2⟩ := hx i (by omega)
    obtain ⟨s, hs, hsb⟩ := text_in h2
    have hb3 := bulk_mem (d := D i) (l := (List.range len).map D) (List.mem_map.2 ⟨i, List.mem_range.2 hi, rfl⟩)
    obtain ⟨b, off, spot⟩ := a
    have hspot : spot = none := by simpa [Addr.add] using World.cell?_spot (hx 0 (by omega)).1
    subst hspot
    rw [add_plain, hs] at h1
    exact ⟨b, off, s, rfl, Pk.lt_of_cell h1, h1, by simp only at hsb; omega⟩

/-- a list of numbers that came in -/
theorem ints_in {fuel : Nat} {c : Value} {x : DataW H × List MemPlace} (h : DataW.trod enc Try.prog W base spare held fuel 27 [c] = some x) :
    ∃ l : List Int, Pk.IsInts W.heap.size W c l ∧ l.length ≤ Rows.uptoBulk x.1 := by
  rcases open_ints Try.underlying27 Try.underlying3 (by kernel_rfl) h with ⟨hcs, _⟩ | ⟨a, len, cap, zs, hcs, _, hl, hm, hz, _, hcell, hwz⟩
  · simp only [List.cons.injEq, and_true] at hcs
    subst hcs
    exact ⟨[], ⟨none, 0, rfl, fun j hj => absurd hj (by simp)⟩, Nat.zero_le _⟩
  · simp only [List.cons.injEq, and_true] at hcs
    subst hcs
    have hlz : len ≤ zs.length := by split at hz <;> omega
    have hlen : (zs.take len).length = len := by rw [List.length_take]; omega
    have hbk : len ≤ Rows.uptoBulk x.1 := by
      rcases open_slice1 Try.underlying27 (by kernel_rfl) h with ⟨hcs, _⟩ | ⟨a', len', cap', m, n, V, D, Pl, hcs, _, hl', hm', hmm, rfl, hx⟩
      · simp at hcs
      · simp only [List.cons.injEq, and_true, Value.slice.injEq] at hcs
        have hb1 := bulk_row ((List.range len').map D) ((List.range (m - len')).map fun j => D (len' + j))
        have hb2 := bulk_len ((List.range len').map D)
        rw [List.length_map, List.length_range] at hb2
        have := hcs.2.1
        simp only
        omega
    refine ⟨zs.take len, ⟨some a, cap, by rw [hlen], fun j hj => ?_⟩, by rw [hlen]; exact hbk⟩
    rw [hlen] at hj
    obtain ⟨b, off, rfl, hcells⟩ := ints_at hcell (by omega)
    have h1 := hcells j (by omega)
    refine ⟨b, off, rfl, Pk.lt_of_cell h1, ?_⟩
    rw [h1]
    simp [List.getD, hj]

theorem list11 {cs : List Value} (h : cs.length = 11) : ∃ c0 c1 c2 c3 c4 c5 c6 c7 c8 c9 c10, cs = [c0, c1, c2, c3, c4, c5, c6, c7, c8, c9, c10] := by
  match cs, h with
  | [c0, c1, c2, c3, c4, c5, c6, c7, c8, c9, c10], _ => exact ⟨c0, c1, c2, c3, c4, c5, c6, c7, c8, c9, c10, rfl⟩

set_option maxRecDepth 100000 in
/-- a packet that came in -/
theorem packet_in {fuel : Nat} {cs : List Value} {x : DataW H × List MemPlace} (h : DataW.trod enc Try.prog W base spare held fuel 33 cs = some x) (hk : Rows.uptoBulk x.1 ≤ 1048576) :
    ∃ (mk ex : Bool) (ty nu ti so pr pd : Int) (cv : Value) (cl : List Int) (en py : ByteArray), cs = [.bool mk, .int .i64 ty, .int .i64 nu, .int .i64 ti, .int .i64 so, cv, .bool ex, .int .i64 pr, .string en, .string py, .int .i64 pd] ∧
      Pk.IsInts W.heap.size W cv cl ∧ cl.length ≤ 1048576 ∧ en.size ≤ 1048576 ∧ py.size ≤ 1048576 := by
  have hC : Try.prog.cellsOf 33 = 11 := by kernel_rfl
  obtain ⟨xs, n, _, rfl, hcl, hxl, hx⟩ := DataW.trod_struct Try.underlying33 h
  obtain ⟨c0, c1, c2, c3, c4, c5, c6, c7, c8, c9, c10, rfl⟩ := list11 (hcl.trans hC)
  have k4 : Try.prog.cellsOf 4 = 1 := by kernel_rfl
  have k3 : Try.prog.cellsOf 3 = 1 := by kernel_rfl
  have k9 : Try.prog.cellsOf 9 = 1 := by kernel_rfl
  have k27 : Try.prog.cellsOf 27 = 1 := by kernel_rfl
  have hlen : xs.length = 11 := hxl
  have at_ : ∀ i, i < 11 → ∃ y, xs[i]? = some y := fun i hi => ⟨xs[i], List.getElem?_eq_getElem (by omega)⟩
  obtain ⟨z0, g0⟩ := at_ 0 (by omega); obtain ⟨z1, g1⟩ := at_ 1 (by omega); obtain ⟨z2, g2⟩ := at_ 2 (by omega); obtain ⟨z3, g3⟩ := at_ 3 (by omega)
  obtain ⟨z4, g4⟩ := at_ 4 (by omega); obtain ⟨z5, g5⟩ := at_ 5 (by omega); obtain ⟨z6, g6⟩ := at_ 6 (by omega); obtain ⟨z7, g7⟩ := at_ 7 (by omega)
  obtain ⟨z8, g8⟩ := at_ 8 (by omega); obtain ⟨z9, g9⟩ := at_ 9 (by omega); obtain ⟨z10, g10⟩ := at_ 10 (by omega)
  have e0 := (hx 0 _ rfl).trans g0; have e1 := (hx 1 _ rfl).trans g1; have e2 := (hx 2 _ rfl).trans g2; have e3 := (hx 3 _ rfl).trans g3
  have e4 := (hx 4 _ rfl).trans g4; have e5 := (hx 5 _ rfl).trans g5; have e6 := (hx 6 _ rfl).trans g6; have e7 := (hx 7 _ rfl).trans g7
  have e8 := (hx 8 _ rfl).trans g8; have e9 := (hx 9 _ rfl).trans g9; have e10 := (hx 10 _ rfl).trans g10
  simp [k4, k3, k9, k27] at e0 e1 e2 e3 e4 e5 e6 e7 e8 e9 e10
  have hb := bulk_agg (xs.map (·.1))
  simp only at hk
  have mem : ∀ (i : Nat) (z : DataW H × List MemPlace), xs[i]? = some z → Rows.uptoBulk z.1 ≤ 1048576 := fun i z hz => by
    have := bulk_mem (d := z.1) (l := xs.map (·.1)) (List.mem_map.2 ⟨z, List.mem_of_getElem? hz, rfl⟩)
    omega
  obtain ⟨mk, m0, _⟩ := DataW.trod_bool Try.underlying4 e0
  obtain ⟨ty, m1, _, _⟩ := DataW.trod_int Try.underlying3 e1
  obtain ⟨nu, m2, _, _⟩ := DataW.trod_int Try.underlying3 e2
  obtain ⟨ti, m3, _, _⟩ := DataW.trod_int Try.underlying3 e3
  obtain ⟨so, m4, _, _⟩ := DataW.trod_int Try.underlying3 e4
  obtain ⟨cl, i1, i2⟩ := ints_in e5
  obtain ⟨ex, m6, _⟩ := DataW.trod_bool Try.underlying4 e6
  obtain ⟨pr, m7, _, _⟩ := DataW.trod_int Try.underlying3 e7
  obtain ⟨en, m8, w8⟩ := text_in e8
  obtain ⟨py, m9, w9⟩ := text_in e9
  obtain ⟨pd, m10, _, _⟩ := DataW.trod_int Try.underlying3 e10
  simp only [List.cons.injEq, and_true] at m0 m1 m2 m3 m4 m6 m7 m10
  subst m0 m1 m2 m3 m4 m6 m7 m8 m9 m10
  have b5 := mem 5 _ g5
  have b8 := mem 8 _ g8
  have b9 := mem 9 _ g9
  exact ⟨mk, ex, ty, nu, ti, so, pr, pd, c5, cl, en, py, rfl, i1, by omega, by omega, by omega⟩

/-- the packets that came in -/
theorem packets_in {fuel : Nat} {c : Value} {x : DataW H × List MemPlace} (h : DataW.trod enc Try.prog W base spare held fuel 23 [c] = some x) (hk : Rows.uptoBulk x.1 ≤ 1048576) :
    ∃ pa pn pc, c = .slice pa pn pc ∧ pn ≤ 1048576 ∧ ∀ i, i < pn → ∃ b off, pa = some ⟨b, off, none⟩ ∧ b < W.heap.size ∧ ∃ mk ex ty nu ti so pr pd cv cl en py, Pk.At W b (off + i * 11) mk ex ty nu ti so pr pd cv en py ∧ Pk.IsInts W.heap.size W cv cl ∧ cl.length ≤ 1048576 ∧ en.size ≤ 1048576 ∧ py.size ≤ 1048576 := by
  have hC : Try.prog.cellsOf 33 = 11 := by kernel_rfl
  rcases open_slice Try.underlying23 h with ⟨hcs, _⟩ | ⟨a, len, cap, m, n, D, Pl, hcs, _, hl, hm, hmm, rfl, hx⟩
  · simp only [List.cons.injEq, and_true] at hcs
    exact ⟨none, 0, 0, hcs, Nat.zero_le _, fun i hi => absurd hi (by omega)⟩
  · simp only [List.cons.injEq, and_true] at hcs
    have hlm : len ≤ m := by rw [hmm]; split <;> omega
    have hb1 := bulk_row ((List.range len).map D) ((List.range (m - len)).map fun j => D (len + j))
    have hb2 := bulk_len ((List.range len).map D)
    rw [List.length_map, List.length_range] at hb2
    simp only at hk
    refine ⟨some a, len, cap, hcs, by omega, fun i hi => ?_⟩
    obtain ⟨cs', h1, h2⟩ := hx i (by omega)
    rw [hC] at h1
    have hb3 := bulk_mem (d := D i) (l := (List.range len).map D) (List.mem_map.2 ⟨i, List.mem_range.2 hi, rfl⟩)
    obtain ⟨mk, ex, ty, nu, ti, so, pr, pd, cv, cl, en, py, rfl, r1, r2, r3, r4⟩ := packet_in h2 (by simp only; omega)
    obtain ⟨_, _, hcell⟩ := World.cells?_some h1
    obtain ⟨b, off, spot⟩ := a
    have hspot : spot = none := by
      obtain ⟨cs0, h10, _⟩ := hx 0 (by omega)
      obtain ⟨_, hl0, hc0⟩ := World.cells?_some h10
      have h := (hc0 0 (by omega)).trans (List.getElem?_eq_getElem (by omega))
      simpa [Addr.add] using World.cell?_spot h
    subst hspot
    rw [add_plain] at hcell
    have at_ : ∀ k v, k < 11 → [Value.bool mk, .int .i64 ty, .int .i64 nu, .int .i64 ti, .int .i64 so, cv, .bool ex, .int .i64 pr, .string en, .string py, .int .i64 pd][k]? = some v → W.cell? ⟨b, off + i * 11 + k, none⟩ = some v := fun k v hk hv => by
      have := hcell k hk
      rw [add_plain] at this
      exact this.trans hv
    have c0 := at_ 0 _ (by omega) rfl
    exact ⟨b, off, rfl, Pk.lt_of_cell c0, mk, ex, ty, nu, ti, so, pr, pd, cv, cl, en, py, ⟨c0, at_ 1 _ (by omega) rfl, at_ 2 _ (by omega) rfl, at_ 3 _ (by omega) rfl, at_ 4 _ (by omega) rfl, at_ 5 _ (by omega) rfl, at_ 6 _ (by omega) rfl, at_ 7 _ (by omega) rfl, at_ 8 _ (by omega) rfl, at_ 9 _ (by omega) rfl, at_ 10 _ (by omega) rfl⟩, r1, r2, r3, r4⟩
end

set_option maxRecDepth 100000 in
theorem contract (H : Type) (enc : TypeId × Value → H) (W : World) (base : Nat) (args : Array Value) (ds gs : List (DataW H)) (before : List MemPlace)
    (hval : ∀ (j : Nat) t v, Try.f3.params[j]? = some t → args[j]? = some v → Value.okWide Try.prog W .any base t v)
    (hW : DataW.Whole enc Try.prog Try.f3.params.toList Rows.packetsSpec.vars false W args.toList ds gs before) (hk : Rows.uptoSmall H (ds ++ gs) = true) :
    Calls Try.prog 3 args W fun e W' => ∃ v, e = .returned v ∧ Rows.packetsSpec.post enc Try.prog Try.f3 false true false false W args v W' := by
  have hW' := hW
  obtain ⟨p, q, hA0, hV, rfl, hfz, hnd⟩ := hW
  have hA : DataW.TrodAll enc Try.prog W 0 (fun _ => true) true Try.f3.params.toList args.toList ds p := hA0
  rw [Try.params3] at hA hval
  obtain ⟨v0, vs0, d0, ds0, p0, q0, hargs, rfl, rfl, h0, r0⟩ := trodAll_cons hA
  obtain ⟨v1, vs1, d1, ds1, p1, q1, rfl, rfl, rfl, h1, r1⟩ := trodAll_cons r0
  obtain ⟨rfl, rfl, rfl⟩ := trodAll_nil r1
  obtain rfl : args = #[v0, v1] := by cases args; simp_all
  obtain ⟨rfl, rfl⟩ := trodVars_none hV
  have hbk : Rows.uptoBulkAll [d0, d1] ≤ 1048576 := of_decide_eq_true hk
  simp only [Rows.uptoBulkAll] at hbk
  have k0 := h0
  have k1 := h1
  have lt0 : ∀ x ∈ p0, x.block < W.heap.size := by obtain ⟨m, hm⟩ := k0; exact DataW.trod_lt m _ _ _ hm
  have lt1 : ∀ x ∈ p1, x.block < W.heap.size := by obtain ⟨m, hm⟩ := k1; exact DataW.trod_lt m _ _ _ hm
  obtain ⟨_, _, _, rfl⟩ := okWide_slice Try.underlying22 (hval 0 22 v0 rfl rfl)
  obtain ⟨_, _, _, rfl⟩ := okWide_slice Try.underlying23 (hval 1 23 v1 rfl rfl)
  obtain ⟨_, f0⟩ := h0
  obtain ⟨_, f1⟩ := h1
  obtain ⟨ta, tn, tc, e0, t1, t2⟩ := texts_in f0 (by simp only; omega)
  obtain ⟨pa, pn, pc, e1, s1, s2⟩ := packets_in f1 (by simp only; omega)
  rw [e0, e1]
  rw [e0] at hW' k0
  rw [e1] at hW' k1
  clear hA0
  refine (packets_walk ta pa tn tc pn pc W t2 s2 t1 s1).mono fun e W' ⟨he, bel⟩ => ?_
  subst he
  exact ⟨_, rfl, _, _, _, [], _, [], hW', trodAll_mk1 (shut_bool Try.underlying4 _), (trodAll_cons_mk (Below.trod laidOut (by kernel_rfl) (of_decide_eq_true (by kernel_rfl)) k0 bel lt0) (trodAll_cons_mk (Below.trod laidOut (by kernel_rfl) (of_decide_eq_true (by kernel_rfl)) k1 bel lt1) trodAll_mk0)), rfl, bel.frame _, fun h => by cases h⟩

set_option maxRecDepth 100000 in
theorem lifted (os : Os) (started : os.Started) (H : Type) (enc : TypeId × Value → H) (F : Stop.Interp) :
    ReturnsInHanded {} Try.checked os 3 .any ((Rows.OpenSpec.upto Rows.packetsSpec).pre6 enc Try.prog Try.f3 Rows.packetsUptoRow.domain false) (((Rows.OpenSpec.upto Rows.packetsSpec).at F).post enc Try.prog Try.f3 false true false false) := by
  refine returnsInHanded_of_cond (C := Try.checked) (s := Rows.OpenSpec.upto Rows.packetsSpec) (k := Rows.uptoSmall) rfl own started (by kernel_rfl) Try.func3
    (OpenSpec.witness (enc := enc) (C := Try.checked) (s := Rows.OpenSpec.upto Rows.packetsSpec) (k := Rows.uptoSmall) rfl false ⟨#[], #[.slice none 0 0, .slice none 0 0], []⟩ 8 (by kernel_rfl) (by kernel_rfl) (by kernel_rfl)
      (x := ([.nil, .nil], [], [])) (by kernel_rfl) rfl (by kernel_rfl)) ?_
  intro W base args ds gs before hval hW _ hk _
  exact contract H enc W base args ds gs before hval hW hk

end Ps

theorem packets_upto_holds : Rows.PacketsUptoSaid :=
  OpenClaim.holds_of_cond 3 Try.f3 rfl rfl rfl rfl rfl rfl rfl ⟨rfl, rfl, rfl, rfl, rfl⟩ rfl rfl rfl rfl rfl (by kernel_rfl) Try.func3 (by kernel_rfl)
    (of_decide_eq_true (by kernel_rfl)) (by unfold Func.isWrapper; first | (rw [if_pos (by decide +kernel)]; kernel_rfl) | (rw [if_neg (by decide +kernel)]; exact ⟨rfl, rfl⟩))
    (fun os started H enc _ F => Ps.lifted os started H enc F)

end Go.Proofs.Ytdjhhnolcafkiaa
