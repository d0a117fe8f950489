/-
  Whatever texts and askings it is given, menderlaw.Reports returns true and leaves its arguments as they were: ParseReport of every text and TellAsking of every asking answer what the document answers, and the lists that come out are their owner's. Where what it reads is of bulk at most 1048576.
-/
import Derived.Test.YtdjhhnolcafkiaaUptoIn
import Derived.Test.YtdjhhnolcafkiaaReportsW
namespace Go.Proofs.Ytdjhhnolcafkiaa
open Go.ChangeShapes Go.WideShapes Go.ChangeAt Go.RowKit Go.Deep
namespace Rp
open Up

section
variable {H : Type} {enc : TypeId × Value → H} {W : World} {base : Nat} {spare : Nat → Bool} {held : Bool}

theorem list3 {cs : List Value} (h : cs.length = 3) : ∃ c0 c1 c2, cs = [c0, c1, c2] := by
  match cs, h with
  | [c0, c1, c2], _ => exact ⟨c0, c1, c2, rfl⟩

set_option maxRecDepth 100000 in
theorem asking_in {fuel : Nat} {cs : List Value} {x : DataW H × List MemPlace} (h : DataW.trod enc Try.prog W base spare held fuel 40 cs = some x) (hk : Rows.uptoBulk x.1 ≤ 1048576) :
    ∃ (se so : Int) (cv : Value) (cl : List Int), cs = [.int .i64 se, .int .i64 so, cv] ∧ Pk.IsInts W.heap.size W cv cl ∧ cl.length ≤ 1048576 := by
  have hC : Try.prog.cellsOf 40 = 3 := by kernel_rfl
  obtain ⟨xs, n, _, rfl, hcl, hxl, hx⟩ := DataW.trod_struct Try.underlying40 h
  obtain ⟨c0, c1, c2, rfl⟩ := list3 (hcl.trans hC)
  have k3 : Try.prog.cellsOf 3 = 1 := by kernel_rfl
  have k27 : Try.prog.cellsOf 27 = 1 := by kernel_rfl
  have hlen : xs.length = 3 := hxl
  have at_ : ∀ i, i < 3 → ∃ y, xs[i]? = some y := fun i hi => ⟨xs[i], List.getElem?_eq_getElem (by omega)⟩
  obtain ⟨z0, g0⟩ := at_ 0 (by omega); obtain ⟨z1, g1⟩ := at_ 1 (by omega); obtain ⟨z2, g2⟩ := at_ 2 (by omega)
  have e0 := (hx 0 _ rfl).trans g0; have e1 := (hx 1 _ rfl).trans g1; have e2 := (hx 2 _ rfl).trans g2
  simp [k3, k27] at e0 e1 e2
  have hb := bulk_agg (xs.map (·.1))
  simp only at hk
  have mem : ∀ (i : Nat) (z : DataW H × List MemPlace), xs[i]? = some z → Rows.uptoBulk z.1 ≤ 1048576 := fun i z hz => by
    have := bulk_mem (d := z.1) (l := xs.map (·.1)) (List.mem_map.2 ⟨z, List.mem_of_getElem? hz, rfl⟩)
    omega
  obtain ⟨se, m0, _, _⟩ := DataW.trod_int Try.underlying3 e0
  obtain ⟨so, m1, _, _⟩ := DataW.trod_int Try.underlying3 e1
  obtain ⟨cl, i1, i2⟩ := ints_in e2
  simp only [List.cons.injEq, and_true] at m0 m1
  subst m0 m1
  have b2 := mem 2 _ g2
  exact ⟨se, so, c2, cl, rfl, i1, by omega⟩

/-- the askings that came in -/
theorem askings_in {fuel : Nat} {c : Value} {x : DataW H × List MemPlace} (h : DataW.trod enc Try.prog W base spare held fuel 37 [c] = some x) (hk : Rows.uptoBulk x.1 ≤ 1048576) :
    ∃ pa pn pc, c = .slice pa pn pc ∧ pn ≤ 1048576 ∧ ∀ i, i < pn → ∃ b off, pa = some ⟨b, off, none⟩ ∧ b < W.heap.size ∧ ∃ se so cv cl, Pk.AskAt W b (off + i * 3) se so cv ∧ Pk.IsInts W.heap.size W cv cl ∧ cl.length ≤ 1048576 := by
  have hC : Try.prog.cellsOf 40 = 3 := by kernel_rfl
  rcases open_slice Try.underlying37 h with ⟨hcs, _⟩ | ⟨a, len, cap, m, n, D, Pl, hcs, _, hl, hm, hmm, rfl, hx⟩
  · simp only [List.cons.injEq, and_true] at hcs
    exact ⟨none, 0, 0, hcs, Nat.zero_le _, fun i hi => absurd hi (by omega)⟩
  · simp only [List.cons.injEq, and_true] at hcs
    have hlm : len ≤ m := by rw [hmm]; split <;> omega
    have hb1 := bulk_row ((List.range len).map D) ((List.range (m - len)).map fun j => D (len + j))
    have hb2 := bulk_len ((List.range len).map D)
    rw [List.length_map, List.length_range] at hb2
    simp only at hk
    refine ⟨some a, len, cap, hcs, by omega, fun i hi => ?_⟩
    obtain ⟨cs', h1, h2⟩ := hx i (by omega)
    rw [hC] at h1
    have hb3 := bulk_mem (d := D i) (l := (List.range len).map D) (List.mem_map.2 ⟨i, List.mem_range.2 hi, rfl⟩)
    obtain ⟨se, so, cv, cl, rfl, r1, r2⟩ := asking_in h2 (by simp only; omega)
    obtain ⟨_, _, hcell⟩ := World.cells?_some h1
    obtain ⟨b, off, spot⟩ := a
    have hspot : spot = none := by
      obtain ⟨cs0, h10, _⟩ := hx 0 (by omega)
      obtain ⟨_, hl0, hc0⟩ := World.cells?_some h10
      have h := (hc0 0 (by omega)).trans (List.getElem?_eq_getElem (by omega))
      simpa [Addr.add] using World.cell?_spot h
    subst hspot
    rw [add_plain] at hcell
    have at_ : ∀ k v, k < 3 → [Value.int .i64 se, .int .i64 so, cv][k]? = some v → W.cell? ⟨b, off + i * 3 + k, none⟩ = some v := fun k v hk hv => by
      have := hcell k hk
      rw [add_plain] at this
      exact this.trans hv
    have c0 := at_ 0 _ (by omega) rfl
    exact ⟨b, off, rfl, Pk.lt_of_cell c0, se, so, cv, cl, ⟨c0, at_ 1 _ (by omega) rfl, at_ 2 _ (by omega) rfl⟩, r1, r2⟩
end

set_option maxRecDepth 100000 in
theorem contract (H : Type) (enc : TypeId × Value → H) (W : World) (base : Nat) (args : Array Value) (ds gs : List (DataW H)) (before : List MemPlace)
    (hval : ∀ (j : Nat) t v, Try.f4.params[j]? = some t → args[j]? = some v → Value.okWide Try.prog W .any base t v)
    (hW : DataW.Whole enc Try.prog Try.f4.params.toList Rows.reportsSpec.vars false W args.toList ds gs before) (hk : Rows.uptoSmall H (ds ++ gs) = true) :
    Calls Try.prog 4 args W fun e W' => ∃ v, e = .returned v ∧ Rows.reportsSpec.post enc Try.prog Try.f4 false true false false W args v W' := by
  have hW' := hW
  obtain ⟨p, q, hA0, hV, rfl, hfz, hnd⟩ := hW
  have hA : DataW.TrodAll enc Try.prog W 0 (fun _ => true) true Try.f4.params.toList args.toList ds p := hA0
  rw [Try.params4] at hA hval
  obtain ⟨v0, vs0, d0, ds0, p0, q0, hargs, rfl, rfl, h0, r0⟩ := trodAll_cons hA
  obtain ⟨v1, vs1, d1, ds1, p1, q1, rfl, rfl, rfl, h1, r1⟩ := trodAll_cons r0
  obtain ⟨rfl, rfl, rfl⟩ := trodAll_nil r1
  obtain rfl : args = #[v0, v1] := by cases args; simp_all
  obtain ⟨rfl, rfl⟩ := trodVars_none hV
  have hbk : Rows.uptoBulkAll [d0, d1] ≤ 1048576 := of_decide_eq_true hk
  simp only [Rows.uptoBulkAll] at hbk
  have k0 := h0
  have k1 := h1
  have lt0 : ∀ x ∈ p0, x.block < W.heap.size := by obtain ⟨m, hm⟩ := k0; exact DataW.trod_lt m _ _ _ hm
  have lt1 : ∀ x ∈ p1, x.block < W.heap.size := by obtain ⟨m, hm⟩ := k1; exact DataW.trod_lt m _ _ _ hm
  obtain ⟨_, _, _, rfl⟩ := okWide_slice Try.underlying22 (hval 0 22 v0 rfl rfl)
  obtain ⟨_, _, _, rfl⟩ := okWide_slice Try.underlying37 (hval 1 37 v1 rfl rfl)
  obtain ⟨_, f0⟩ := h0
  obtain ⟨_, f1⟩ := h1
  obtain ⟨ta, tn, tc, e0, t1, t2⟩ := texts_in f0 (by simp only; omega)
  obtain ⟨pa, pn, pc, e1, s1, s2⟩ := askings_in f1 (by simp only; omega)
  rw [e0, e1]
  rw [e0] at hW' k0
  rw [e1] at hW' k1
  clear hA0
  refine (reports_walk ta pa tn tc pn pc W t2 s2 t1 s1).mono fun e W' ⟨he, bel⟩ => ?_
  subst he
  exact ⟨_, rfl, _, _, _, [], _, [], hW', trodAll_mk1 (shut_bool Try.underlying4 _), (trodAll_cons_mk (Below.trod laidOut (by kernel_rfl) (of_decide_eq_true (by kernel_rfl)) k0 bel lt0) (trodAll_cons_mk (Below.trod laidOut (by kernel_rfl) (of_decide_eq_true (by kernel_rfl)) k1 bel lt1) trodAll_mk0)), rfl, bel.frame _, fun h => by cases h⟩

set_option maxRecDepth 100000 in
theorem lifted (os : Os) (started : os.Started) (H : Type) (enc : TypeId × Value → H) (F : Stop.Interp) :
    ReturnsInHanded {} Try.checked os 4 .any ((Rows.OpenSpec.upto Rows.reportsSpec).pre6 enc Try.prog Try.f4 Rows.reportsUptoRow.domain false) (((Rows.OpenSpec.upto Rows.reportsSpec).at F).post enc Try.prog Try.f4 false true false false) := by
  refine returnsInHanded_of_cond (C := Try.checked) (s := Rows.OpenSpec.upto Rows.reportsSpec) (k := Rows.uptoSmall) rfl own started (by kernel_rfl) Try.func4
    (OpenSpec.witness (enc := enc) (C := Try.checked) (s := Rows.OpenSpec.upto Rows.reportsSpec) (k := Rows.uptoSmall) rfl false ⟨#[], #[.slice none 0 0, .slice none 0 0], []⟩ 8 (by kernel_rfl) (by kernel_rfl) (by kernel_rfl)
      (x := ([.nil, .nil], [], [])) (by kernel_rfl) rfl (by kernel_rfl)) ?_
  intro W base args ds gs before hval hW _ hk _
  exact contract H enc W base args ds gs before hval hW hk

end Rp

theorem reports_upto_holds : Rows.ReportsUptoSaid :=
  OpenClaim.holds_of_cond 4 Try.f4 rfl rfl rfl rfl rfl rfl rfl ⟨rfl, rfl, rfl, rfl, rfl⟩ rfl rfl rfl rfl rfl (by kernel_rfl) Try.func4 (by kernel_rfl)
    (of_decide_eq_true (by kernel_rfl)) (by unfold Func.isWrapper; first | (rw [if_pos (by decide +kernel)]; kernel_rfl) | (rw [if_neg (by decide +kernel)]; exact ⟨rfl, rfl⟩))
    (fun os started H enc _ F => Rp.lifted os started H enc F)

end Go.Proofs.Ytdjhhnolcafkiaa
