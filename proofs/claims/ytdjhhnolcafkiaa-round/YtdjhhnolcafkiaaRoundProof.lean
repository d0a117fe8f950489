/-
  Whatever packet in raw numbers and whatever text it is given, menderkeep.Round returns true and leaves its arguments as they were: every right packet is told and read again as it was, and any text that is read as a packet is what that packet is told as. No condition beyond the row's own.
-/
import Derived.Test.YtdjhhnolcafkiaaRows
import Derived.Test.YtdjhhnolcafkiaaRound
import Derived.ProofKit
import Derived.OpenShut
import Derived.ShutString
import Derived.ChangeOld
import Derived.Below
namespace Go.Proofs.Ytdjhhnolcafkiaa
open Go.ChangeShapes Go.WideShapes Go.ChangeAt Go.RowKit
open Go.ChangeMaps (open_string shut_string)
namespace Rd

theorem own : ownKnob Try.prog.godebug = none := by kernel_rfl
theorem laidOut : laidOutB Try.prog = true := by kernel_rfl

theorem array11 {cs : Array Value} (h : cs.size = 11) : ∃ c0 c1 c2 c3 c4 c5 c6 c7 c8 c9 c10, cs = #[c0, c1, c2, c3, c4, c5, c6, c7, c8, c9, c10] := by
  obtain ⟨l⟩ := cs
  match l, h with
  | [c0, c1, c2, c3, c4, c5, c6, c7, c8, c9, c10], _ => exact ⟨c0, c1, c2, c3, c4, c5, c6, c7, c8, c9, c10, rfl⟩

theorem wf64 {n : Int} (h : (Lit.int .i64 n).wf = true) : -9223372036854775808 ≤ n ∧ n ≤ 9223372036854775807 := by
  simp only [Lit.wf, IntKind.min, IntKind.max, IntKind.signed, IntKind.bits, Bool.and_eq_true, decide_eq_true_eq, if_true] at h
  omega

section
variable {H : Type} {enc : TypeId × Value → H} {W : World} {base : Nat} {spare : Nat → Bool} {held : Bool}

/-- a list of numbers that came in -/
theorem ints_in {fuel : Nat} {c : Value} {x : DataW H × List MemPlace} (h : DataW.trod enc Try.prog W base spare held fuel 27 [c] = some x) :
    ∃ l : List Int, Pk.IsInts W.heap.size W c l ∧ l.length ≤ maxLen ∧ ∀ n ∈ l, -9223372036854775808 ≤ n ∧ n ≤ 9223372036854775807 := by
  rcases open_ints Try.underlying27 Try.underlying3 (by kernel_rfl) h with ⟨hcs, _⟩ | ⟨a, len, cap, zs, hcs, _, hl, hm, hz, _, hcell, hwz⟩
  · simp only [List.cons.injEq, and_true] at hcs
    subst hcs
    exact ⟨[], ⟨none, 0, rfl, fun j hj => absurd hj (by simp)⟩, Nat.zero_le _, by simp⟩
  · simp only [List.cons.injEq, and_true] at hcs
    subst hcs
    have hlz : len ≤ zs.length := by split at hz <;> omega
    have hlen : (zs.take len).length = len := by rw [List.length_take]; omega
    refine ⟨zs.take len, ⟨some a, cap, by rw [hlen], fun j hj => ?_⟩, by omega, fun n hn => wf64 (hwz n (List.mem_of_mem_take hn))⟩
    rw [hlen] at hj
    obtain ⟨b, off, rfl, hcells⟩ := ints_at hcell (by omega)
    have h1 := hcells j (by omega)
    refine ⟨b, off, rfl, Pk.lt_of_cell h1, ?_⟩
    rw [h1]
    simp [List.getD, hj]

set_option maxRecDepth 100000 in
/-- a packet in raw numbers that came in -/
theorem raw_in {r : Reach} {b0 : Nat} {v : Value} {d : DataW H} {p : List MemPlace} (hv : Value.okWide Try.prog W r b0 43 v) (h : DataW.Trod enc Try.prog W base spare held 43 v d p) :
    ∃ (mk ex : Bool) (ty nu ti so pr pa : Int) (cv : Value) (rl : List Int) (en py : ByteArray), v = .agg #[.bool mk, .bool ex, .int .i64 ty, .int .i64 nu, .int .i64 ti, .int .i64 so, cv, .int .i64 pr, .int .i64 pa, .string en, .string py] ∧
      Pk.IsInts W.heap.size W cv rl ∧ (-9223372036854775808 ≤ ty ∧ ty ≤ 9223372036854775807) ∧ (-9223372036854775808 ≤ nu ∧ nu ≤ 9223372036854775807) ∧ (-9223372036854775808 ≤ ti ∧ ti ≤ 9223372036854775807) ∧ (-9223372036854775808 ≤ so ∧ so ≤ 9223372036854775807) ∧
      (-9223372036854775808 ≤ pr ∧ pr ≤ 9223372036854775807) ∧ (-9223372036854775808 ≤ pa ∧ pa ≤ 9223372036854775807) ∧ (∀ c ∈ rl, -9223372036854775808 ≤ c ∧ c ≤ 9223372036854775807) ∧ rl.length ≤ maxLen ∧ en.size ≤ maxLen ∧ py.size ≤ maxLen := by
  obtain ⟨cs, rfl, hsz⟩ := okWide_struct Try.underlying43 hv
  have hC : Try.prog.cellsOf 43 = 11 := by kernel_rfl
  obtain ⟨c0, c1, c2, c3, c4, c5, c6, c7, c8, c9, c10, rfl⟩ := array11 (hsz.trans hC)
  obtain ⟨fuel, hf⟩ := h
  obtain ⟨xs, n, _, _, _, hxl, hx⟩ := DataW.trod_struct Try.underlying43 hf
  have k4 : Try.prog.cellsOf 4 = 1 := by kernel_rfl
  have k3 : Try.prog.cellsOf 3 = 1 := by kernel_rfl
  have k9 : Try.prog.cellsOf 9 = 1 := by kernel_rfl
  have k27 : Try.prog.cellsOf 27 = 1 := by kernel_rfl
  have hlen : xs.length = 11 := hxl
  have at_ : ∀ i, i < 11 → ∃ y, xs[i]? = some y := fun i hi => ⟨xs[i], List.getElem?_eq_getElem (by omega)⟩
  obtain ⟨z0, g0⟩ := at_ 0 (by omega); obtain ⟨z1, g1⟩ := at_ 1 (by omega); obtain ⟨z2, g2⟩ := at_ 2 (by omega); obtain ⟨z3, g3⟩ := at_ 3 (by omega)
  obtain ⟨z4, g4⟩ := at_ 4 (by omega); obtain ⟨z5, g5⟩ := at_ 5 (by omega); obtain ⟨z6, g6⟩ := at_ 6 (by omega); obtain ⟨z7, g7⟩ := at_ 7 (by omega)
  obtain ⟨z8, g8⟩ := at_ 8 (by omega); obtain ⟨z9, g9⟩ := at_ 9 (by omega); obtain ⟨z10, g10⟩ := at_ 10 (by omega)
  have e0 := (hx 0 _ rfl).trans g0; have e1 := (hx 1 _ rfl).trans g1; have e2 := (hx 2 _ rfl).trans g2; have e3 := (hx 3 _ rfl).trans g3
  have e4 := (hx 4 _ rfl).trans g4; have e5 := (hx 5 _ rfl).trans g5; have e6 := (hx 6 _ rfl).trans g6; have e7 := (hx 7 _ rfl).trans g7
  have e8 := (hx 8 _ rfl).trans g8; have e9 := (hx 9 _ rfl).trans g9; have e10 := (hx 10 _ rfl).trans g10
  simp [Value.cells, k4, k3, k9, k27] at e0 e1 e2 e3 e4 e5 e6 e7 e8 e9 e10
  obtain ⟨mk, m0, _⟩ := DataW.trod_bool Try.underlying4 e0
  obtain ⟨ex, m1, _⟩ := DataW.trod_bool Try.underlying4 e1
  obtain ⟨ty, m2, _, w2⟩ := DataW.trod_int Try.underlying3 e2
  obtain ⟨nu, m3, _, w3⟩ := DataW.trod_int Try.underlying3 e3
  obtain ⟨ti, m4, _, w4⟩ := DataW.trod_int Try.underlying3 e4
  obtain ⟨so, m5, _, w5⟩ := DataW.trod_int Try.underlying3 e5
  obtain ⟨rl, i1, i2, i3⟩ := ints_in e6
  obtain ⟨pr, m7, _, w7⟩ := DataW.trod_int Try.underlying3 e7
  obtain ⟨pa, m8, _, w8⟩ := DataW.trod_int Try.underlying3 e8
  obtain ⟨en, m9, _, w9⟩ := DataW.trod_string Try.underlying9 e9
  obtain ⟨py, m10, _, w10⟩ := DataW.trod_string Try.underlying9 e10
  simp only [List.cons.injEq, and_true] at m0 m1 m2 m3 m4 m5 m7 m8 m9 m10
  subst m0 m1 m2 m3 m4 m5 m7 m8 m9 m10
  exact ⟨mk, ex, ty, nu, ti, so, pr, pa, c6, rl, en, py, rfl, i1, wf64 w2, wf64 w3, wf64 w4, wf64 w5, wf64 w7, wf64 w8, i3, i2, w9, w10⟩
end

set_option maxRecDepth 100000 in
theorem lifted (os : Os) (started : os.Started) (H : Type) (enc : TypeId × Value → H) :
    ReturnsInHanded {} Try.checked os 5 .any (Rows.roundSpec.pre6 enc Try.prog Try.f5 Rows.roundRow.domain false) (Rows.roundSpec.post enc Try.prog Try.f5 false true false false) := by
  refine returnsInHanded_of_change (C := Try.checked) own started (by kernel_rfl) Try.func5
    (ChangeSpec.witness6 (enc := enc) (C := Try.checked) false ⟨#[], #[.agg #[.bool false, .bool false, .int .i64 0, .int .i64 0, .int .i64 0, .int .i64 0, .slice none 0 0, .int .i64 0, .int .i64 0, .string ⟨#[]⟩, .string ⟨#[]⟩], .string ⟨#[]⟩], []⟩ 8 (by kernel_rfl) (by kernel_rfl) (by kernel_rfl) (by kernel_rfl)) ?_
  intro W base args ds gs before hval0 hW hcnd _
  have hval : ∀ (j : Nat) t v, Try.f5.params[j]? = some t → args[j]? = some v → Value.okWide Try.prog W .any base t v := hval0
  have hW' := hW
  obtain ⟨p, q, hA0, hV, rfl, hfz, hnd⟩ := hW
  have hA : DataW.TrodAll enc Try.prog W 0 (fun _ => true) true Try.f5.params.toList args.toList ds p := hA0
  rw [Try.params5] at hA hval
  obtain ⟨v0, vs0, d0, ds0, p0, q0, hargs, rfl, rfl, h0, r0⟩ := trodAll_cons hA
  obtain ⟨v1, vs1, d1, ds1, p1, q1, rfl, rfl, rfl, h1, r1⟩ := trodAll_cons r0
  obtain ⟨rfl, rfl, rfl⟩ := trodAll_nil r1
  obtain rfl : args = #[v0, v1] := by cases args; simp_all
  obtain ⟨rfl, rfl⟩ := trodVars_none hV
  have k0 := h0
  have lt0 : ∀ x ∈ p0, x.block < W.heap.size := by obtain ⟨m, hm⟩ := k0; exact DataW.trod_lt m _ _ _ hm
  obtain ⟨mk, ex, ty, nu, ti, so, pr, pa, cv, rl, en, py, rfl, b1, b2, b3, b4, b5, b6, b7, b8, b9, b10, b11⟩ := raw_in (hval 0 43 v0 rfl rfl) h0
  obtain ⟨s, rfl, rfl, rfl, ws⟩ := open_string Try.underlying9 (hval 1 9 v1 rfl rfl) h1
  clear hA0 hval0
  refine (round_walk mk ex ty nu ti so pr pa cv rl en py s W b1 b2 b3 b4 b5 b6 b7 b8 b9 b10 b11 ws).mono fun e W' ⟨he, bel⟩ => ?_
  subst he
  exact ⟨_, rfl, _, _, _, [], _, [], hW', trodAll_mk1 (shut_bool Try.underlying4 _), (trodAll_cons_mk (Below.trod laidOut (by kernel_rfl) (of_decide_eq_true (by kernel_rfl)) k0 bel lt0) (trodAll_cons_mk (shut_string Try.underlying9 ws) trodAll_mk0)), rfl, bel.frame _, fun h => by cases h⟩

end Rd

theorem round_holds : Rows.RoundSaid :=
  OpenClaim.holds_of_wide 5 Try.f5 rfl rfl rfl rfl rfl rfl rfl ⟨rfl, rfl, rfl, rfl, rfl⟩ rfl rfl rfl rfl rfl (by kernel_rfl) Try.func5 (by kernel_rfl)
    (of_decide_eq_true (by kernel_rfl)) (by unfold Func.isWrapper; first | (rw [if_pos (by decide +kernel)]; kernel_rfl) | (rw [if_neg (by decide +kernel)]; exact ⟨rfl, rfl⟩))
    (fun os started H enc _ => Rd.lifted os started H enc)

end Go.Proofs.Ytdjhhnolcafkiaa
