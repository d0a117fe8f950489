/- step of any kind up to 6; the state at the start. -/
import Derived.Test.YtdjhhnolcafkiaaGreatG16
import Derived.Test.YtdjhhnolcafkiaaGreatG01
namespace Go.Proofs.YtdjhhnolcafkiaaGreat
open Go.RowKit Pk Rl
namespace Rl
/-- a step's cells -/
def opL (o : OpD) : List Value := opKL o.kind o
/-- a script in memory -/
def IsOps (B : Nat) (W : World) (v : Value) (l : List OpD) : Prop := ∃ ao cap, v = .slice ao l.length cap ∧ ∀ (j : Nat) (o : OpD), l[j]? = some o → ∃ b off, ao = some ⟨b, off, none⟩ ∧ b < B ∧ ∀ i u, (opL o)[i]? = some u → W.cell? ⟨b, off + j * 30 + i, none⟩ = some u
theorem step_any {w : World} {F : Nat → Nat → Nat} {K : Nat} {pb mb rb : Nat → Nat} {M : Nat → Md} {R : Nat → Rm} {g n q k : Nat} (o : OpD) (A : Nat) (h : Sta w F K pb mb rb M R g n) (hk : k < K) (hr : Rel q (M k) (R k)) (hq : q ≤ 1999999) (hn : n ≤ 8000000) (ho : OpOk A w o) (hA : A ≤ w.heap.size) (h6 : o.kind ≤ 6) :
    Calls Tryz.prog 8 #[.pointer (some ⟨pb k, 0, none⟩), .pointer (some ⟨g, 0, none⟩), .agg (opK o.kind o)] w fun e w' => e = .returned (.bool true) ∧ ∃ F' M1 R1, Sta w' F' K pb mb rb (upd M k M1) (upd R k R1) g (n + 2) ∧ Rel (q + 1) M1 R1 ∧ SMv w F w' F' := by
  rcases (by omega : o.kind ≤ 0 ∨ o.kind = 1 ∨ o.kind = 2 ∨ o.kind = 3 ∨ o.kind = 4 ∨ o.kind = 5 ∨ o.kind = 6) with e | e | e | e | e | e | e
  · exact step0_any o A h hk hr hq hn ho hA e
  · rw [e]; exact step1_any o A h hk hr hq hn ho hA
  · rw [e]; exact step2_any o A h hk hr hq hn ho hA
  · rw [e]; exact step3_any o A h hk hr hq hn ho hA
  · rw [e]; exact step4_any o A h hk hr hq hn ho hA
  · rw [e]; exact step5_any o A h hk hr hq hn ho hA
  · rw [e]; exact step6_any o A h hk hr hq hn ho hA
/-- the roles at the start -/
def F1 (g : Nat) (ρm ρr : Nat → Nat) : Nat → Nat → Nat
  | 0 => newRole g
  | 1 => ρm
  | 2 => ρr
  | _ => fun _ => 0
def F2 (g : Nat) (ρa ρb ρc ρd : Nat → Nat) : Nat → Nat → Nat
  | 0 => newRole g
  | 1 => ρa
  | 2 => ρb
  | 3 => ρc
  | 4 => ρd
  | _ => fun _ => 0
theorem bk_new (w : World) (t : TypeId) : Bk1 (w.alloc (.cells #[.slice none 0 0, .slice none 0 0, .slice none 0 0, .slice none 0 0, .slice none 0 0, .slice none 0 0, .int .i64 0] t)) w.heap.size (newRole w.heap.size) 0 :=
  ⟨_, _, _, _, _, _, [], [], [], [], [], [], 0, bkN_new w t, Nat.zero_le _, Nat.zero_le _, Nat.zero_le _, Int.le_refl _, by omega⟩
theorem PrN.below {w W V : World} {pb mb rb : Nat} {ρm ρr : Nat → Nat} {c : Cfg} (h : PrN w W pb mb rb ρm ρr c) (hb : Below W.heap.size W V) : PrN w V pb mb rb ρm ρr c :=
  ⟨(hb.cell (p := ⟨pb, 0, none⟩) (lt_of_cell h.c0)).trans h.c0, (hb.cell (p := ⟨pb, 1, none⟩) (lt_of_cell h.c1)).trans h.c1, h.md.below hb, h.rd.below hb, h.nm, h.nr, h.np⟩
theorem Sta.init1 {w W : World} {pb mb rb : Nat} {ρm ρr : Nat → Nat} {c : Cfg} (t : TypeId) (h : PrN w W pb mb rb ρm ρr c) :
    Sta (W.alloc (.cells #[.slice none 0 0, .slice none 0 0, .slice none 0 0, .slice none 0 0, .slice none 0 0, .slice none 0 0, .int .i64 0] t)) (F1 W.heap.size ρm ρr) 1 (fun _ => pb) (fun _ => mb) (fun _ => rb) (fun _ => newM c) (fun _ => rNew c) W.heap.size 0 := by
  have hb : Below W.heap.size W (W.alloc (.cells #[.slice none 0 0, .slice none 0 0, .slice none 0 0, .slice none 0 0, .slice none 0 0, .slice none 0 0, .int .i64 0] t)) := (Below.refl _ _).alloc (Nat.le_refl _) _
  have h' := h.below hb
  have hpl : pb < W.heap.size := lt_of_cell h.c0
  have m0 := h.md.hi
  have r0 := h.rd.hi
  have key : ∀ b, (newRole W.heap.size b ≠ 0 → b = W.heap.size) := fun b e => by
    unfold newRole at e
    split at e
    · assumption
    · exact absurd rfl e
  refine ⟨fun k hk => ⟨h'.c0, h'.c1, fun j => ?_⟩, fun k hk => ?_, fun k hk => ?_, bk_new W t, fun i j b hi hj => ?_, fun i b hb' => ?_⟩
  · match j with
    | 0 => exact Decidable.byContradiction fun e => by have := key _ e; omega
    | 1 => exact Decidable.byContradiction fun e => (h.nm pb e).2.2 rfl
    | 2 => exact Decidable.byContradiction fun e => (h.nr pb e).2 rfl
    | _ + 3 => rfl
  · obtain rfl : k = 0 := by omega
    exact ⟨_, _, _, _, h'.md⟩
  · obtain rfl : k = 0 := by omega
    exact ⟨_, _, h'.rd⟩
  · have g1 : ∀ b, newRole W.heap.size b ≠ 0 → ρm b = 0 ∧ ρr b = 0 := fun b e => by rw [key b e]; exact ⟨m0 _ (Nat.le_refl _), r0 _ (Nat.le_refl _)⟩
    match i, j, hi, hj with
    | 0, 0, _, _ => rfl
    | 0, 1, hi, hj => exact absurd (g1 b hi).1 hj
    | 0, 2, hi, hj => exact absurd (g1 b hi).2 hj
    | 1, 0, hi, hj => exact absurd (g1 b hj).1 hi
    | 1, 1, _, _ => rfl
    | 1, 2, hi, hj => exact absurd (h.nm b hi).2.1 hj
    | 2, 0, hi, hj => exact absurd (g1 b hj).2 hi
    | 2, 1, hi, hj => exact absurd (h.nm b hj).2.1 hi
    | 2, 2, _, _ => rfl
    | _ + 3, _, hi, _ => exact absurd rfl hi
    | 0, _ + 3, _, hj => exact absurd rfl hj
    | 1, _ + 3, _, hj => exact absurd rfl hj
    | 2, _ + 3, _, hj => exact absurd rfl hj
  · have hz : W.heap.size < b := by simp at hb'; omega
    match i with
    | 0 => exact Decidable.byContradiction fun e => by have := key _ e; omega
    | 1 => exact m0 b (by omega)
    | 2 => exact r0 b (by omega)
    | _ + 3 => rfl
theorem Sta.init2 {w V W : World} {pa ma ra pb mb rb : Nat} {ρa ρb ρm ρr : Nat → Nat} {c d : Cfg} (t : TypeId) (ha : PrN w V pa ma ra ρa ρb c) (hv : Below V.heap.size V W) (h : PrN V W pb mb rb ρm ρr d) :
    Sta (W.alloc (.cells #[.slice none 0 0, .slice none 0 0, .slice none 0 0, .slice none 0 0, .slice none 0 0, .slice none 0 0, .int .i64 0] t)) (F2 W.heap.size ρa ρb ρm ρr) 2 (fun k => if k = 0 then pa else pb) (fun k => if k = 0 then ma else mb) (fun k => if k = 0 then ra else rb) (fun k => if k = 0 then newM c else newM d) (fun k => if k = 0 then rNew c else rNew d) W.heap.size 0 := by
  have hb : Below W.heap.size W (W.alloc (.cells #[.slice none 0 0, .slice none 0 0, .slice none 0 0, .slice none 0 0, .slice none 0 0, .slice none 0 0, .int .i64 0] t)) := (Below.refl _ _).alloc (Nat.le_refl _) _
  have h' := h.below hb
  have ha' := (ha.below hv).below hb
  have hpl : pb < W.heap.size := lt_of_cell h.c0
  have hal : pa < V.heap.size := lt_of_cell ha.c0
  have hvz := hv.size
  have m0 := h.md.hi
  have r0 := h.rd.hi
  have ma0 := ha.md.hi
  have ra0 := ha.rd.hi
  have key : ∀ b, (newRole W.heap.size b ≠ 0 → b = W.heap.size) := fun b e => by
    unfold newRole at e
    split at e
    · assumption
    · exact absurd rfl e
  have la : ∀ b, ρa b ≠ 0 → b < V.heap.size := fun b e => Nat.lt_of_not_le fun h => e (ma0 b h)
  have lb : ∀ b, ρb b ≠ 0 → b < V.heap.size := fun b e => Nat.lt_of_not_le fun h => e (ra0 b h)
  have lm : ∀ b, ρm b ≠ 0 → V.heap.size ≤ b ∧ b < W.heap.size := fun b e => ⟨(h.nm b e).1, Nat.lt_of_not_le fun h => e (m0 b h)⟩
  have lr : ∀ b, ρr b ≠ 0 → V.heap.size ≤ b ∧ b < W.heap.size := fun b e => ⟨(h.nr b e).1, Nat.lt_of_not_le fun h => e (r0 b h)⟩
  have hpb := h.np
  refine ⟨fun k hk => ?_, fun k hk => ?_, fun k hk => ?_, bk_new W t, fun i j b hi hj => ?_, fun i b hb' => ?_⟩
  · rcases (by omega : k = 0 ∨ k = 1) with rfl | rfl
    · refine ⟨ha'.c0, ha'.c1, fun j => ?_⟩
      show F2 _ _ _ _ _ j pa = 0
      match j with
      | 0 => exact Decidable.byContradiction fun e => by have := key _ e; omega
      | 1 => exact Decidable.byContradiction fun e => (ha.nm pa e).2.2 rfl
      | 2 => exact Decidable.byContradiction fun e => (ha.nr pa e).2 rfl
      | 3 => exact Decidable.byContradiction fun e => by have := lm _ e; omega
      | 4 => exact Decidable.byContradiction fun e => by have := lr _ e; omega
      | _ + 5 => rfl
    · refine ⟨h'.c0, h'.c1, fun j => ?_⟩
      show F2 _ _ _ _ _ j pb = 0
      match j with
      | 0 => exact Decidable.byContradiction fun e => by have := key _ e; omega
      | 1 => exact Decidable.byContradiction fun e => by have := la _ e; omega
      | 2 => exact Decidable.byContradiction fun e => by have := lb _ e; omega
      | 3 => exact Decidable.byContradiction fun e => (h.nm pb e).2.2 rfl
      | 4 => exact Decidable.byContradiction fun e => (h.nr pb e).2 rfl
      | _ + 5 => rfl
  · rcases (by omega : k = 0 ∨ k = 1) with rfl | rfl
    · exact ⟨_, _, _, _, ha'.md⟩
    · exact ⟨_, _, _, _, h'.md⟩
  · rcases (by omega : k = 0 ∨ k = 1) with rfl | rfl
    · exact ⟨_, _, ha'.rd⟩
    · exact ⟨_, _, h'.rd⟩
  · have kb := key b
    have ka := la b
    have kB := lb b
    have km := lm b
    have kr := lr b
    match i, j, hi, hj with
    | 0, 0, _, _ => rfl
    | 1, 1, _, _ => rfl
    | 2, 2, _, _ => rfl
    | 3, 3, _, _ => rfl
    | 4, 4, _, _ => rfl
    | 0, 1, hi, hj => have := kb hi; have := ka hj; omega
    | 0, 2, hi, hj => have := kb hi; have := kB hj; omega
    | 0, 3, hi, hj => have := kb hi; have := km hj; omega
    | 0, 4, hi, hj => have := kb hi; have := kr hj; omega
    | 1, 0, hi, hj => have := kb hj; have := ka hi; omega
    | 2, 0, hi, hj => have := kb hj; have := kB hi; omega
    | 3, 0, hi, hj => have := kb hj; have := km hi; omega
    | 4, 0, hi, hj => have := kb hj; have := kr hi; omega
    | 1, 2, hi, hj => exact absurd (ha.nm b hi).2.1 hj
    | 2, 1, hi, hj => exact absurd (ha.nm b hj).2.1 hi
    | 3, 4, hi, hj => exact absurd (h.nm b hi).2.1 hj
    | 4, 3, hi, hj => exact absurd (h.nm b hj).2.1 hi
    | 1, 3, hi, hj => have := ka hi; have := km hj; omega
    | 1, 4, hi, hj => have := ka hi; have := kr hj; omega
    | 2, 3, hi, hj => have := kB hi; have := km hj; omega
    | 2, 4, hi, hj => have := kB hi; have := kr hj; omega
    | 3, 1, hi, hj => have := ka hj; have := km hi; omega
    | 4, 1, hi, hj => have := ka hj; have := kr hi; omega
    | 3, 2, hi, hj => have := kB hj; have := km hi; omega
    | 4, 2, hi, hj => have := kB hj; have := kr hi; omega
    | _ + 5, _, hi, _ => exact absurd rfl hi
    | 0, _ + 5, _, hj => exact absurd rfl hj
    | 1, _ + 5, _, hj => exact absurd rfl hj
    | 2, _ + 5, _, hj => exact absurd rfl hj
    | 3, _ + 5, _, hj => exact absurd rfl hj
    | 4, _ + 5, _, hj => exact absurd rfl hj
  · have hz : W.heap.size < b := by simp at hb'; omega
    match i with
    | 0 => exact Decidable.byContradiction fun e => by have := key _ e; omega
    | 1 => exact ma0 b (by omega)
    | 2 => exact ra0 b (by omega)
    | 3 => exact m0 b (by omega)
    | 4 => exact r0 b (by omega)
    | _ + 5 => rfl
end Rl
end Go.Proofs.YtdjhhnolcafkiaaGreat

/- A configuration and a script that came in. -/
namespace Go.Proofs.YtdjhhnolcafkiaaGreat
open Go.ChangeShapes Go.WideShapes Go.ChangeAt Go.RowKit Go.Deep
namespace Oi
open Up Pk Rl
section
variable {H : Type} {enc : TypeId × Value → H} {W : World} {base : Nat} {spare : Nat → Bool} {held : Bool}
theorem list6 {cs : List Value} (h : cs.length = 6) : ∃ c0 c1 c2 c3 c4 c5, cs = [c0, c1, c2, c3, c4, c5] := by
  match cs, h with
  | [c0, c1, c2, c3, c4, c5], _ => exact ⟨c0, c1, c2, c3, c4, c5, rfl⟩

set_option maxRecDepth 100000 in
theorem want_in {fuel : Nat} {cs : List Value} {x : DataW H × List MemPlace} (h : DataW.trod enc Tryz.prog W base spare held fuel 39 cs = some x) : ∃ p : Plan, cs = [.int .i64 p.source, .int .i64 p.second, .int .i64 p.ty, .int .i64 p.secondTy, .int .i64 p.first, .int .i64 p.secondFirst] := by
  have hC : Tryz.prog.cellsOf 39 = 6 := by kernel_rfl
  obtain ⟨xs, n, _, rfl, hcl, hxl, hx⟩ := DataW.trod_struct Tryz.underlying39 h
  obtain ⟨c0, c1, c2, c3, c4, c5, rfl⟩ := list6 (hcl.trans hC)
  have k3 : Tryz.prog.cellsOf 3 = 1 := by kernel_rfl
  have hlen : xs.length = 6 := hxl
  have at_ : ∀ i, i < 6 → ∃ y, xs[i]? = some y := fun i hi => ⟨xs[i], List.getElem?_eq_getElem (by omega)⟩
  obtain ⟨z0, g0⟩ := at_ 0 (by omega)
  have e0 := (hx 0 _ rfl).trans g0
  obtain ⟨z1, g1⟩ := at_ 1 (by omega)
  have e1 := (hx 1 _ rfl).trans g1
  obtain ⟨z2, g2⟩ := at_ 2 (by omega)
  have e2 := (hx 2 _ rfl).trans g2
  obtain ⟨z3, g3⟩ := at_ 3 (by omega)
  have e3 := (hx 3 _ rfl).trans g3
  obtain ⟨z4, g4⟩ := at_ 4 (by omega)
  have e4 := (hx 4 _ rfl).trans g4
  obtain ⟨z5, g5⟩ := at_ 5 (by omega)
  have e5 := (hx 5 _ rfl).trans g5
  simp [k3] at e0 e1 e2 e3 e4 e5
  obtain ⟨v0, m0, _, _⟩ := DataW.trod_int Tryz.underlying3 e0
  obtain ⟨v1, m1, _, _⟩ := DataW.trod_int Tryz.underlying3 e1
  obtain ⟨v2, m2, _, _⟩ := DataW.trod_int Tryz.underlying3 e2
  obtain ⟨v3, m3, _, _⟩ := DataW.trod_int Tryz.underlying3 e3
  obtain ⟨v4, m4, _, _⟩ := DataW.trod_int Tryz.underlying3 e4
  obtain ⟨v5, m5, _, _⟩ := DataW.trod_int Tryz.underlying3 e5
  simp only [List.cons.injEq, and_true] at m0 m1 m2 m3 m4 m5
  subst m0 m1 m2 m3 m4 m5
  exact ⟨⟨v0, v1, v2, v3, v4, v5⟩, rfl⟩

theorem list7 {cs : List Value} (h : cs.length = 7) : ∃ c0 c1 c2 c3 c4 c5 c6, cs = [c0, c1, c2, c3, c4, c5, c6] := by
  match cs, h with
  | [c0, c1, c2, c3, c4, c5, c6], _ => exact ⟨c0, c1, c2, c3, c4, c5, c6, rfl⟩

set_option maxRecDepth 100000 in
theorem cfg_in {fuel : Nat} {cs : List Value} {x : DataW H × List MemPlace} (h : DataW.trod enc Tryz.prog W base spare held fuel 23 cs = some x) : ∃ p : Cfg, cs = [.int .i64 p.ring, .int .i64 p.window, .int .i64 p.delay, .int .i64 p.rate, .int .i64 p.burst, .int .i64 p.retry, .int .i64 p.tries] := by
  have hC : Tryz.prog.cellsOf 23 = 7 := by kernel_rfl
  obtain ⟨xs, n, _, rfl, hcl, hxl, hx⟩ := DataW.trod_struct Tryz.underlying23 h
  obtain ⟨c0, c1, c2, c3, c4, c5, c6, rfl⟩ := list7 (hcl.trans hC)
  have k3 : Tryz.prog.cellsOf 3 = 1 := by kernel_rfl
  have hlen : xs.length = 7 := hxl
  have at_ : ∀ i, i < 7 → ∃ y, xs[i]? = some y := fun i hi => ⟨xs[i], List.getElem?_eq_getElem (by omega)⟩
  obtain ⟨z0, g0⟩ := at_ 0 (by omega)
  have e0 := (hx 0 _ rfl).trans g0
  obtain ⟨z1, g1⟩ := at_ 1 (by omega)
  have e1 := (hx 1 _ rfl).trans g1
  obtain ⟨z2, g2⟩ := at_ 2 (by omega)
  have e2 := (hx 2 _ rfl).trans g2
  obtain ⟨z3, g3⟩ := at_ 3 (by omega)
  have e3 := (hx 3 _ rfl).trans g3
  obtain ⟨z4, g4⟩ := at_ 4 (by omega)
  have e4 := (hx 4 _ rfl).trans g4
  obtain ⟨z5, g5⟩ := at_ 5 (by omega)
  have e5 := (hx 5 _ rfl).trans g5
  obtain ⟨z6, g6⟩ := at_ 6 (by omega)
  have e6 := (hx 6 _ rfl).trans g6
  simp [k3] at e0 e1 e2 e3 e4 e5 e6
  obtain ⟨v0, m0, _, _⟩ := DataW.trod_int Tryz.underlying3 e0
  obtain ⟨v1, m1, _, _⟩ := DataW.trod_int Tryz.underlying3 e1
  obtain ⟨v2, m2, _, _⟩ := DataW.trod_int Tryz.underlying3 e2
  obtain ⟨v3, m3, _, _⟩ := DataW.trod_int Tryz.underlying3 e3
  obtain ⟨v4, m4, _, _⟩ := DataW.trod_int Tryz.underlying3 e4
  obtain ⟨v5, m5, _, _⟩ := DataW.trod_int Tryz.underlying3 e5
  obtain ⟨v6, m6, _, _⟩ := DataW.trod_int Tryz.underlying3 e6
  simp only [List.cons.injEq, and_true] at m0 m1 m2 m3 m4 m5 m6
  subst m0 m1 m2 m3 m4 m5 m6
  exact ⟨⟨v0, v1, v2, v3, v4, v5, v6⟩, rfl⟩

theorem list11 {cs : List Value} (h : cs.length = 11) : ∃ c0 c1 c2 c3 c4 c5 c6 c7 c8 c9 c10, cs = [c0, c1, c2, c3, c4, c5, c6, c7, c8, c9, c10] := by
  match cs, h with
  | [c0, c1, c2, c3, c4, c5, c6, c7, c8, c9, c10], _ => exact ⟨c0, c1, c2, c3, c4, c5, c6, c7, c8, c9, c10, rfl⟩

set_option maxRecDepth 100000 in
/-- a packet that came in -/
theorem packet_in {fuel : Nat} {cs : List Value} {x : DataW H × List MemPlace} (h : DataW.trod enc Tryz.prog W base spare held fuel 41 cs = some x) (hk : Rows.uptoBulk x.1 ≤ 1048576) :
    ∃ (mk ex : Bool) (ty nu ti so pr pd : Int) (cv : Value) (cl : List Int) (en py : ByteArray), cs = [.bool mk, .int .i64 ty, .int .i64 nu, .int .i64 ti, .int .i64 so, cv, .bool ex, .int .i64 pr, .string en, .string py, .int .i64 pd] ∧
      Pk.IsInts W.heap.size W cv cl ∧ cl.length ≤ 1048576 ∧ en.size ≤ 1048576 ∧ py.size ≤ 1048576 := by
  have hC : Tryz.prog.cellsOf 41 = 11 := by kernel_rfl
  obtain ⟨xs, n, _, rfl, hcl, hxl, hx⟩ := DataW.trod_struct Tryz.underlying41 h
  obtain ⟨c0, c1, c2, c3, c4, c5, c6, c7, c8, c9, c10, rfl⟩ := list11 (hcl.trans hC)
  have k4 : Tryz.prog.cellsOf 4 = 1 := by kernel_rfl
  have k3 : Tryz.prog.cellsOf 3 = 1 := by kernel_rfl
  have k9 : Tryz.prog.cellsOf 9 = 1 := by kernel_rfl
  have k27 : Tryz.prog.cellsOf 34 = 1 := by kernel_rfl
  have hlen : xs.length = 11 := hxl
  have at_ : ∀ i, i < 11 → ∃ y, xs[i]? = some y := fun i hi => ⟨xs[i], List.getElem?_eq_getElem (by omega)⟩
  obtain ⟨z0, g0⟩ := at_ 0 (by omega); obtain ⟨z1, g1⟩ := at_ 1 (by omega); obtain ⟨z2, g2⟩ := at_ 2 (by omega); obtain ⟨z3, g3⟩ := at_ 3 (by omega)
  obtain ⟨z4, g4⟩ := at_ 4 (by omega); obtain ⟨z5, g5⟩ := at_ 5 (by omega); obtain ⟨z6, g6⟩ := at_ 6 (by omega); obtain ⟨z7, g7⟩ := at_ 7 (by omega)
  obtain ⟨z8, g8⟩ := at_ 8 (by omega); obtain ⟨z9, g9⟩ := at_ 9 (by omega); obtain ⟨z10, g10⟩ := at_ 10 (by omega)
  have e0 := (hx 0 _ rfl).trans g0; have e1 := (hx 1 _ rfl).trans g1; have e2 := (hx 2 _ rfl).trans g2; have e3 := (hx 3 _ rfl).trans g3
  have e4 := (hx 4 _ rfl).trans g4; have e5 := (hx 5 _ rfl).trans g5; have e6 := (hx 6 _ rfl).trans g6; have e7 := (hx 7 _ rfl).trans g7
  have e8 := (hx 8 _ rfl).trans g8; have e9 := (hx 9 _ rfl).trans g9; have e10 := (hx 10 _ rfl).trans g10
  simp [k4, k3, k9, k27] at e0 e1 e2 e3 e4 e5 e6 e7 e8 e9 e10
  have hb := bulk_agg (xs.map (·.1))
  simp only at hk
  have mem : ∀ (i : Nat) (z : DataW H × List MemPlace), xs[i]? = some z → Rows.uptoBulk z.1 ≤ 1048576 := fun i z hz => by
    have := bulk_mem (d := z.1) (l := xs.map (·.1)) (List.mem_map.2 ⟨z, List.mem_of_getElem? hz, rfl⟩)
    omega
  obtain ⟨mk, m0, _⟩ := DataW.trod_bool Tryz.underlying4 e0
  obtain ⟨ty, m1, _, _⟩ := DataW.trod_int Tryz.underlying3 e1
  obtain ⟨nu, m2, _, _⟩ := DataW.trod_int Tryz.underlying3 e2
  obtain ⟨ti, m3, _, _⟩ := DataW.trod_int Tryz.underlying3 e3
  obtain ⟨so, m4, _, _⟩ := DataW.trod_int Tryz.underlying3 e4
  obtain ⟨cl, i1, i2⟩ := ints_in e5
  obtain ⟨ex, m6, _⟩ := DataW.trod_bool Tryz.underlying4 e6
  obtain ⟨pr, m7, _, _⟩ := DataW.trod_int Tryz.underlying3 e7
  obtain ⟨en, m8, w8⟩ := text_in e8
  obtain ⟨py, m9, w9⟩ := text_in e9
  obtain ⟨pd, m10, _, _⟩ := DataW.trod_int Tryz.underlying3 e10
  simp only [List.cons.injEq, and_true] at m0 m1 m2 m3 m4 m6 m7 m10
  subst m0 m1 m2 m3 m4 m6 m7 m8 m9 m10
  have b5 := mem 5 _ g5
  have b8 := mem 8 _ g8
  have b9 := mem 9 _ g9
  exact ⟨mk, ex, ty, nu, ti, so, pr, pd, c5, cl, en, py, rfl, i1, by omega, by omega, by omega⟩

theorem list3 {cs : List Value} (h : cs.length = 3) : ∃ c0 c1 c2, cs = [c0, c1, c2] := by
  match cs, h with
  | [c0, c1, c2], _ => exact ⟨c0, c1, c2, rfl⟩

set_option maxRecDepth 100000 in
theorem asking_in {fuel : Nat} {cs : List Value} {x : DataW H × List MemPlace} (h : DataW.trod enc Tryz.prog W base spare held fuel 43 cs = some x) (hk : Rows.uptoBulk x.1 ≤ 1048576) :
    ∃ (se so : Int) (cv : Value) (cl : List Int), cs = [.int .i64 se, .int .i64 so, cv] ∧ Pk.IsInts W.heap.size W cv cl ∧ cl.length ≤ 1048576 := by
  have hC : Tryz.prog.cellsOf 43 = 3 := by kernel_rfl
  obtain ⟨xs, n, _, rfl, hcl, hxl, hx⟩ := DataW.trod_struct Tryz.underlying43 h
  obtain ⟨c0, c1, c2, rfl⟩ := list3 (hcl.trans hC)
  have k3 : Tryz.prog.cellsOf 3 = 1 := by kernel_rfl
  have k27 : Tryz.prog.cellsOf 34 = 1 := by kernel_rfl
  have hlen : xs.length = 3 := hxl
  have at_ : ∀ i, i < 3 → ∃ y, xs[i]? = some y := fun i hi => ⟨xs[i], List.getElem?_eq_getElem (by omega)⟩
  obtain ⟨z0, g0⟩ := at_ 0 (by omega); obtain ⟨z1, g1⟩ := at_ 1 (by omega); obtain ⟨z2, g2⟩ := at_ 2 (by omega)
  have e0 := (hx 0 _ rfl).trans g0; have e1 := (hx 1 _ rfl).trans g1; have e2 := (hx 2 _ rfl).trans g2
  simp [k3, k27] at e0 e1 e2
  have hb := bulk_agg (xs.map (·.1))
  simp only at hk
  have mem : ∀ (i : Nat) (z : DataW H × List MemPlace), xs[i]? = some z → Rows.uptoBulk z.1 ≤ 1048576 := fun i z hz => by
    have := bulk_mem (d := z.1) (l := xs.map (·.1)) (List.mem_map.2 ⟨z, List.mem_of_getElem? hz, rfl⟩)
    omega
  obtain ⟨se, m0, _, _⟩ := DataW.trod_int Tryz.underlying3 e0
  obtain ⟨so, m1, _, _⟩ := DataW.trod_int Tryz.underlying3 e1
  obtain ⟨cl, i1, i2⟩ := ints_in e2
  simp only [List.cons.injEq, and_true] at m0 m1
  subst m0 m1
  have b2 := mem 2 _ g2
  exact ⟨se, so, c2, cl, rfl, i1, by omega⟩

theorem list30 {cs : List Value} (h : cs.length = 30) : ∃ c0 c1 c2 c3 c4 c5 c6 c7 c8 c9 c10 c11 c12 c13 c14 c15 c16 c17 c18 c19 c20 c21 c22 c23 c24 c25 c26 c27 c28 c29, cs = [c0, c1, c2, c3, c4, c5, c6, c7, c8, c9, c10, c11, c12, c13, c14, c15, c16, c17, c18, c19, c20, c21, c22, c23, c24, c25, c26, c27, c28, c29] := by
  match cs, h with
  | [c0, c1, c2, c3, c4, c5, c6, c7, c8, c9, c10, c11, c12, c13, c14, c15, c16, c17, c18, c19, c20, c21, c22, c23, c24, c25, c26, c27, c28, c29], _ => exact ⟨c0, c1, c2, c3, c4, c5, c6, c7, c8, c9, c10, c11, c12, c13, c14, c15, c16, c17, c18, c19, c20, c21, c22, c23, c24, c25, c26, c27, c28, c29, rfl⟩

set_option maxRecDepth 100000 in
/-- a step that came in -/
theorem op_in {fuel : Nat} {cs : List Value} {x : DataW H × List MemPlace} (h : DataW.trod enc Tryz.prog W base spare held fuel 45 cs = some x) (hk : Rows.uptoBulk x.1 ≤ 1048576) :
    ∃ o : OpD, cs = opL o ∧ OpOk W.heap.size W o := by
  have hC : Tryz.prog.cellsOf 45 = 30 := by kernel_rfl
  obtain ⟨xs, n, _, rfl, hcl, hxl, hx⟩ := DataW.trod_struct Tryz.underlying45 h
  obtain ⟨c0, c1, c2, c3, c4, c5, c6, c7, c8, c9, c10, c11, c12, c13, c14, c15, c16, c17, c18, c19, c20, c21, c22, c23, c24, c25, c26, c27, c28, c29, rfl⟩ := list30 (hcl.trans hC)
  have k3 : Tryz.prog.cellsOf 3 = 1 := by kernel_rfl
  have k9 : Tryz.prog.cellsOf 9 = 1 := by kernel_rfl
  have kW : Tryz.prog.cellsOf 39 = 6 := by kernel_rfl
  have kC : Tryz.prog.cellsOf 23 = 7 := by kernel_rfl
  have kP : Tryz.prog.cellsOf 41 = 11 := by kernel_rfl
  have kA : Tryz.prog.cellsOf 43 = 3 := by kernel_rfl
  have hlen : xs.length = 7 := hxl
  have at_ : ∀ i, i < 7 → ∃ y, xs[i]? = some y := fun i hi => ⟨xs[i], List.getElem?_eq_getElem (by omega)⟩
  obtain ⟨z0, g0⟩ := at_ 0 (by omega)
  have e0 := (hx 0 _ rfl).trans g0
  obtain ⟨z1, g1⟩ := at_ 1 (by omega)
  have e1 := (hx 1 _ rfl).trans g1
  obtain ⟨z2, g2⟩ := at_ 2 (by omega)
  have e2 := (hx 2 _ rfl).trans g2
  obtain ⟨z3, g3⟩ := at_ 3 (by omega)
  have e3 := (hx 3 _ rfl).trans g3
  obtain ⟨z4, g4⟩ := at_ 4 (by omega)
  have e4 := (hx 4 _ rfl).trans g4
  obtain ⟨z5, g5⟩ := at_ 5 (by omega)
  have e5 := (hx 5 _ rfl).trans g5
  obtain ⟨z6, g6⟩ := at_ 6 (by omega)
  have e6 := (hx 6 _ rfl).trans g6
  simp [k3, k9, kW, kC, kP, kA] at e0 e1 e2 e3 e4 e5 e6
  have hb := bulk_agg (xs.map (·.1))
  simp only at hk
  have mem : ∀ (i : Nat) (z : DataW H × List MemPlace), xs[i]? = some z → Rows.uptoBulk z.1 ≤ 1048576 := fun i z hz => by
    have := bulk_mem (d := z.1) (l := xs.map (·.1)) (List.mem_map.2 ⟨z, List.mem_of_getElem? hz, rfl⟩)
    omega
  obtain ⟨kind, m0, _, _⟩ := DataW.trod_int Tryz.underlying3 e0
  obtain ⟨nn, m1, _, _⟩ := DataW.trod_int Tryz.underlying3 e1
  obtain ⟨tx, m2, w2⟩ := text_in e2
  obtain ⟨pl, m3⟩ := want_in e3
  obtain ⟨cf, m4⟩ := cfg_in e4
  obtain ⟨mk, ex, ty, nu, ti, so, pr, pd, cv, cl, en, py, m5, i1, i2, i3, i4⟩ := packet_in e5 (mem 5 _ g5)
  obtain ⟨se, s2, nv, nl, m6, j1, j2⟩ := asking_in e6 (mem 6 _ g6)
  have b2 := mem 2 _ g2
  obtain ⟨ca, cc, hcv, hci⟩ := i1
  obtain ⟨na, nc, hnv, -⟩ := j1
  subst hcv hnv
  simp only [List.cons.injEq, and_true] at m0 m1 m3 m4 m5 m6
  subst m0 m1 m2
  refine ⟨⟨kind, nn, tx, pl, cf, ⟨mk, ex, ty, nu, ti, so, pr, pd, cl, en, py⟩, ca, cc, se, s2, na, nl.length, nc⟩, ?_, by unfold maxLen; simp only; omega, by simp only; omega, by simp only; omega, by simp only; omega, ⟨ca, cc, rfl, hci⟩⟩
  unfold opL opKL
  simp only [m3, m4, m5, m6]

theorem list_of {α : Type} (P : Nat → α → Prop) : ∀ n : Nat, (∀ i, i < n → ∃ a, P i a) → ∃ l : List α, l.length = n ∧ ∀ i a, l[i]? = some a → P i a
  | 0, _ => ⟨[], rfl, fun i a h => by simp at h⟩
  | n + 1, h => by
    obtain ⟨l, h1, h2⟩ := list_of P n (fun i hi => h i (by omega))
    obtain ⟨a, ha⟩ := h n (by omega)
    refine ⟨l ++ [a], by simp [h1], fun i b hb => ?_⟩
    by_cases hi : i < n
    · rw [List.getElem?_append_left (by omega)] at hb
      exact h2 i b hb
    · rw [List.getElem?_append_right (by omega)] at hb
      have hlt : i - l.length < 1 := by
        have := (List.getElem?_eq_some_iff.1 hb).1
        simpa using this
      obtain rfl : i = n := by omega
      rw [h1, Nat.sub_self] at hb
      simp at hb
      rw [← hb]
      exact ha

/-- the script that came in -/
theorem ops_in {fuel : Nat} {c : Value} {x : DataW H × List MemPlace} (h : DataW.trod enc Tryz.prog W base spare held fuel 24 [c] = some x) (hk : Rows.uptoBulk x.1 ≤ 1048576) :
    ∃ l : List OpD, IsOps W.heap.size W c l ∧ l.length ≤ 1048576 ∧ ∀ o ∈ l, OpOk W.heap.size W o := by
  have hC : Tryz.prog.cellsOf 45 = 30 := by kernel_rfl
  rcases open_slice Tryz.underlying24 h with ⟨hcs, _⟩ | ⟨a, len, cap, m, n, D, Pl, hcs, _, hl, hm, hmm, rfl, hx⟩
  · simp only [List.cons.injEq, and_true] at hcs
    subst hcs
    exact ⟨[], ⟨none, 0, rfl, fun j r hj => by simp at hj⟩, Nat.zero_le _, by simp⟩
  · simp only [List.cons.injEq, and_true] at hcs
    subst hcs
    have hlm : len ≤ m := by rw [hmm]; split <;> omega
    have hb1 := bulk_row ((List.range len).map D) ((List.range (m - len)).map fun j => D (len + j))
    have hb2 := bulk_len ((List.range len).map D)
    rw [List.length_map, List.length_range] at hb2
    simp only at hk
    have key : ∀ i, i < len → ∃ o : OpD, OpOk W.heap.size W o ∧ ∃ b off, a = ⟨b, off, none⟩ ∧ b < W.heap.size ∧ ∀ k u, (opL o)[k]? = some u → W.cell? ⟨b, off + i * 30 + k, none⟩ = some u := fun i hi => by
      obtain ⟨cs', h1, h2⟩ := hx i (by omega)
      rw [hC] at h1
      have hb3 := bulk_mem (d := D i) (l := (List.range len).map D) (List.mem_map.2 ⟨i, List.mem_range.2 hi, rfl⟩)
      obtain ⟨o, rfl, r1⟩ := op_in h2 (by simp only; omega)
      obtain ⟨_, _, hcell⟩ := World.cells?_some h1
      obtain ⟨b, off, spot⟩ := a
      have hspot : spot = none := by
        obtain ⟨cs0, h10, _⟩ := hx 0 (by omega)
        obtain ⟨_, hl0, hc0⟩ := World.cells?_some h10
        have h := (hc0 0 (by omega)).trans (List.getElem?_eq_getElem (by omega))
        simpa [Addr.add] using World.cell?_spot h
      subst hspot
      rw [add_plain] at hcell
      have at_ : ∀ k u, (opL o)[k]? = some u → W.cell? ⟨b, off + i * 30 + k, none⟩ = some u := fun k u hu => by
        have hk30 : k < 30 := (List.getElem?_eq_some_iff.1 hu).1
        have := hcell k hk30
        rw [add_plain] at this
        exact this.trans hu
      exact ⟨o, r1, b, off, rfl, Pk.lt_of_cell (at_ 0 _ rfl), at_⟩
    obtain ⟨l, l1, l2⟩ := list_of _ len key
    refine ⟨l, ⟨some a, cap, by rw [l1], fun j o hj => ?_⟩, by omega, fun o ho => ?_⟩
    · obtain ⟨-, b, off, rfl, h1, h2⟩ := l2 j o hj
      exact ⟨b, off, rfl, h1, h2⟩
    · obtain ⟨j, hj⟩ := List.mem_iff_getElem?.1 ho
      exact (l2 j o hj).1

set_option maxRecDepth 100000 in
/-- the configuration that came in -/
theorem config_in {r : Reach} {b0 : Nat} {v : Value} {d : DataW H} {p : List MemPlace} (hv : Value.okWide Tryz.prog W r b0 23 v) (h : DataW.Trod enc Tryz.prog W base spare held 23 v d p) : ∃ c : Cfg, v = .agg #[.int .i64 c.ring, .int .i64 c.window, .int .i64 c.delay, .int .i64 c.rate, .int .i64 c.burst, .int .i64 c.retry, .int .i64 c.tries] := by
  obtain ⟨cs, rfl, hsz⟩ := okWide_struct Tryz.underlying23 hv
  obtain ⟨m, hm⟩ := h
  obtain ⟨c, hc⟩ := cfg_in hm
  refine ⟨c, ?_⟩
  congr 1
  apply Array.toList_inj.1
  simpa [Value.cells] using hc
end
end Oi
end Go.Proofs.YtdjhhnolcafkiaaGreat

/- plays, of the kinds up to 7. -/
namespace Go.Proofs.YtdjhhnolcafkiaaGreat
open Go.RowKit Pk Rl
namespace Rl
def LkS2 (PA ma ra : Nat) (s : Stt) (PB mb rb : Nat) (t : Stt) (W : World) : Prop := W.cell? ⟨PA, 0, none⟩ = some (.pointer (some ⟨ma, 0, none⟩)) ∧ W.cell? ⟨PA, 1, none⟩ = some (.pointer (some ⟨ra, 0, none⟩)) ∧ W.cell? ⟨ra, 7, none⟩ = some (.int .i64 s.now) ∧ W.cell? ⟨ra, 8, none⟩ = some (.int .i64 s.tokens) ∧ W.cell? ⟨ra, 9, none⟩ = some (.int .i64 s.passed) ∧ W.cell? ⟨ra, 10, none⟩ = some (.int .i64 s.late) ∧ W.cell? ⟨ra, 11, none⟩ = some (.int .i64 s.doubled) ∧ W.cell? ⟨ra, 12, none⟩ = some (.int .i64 s.wrong) ∧ W.cell? ⟨ra, 13, none⟩ = some (.int .i64 s.unknown) ∧ W.cell? ⟨ra, 14, none⟩ = some (.int .i64 s.again) ∧ W.cell? ⟨ra, 15, none⟩ = some (.int .i64 s.refused) ∧ W.cell? ⟨ra, 16, none⟩ = some (.int .i64 s.asked) ∧ W.cell? ⟨ra, 17, none⟩ = some (.int .i64 s.givenUp) ∧ W.cell? ⟨PB, 0, none⟩ = some (.pointer (some ⟨mb, 0, none⟩)) ∧ W.cell? ⟨PB, 1, none⟩ = some (.pointer (some ⟨rb, 0, none⟩)) ∧ W.cell? ⟨rb, 7, none⟩ = some (.int .i64 t.now) ∧ W.cell? ⟨rb, 8, none⟩ = some (.int .i64 t.tokens) ∧ W.cell? ⟨rb, 9, none⟩ = some (.int .i64 t.passed) ∧ W.cell? ⟨rb, 10, none⟩ = some (.int .i64 t.late) ∧ W.cell? ⟨rb, 11, none⟩ = some (.int .i64 t.doubled) ∧ W.cell? ⟨rb, 12, none⟩ = some (.int .i64 t.wrong) ∧ W.cell? ⟨rb, 13, none⟩ = some (.int .i64 t.unknown) ∧ W.cell? ⟨rb, 14, none⟩ = some (.int .i64 t.again) ∧ W.cell? ⟨rb, 15, none⟩ = some (.int .i64 t.refused) ∧ W.cell? ⟨rb, 16, none⟩ = some (.int .i64 t.asked) ∧ W.cell? ⟨rb, 17, none⟩ = some (.int .i64 t.givenUp)
theorem LkS.two {PA ma ra PB mb rb : Nat} {s t : Stt} {W : World} (h : LkS PA ma ra s W) (k : LkS PB mb rb t W) : LkS2 PA ma ra s PB mb rb t W := by
  obtain ⟨a0, a1, a2, a3, a4, a5, a6, a7, a8, a9, a10, a11, a12⟩ := h
  obtain ⟨b0, b1, b2, b3, b4, b5, b6, b7, b8, b9, b10, b11, b12⟩ := k
  exact ⟨a0, a1, a2, a3, a4, a5, a6, a7, a8, a9, a10, a11, a12, b0, b1, b2, b3, b4, b5, b6, b7, b8, b9, b10, b11, b12⟩
/-- amid a script -/
structure PLS (w : World) (K : Nat) (pb mb rb : Nat → Nat) (g n i p q : Nat) (F : Nat → Nat → Nat) (M : Nat → Md) (R : Nat → Rm) (W : World) : Prop where
  p : p < K
  q : q < K
  st : Sta W F K pb mb rb M R g n
  rel : ∀ k, k < K → Rel i (M k) (R k)
  af : ∀ b, b < w.heap.size → ∀ j, F j b = 0
  bl : Below w.heap.size w W
section
variable {w W W' : World} {K : Nat} {pb mb rb : Nat → Nat} {g n i p q : Nat} {F F' : Nat → Nat → Nat} {M : Nat → Md} {R : Nat → Rm}
theorem PLS.vary (h : PLS w K pb mb rb g n i p q F M R W) {M' : Nat → Md} {R' : Nat → Rm} {n' i' : Nat} (hs : Sta W' F' K pb mb rb M' R' g n') (hr : ∀ k, k < K → Rel i' (M' k) (R' k)) (hv : SMv W F W' F') : PLS w K pb mb rb g n' i' p q F' M' R' W' :=
  ⟨h.p, h.q, hs, hr, fun b hb => hv.1 b (Nat.lt_of_lt_of_le hb h.bl.size) (h.af b hb), h.bl.trans (hv.2.below h.bl.size (fun x ⟨j, e⟩ => Nat.le_of_not_lt fun hx => e (h.af x hx j)))⟩
theorem PLS.step (h : PLS w K pb mb rb g n i p q F M R W) {M1 : Md} {R1 : Rm} (hs : Sta W' F' K pb mb rb (upd M p M1) (upd R p R1) g (n + 2)) (hr : Rel (i + 1) M1 R1) (hv : SMv W F W' F') : PLS w K pb mb rb g (n + 2) (i + 1) p q F' (upd M p M1) (upd R p R1) W' :=
  h.vary hs (fun k hk => by
    unfold upd
    split
    · exact hr
    · exact (h.rel k hk).mono (Nat.le_succ _)) hv
theorem PLS.idle (h : PLS w K pb mb rb g n i p q F M R W) (hb : Below W.heap.size W W') : PLS w K pb mb rb g n i p q F M R W' := h.vary (h.st.below hb) h.rel (SMv.below hb)
theorem PLS.up (h : PLS w K pb mb rb g n i p q F M R W) : PLS w K pb mb rb g (n + 2) (i + 1) p q F M R W := ⟨h.p, h.q, h.st.mono (by omega), fun k hk => (h.rel k hk).mono (Nat.le_succ _), h.af, h.bl⟩
theorem PLS.swap (h : PLS w K pb mb rb g n i p q F M R W) : PLS w K pb mb rb g n i q p F M R W := ⟨h.q, h.p, h.st, h.rel, h.af, h.bl⟩
end
def knownC : Cfg := ⟨4, 8, 10, 5, 100, 20, 2⟩
theorem knownC_ok : cfgOk knownC = true := by decide
end Rl

set_option maxRecDepth 40000 in
set_option maxHeartbeats 8000000 in
theorem plays_any (c : Cfg) (L : List OpD) (sv : Value) (w : World) (hsv : IsOps w.heap.size w sv L) (hL : L.length ≤ 1048576) (hok : ∀ o ∈ L, OpOk w.heap.size w o) :
    Calls Tryz.prog 6 #[.agg #[.int .i64 c.ring, .int .i64 c.window, .int .i64 c.delay, .int .i64 c.rate, .int .i64 c.burst, .int .i64 c.retry, .int .i64 c.tries], sv, .int .i64 7] w fun e w' => e = .returned (.bool true) ∧ Below w.heap.size w w' := by
  obtain ⟨ao, cap, rfl, hcs⟩ := hsv
  have Hcs := Pk.hid hcs
  have Hok := Pk.hid hok
  obtain ⟨N, hN⟩ : ∃ N, L.length = N := ⟨_, rfl⟩
  have HN := Pk.hid hN
  rw [hN] at hL ⊢
  clear hcs hok hN
  have hp75 : Tryz.prog.stoodInHeld 49 = false := by kernel_rfl
  have hm75 : Tryz.prog.eqGuardType Tryz.prog.depth 49 = false := by kernel_rfl
  have HBa : Hid (∀ bk, Below w.heap.size w (w.alloc bk)) := fun bk => (Below.refl _ _).alloc (Nat.le_refl _) bk
  go_enter Tryz.func6, Tryz.ntmps6
  go_wp2_with fail
  refine (begun_any c _).mono ?_
  rintro e w1 ⟨hb1, hc1⟩
  have HB1 : Hid (Below w.heap.size w w1) := (HBa.out _).trans (hb1.mono (HBa.out _).size)
  have hz1 : w.heap.size ≤ (w.alloc (.cells #[.int .i64 c.ring, .int .i64 c.window, .int .i64 c.delay, .int .i64 c.rate, .int .i64 c.burst, .int .i64 c.retry, .int .i64 c.tries] 23)).heap.size := by simp
  generalize w.alloc (.cells #[.int .i64 c.ring, .int .i64 c.window, .int .i64 c.delay, .int .i64 c.rate, .int .i64 c.burst, .int .i64 c.retry, .int .i64 c.tries] 23) = w0 at *
  rcases hc1 with ⟨hf1, rfl⟩ | ⟨hf1, pa, ma, ra, ρa, ρb, rfl, hP1⟩
  · clear hb1
    go_wp2_with fail
    refine (begun_any knownC _).mono ?_
    rintro e w2 ⟨hb2, ⟨hf2, rfl⟩ | ⟨hf2, p2, m2, r2, ρm, ρr, rfl, hP2⟩⟩
    · exact absurd (hf2.symm.trans knownC_ok) (by decide)
    have HB2 : Hid (Below w.heap.size w w2) := HB1.out.trans (hb2.mono HB1.out.size)
    have HP2 := Pk.hid hP2
    clear hb2 hP2 hf2
    go_wp2
    have HS0 : Hid (∃ (K : Nat) (pb mb rb : Nat → Nat) (g p q : Nat) (F : Nat → Nat → Nat) (M : Nat → Md) (R : Nat → Rm), w2.heap.size = g ∧ p2 = pb p ∧ p2 = pb q ∧ PLS w K pb mb rb g 0 0 p q F M R (w2.alloc (.cells #[.slice none 0 0, .slice none 0 0, .slice none 0 0, .slice none 0 0, .slice none 0 0, .slice none 0 0, .int .i64 0] 37))) := by
      refine ⟨1, _, _, _, _, 0, 0, _, _, _, rfl, rfl, rfl, Nat.one_pos, Nat.one_pos, Sta.init1 _ HP2.out, fun k hk => Rel.new _ knownC_ok, fun b hb j => ?_, HB2.out.alloc HB2.out.size _⟩
      have h1 := HB1.out.size
      have h2 := HB2.out.size
      have hpz : w1.heap.size ≤ p2 := HP2.out.np
      match j with
      | 0 =>
        show newRole _ b = 0
        unfold newRole
        exact if_neg (by omega)
      | 1 => exact Decidable.byContradiction fun e => by have := (HP2.out.nm b e).1; omega
      | 2 => exact Decidable.byContradiction fun e => by have := (HP2.out.nr b e).1; omega
      | _ + 3 => rfl
    generalize w2.alloc (.cells #[.slice none 0 0, .slice none 0 0, .slice none 0 0, .slice none 0 0, .slice none 0 0, .slice none 0 0, .int .i64 0] 37) = W7 at *
    obtain ⟨K, pb, mb, rb, g, p0, q0, F0, M0, R0, hg, e1, e2, hPL⟩ := HS0.out
    rw [hg]
    rw [e2] at e1
    rw [e2]
    have HPL : Hid (PLS w K pb mb rb g 0 0 q0 q0 F0 M0 R0 W7) := ⟨hPL.q, hPL.q, hPL.st, hPL.rel, hPL.af, hPL.bl⟩
    clear hPL HS0 HB1 HB2 HP2 HBa e1 e2 hg hf1
    go_loopw [7, 8, 9, 12] (fun s7 s8 s9 s12 wr => ∃ (i p q : Nat) (F : Nat → Nat → Nat) (M : Nat → Md) (R : Nat → Rm), i ≤ N ∧ s12 = .int .i64 i ∧ s7 = .pointer (some ⟨pb p, 0, none⟩) ∧ s9 = .pointer (some ⟨pb q, 0, none⟩) ∧ s8 = .bool true ∧ PLS w K pb mb rb g (2 * i) i p q F M R wr) (fun _ _ _ s12 _ => N - (intOf s12).toNat)
    case atStart => exact ⟨0, q0, q0, F0, M0, R0, Nat.zero_le _, rfl, rfl, rfl, rfl, HPL.out⟩
    case round =>
      obtain ⟨i, p, q, F, M, R, hi, rfl, rfl, rfl, rfl, hP⟩ := hrel
      have HP := Pk.hid hP
      clear hP HPL
      by_cases hiN : i < N
      · have hiN' : (i : Int) < N := by omega
        obtain ⟨o, ho⟩ : ∃ o, L[i]? = some o := ⟨_, List.getElem?_eq_getElem (by rw [HN.out]; exact hiN)⟩
        obtain ⟨sb, off, rfl, hsb, hcl⟩ := Hcs.out i o ho
        have HOk : Hid (OpOk w.heap.size w o) := Hok.out o (List.mem_of_getElem? ho)
        have HCl : Hid (∀ j u, (opL o)[j]? = some u → wr.cell? (Addr.add ⟨sb, off + i * 30, none⟩ j) = some u) := fun j u hu => by
          have h1 := (HP.out.bl.cell (p := ⟨sb, off + i * 30 + j, none⟩) hsb).trans (hcl j u hu)
          rw [show (⟨sb, off + i * 30, none⟩ : Addr).add j = ⟨sb, off + i * 30 + j, none⟩ by unfold Addr.add; split <;> simp_all]
          exact h1
        clear hcl ho hsb
        go_wp2_with (refine wpList_load_list rfl 45 (.tmp 50) rfl ⟨sb, off + i * 30, none⟩ rfl (opKL o.kind o) (by kernel_rfl) (by kernel_rfl) HCl.out ?_; refine stop_here ?_)
        refine hid_in ?_
        go_wp2_with (refine wpList_store_new rfl 45 (.tmp 13) (.tmp 51) rfl wr #[.int .i64 0, .int .i64 0, .string ⟨#[]⟩, .int .i64 0, .int .i64 0, .int .i64 0, .int .i64 0, .int .i64 0, .int .i64 0, .int .i64 0, .int .i64 0, .int .i64 0, .int .i64 0, .int .i64 0, .int .i64 0, .int .i64 0, .bool false, .int .i64 0, .int .i64 0, .int .i64 0, .int .i64 0, .slice none 0 0, .bool false, .int .i64 0, .string ⟨#[]⟩, .string ⟨#[]⟩, .int .i64 0, .int .i64 0, .int .i64 0, .slice none 0 0] (opK o.kind o) rfl rfl rfl (by kernel_rfl) rfl (by kernel_rfl) ?_; refine stop_here ?_)
        refine hid_in ?_
        have hC1 : ∀ j u, ((opKL o.kind o) : List Value)[j]? = some u → (wr.alloc (.cells (opK o.kind o) 45)).cell? (Addr.add ⟨wr.heap.size, 0, none⟩ j) = some u := cells_new _ (opKL o.kind o) _
        have k0 : (wr.alloc (.cells (opK o.kind o) 45)).cell? ⟨wr.heap.size, 0, none⟩ = some (.int .i64 o.kind) := cell_new _ _ _ 0
        have hBb : Below wr.heap.size wr (wr.alloc (.cells (opK o.kind o) 45)) := (Below.refl _ _).alloc (Nat.le_refl _) _
        have HP1 : Hid (PLS w K pb mb rb g (2 * i) i p q F M R (wr.alloc (.cells (opK o.kind o) 45))) := HP.out.idle hBb
        have HOk1 : Hid (OpOk w.heap.size (wr.alloc (.cells (opK o.kind o) 45)) o) := ⟨HOk.out.tx, HOk.out.en, HOk.out.py, HOk.out.cl, HOk.out.cv.carry HP1.out.bl⟩
        have HC1 := Pk.hid hC1
        have hwz : w.heap.size ≤ (wr.alloc (.cells (opK o.kind o) 45)).heap.size := HP1.out.bl.size
        clear hBb HP HOk HCl hC1
        generalize wr.alloc (.cells (opK o.kind o) 45) = wb at *
        generalize wr.heap.size = B at *
        by_cases h7 : o.kind = 7
        · have h7' : (o.kind == 7) = true := by simp [h7]
          clear h7
          go_wp2_with fail
          refine (st_looks HP1.out.st (by omega)).mono ?_
          rintro e w3 ⟨rfl, s1, s2⟩
          have HP3 : Hid (PLS w K pb mb rb g (2 * i + 2) (i + 1) q p F M R w3) := ((HP1.out.vary s1 HP1.out.rel s2).up).swap
          clear s1 s2 k0
          go_wp2
          go_roundw
          case rel => exact ⟨i + 1, q, p, F, M, R, by omega, by go_num, rfl, rfl, rfl, HP3.out⟩
          case measure => simp [intOf]; omega
        · have h7' : (o.kind == 7) = false := by rw [beq_eq_false_iff_ne]; exact h7
          by_cases h8 : o.kind ≤ 7
          · have h8' : decide (o.kind ≤ 7) = true := decide_eq_true h8
            have h6 : o.kind ≤ 6 := by omega
            have hpk := HP1.out.p
            go_wp2_with (refine wpList_load_list rfl 45 (.tmp 13) rfl ⟨B, 0, none⟩ rfl (opKL o.kind o) (by kernel_rfl) (by kernel_rfl) HC1.out ?_; refine stop_here ?_)
            refine hid_in ?_
            go_wp2_with fail
            refine (step_any o w.heap.size HP1.out.st hpk (HP1.out.rel p hpk) (by omega) (by omega) HOk1.out hwz h6).mono ?_
            rintro e w2 ⟨rfl, F2, M1, R1, s1, s2, s3⟩
            have HP2 : Hid (PLS w K pb mb rb g (2 * i + 2) (i + 1) p q F2 (upd M p M1) (upd R p R1) w2) := HP1.out.step s1 s2 s3
            clear s1 s2 s3 k0
            go_wp2_with fail
            refine (st_looks HP2.out.st (by omega)).mono ?_
            rintro e w3 ⟨rfl, s1, s2⟩
            have HP3 : Hid (PLS w K pb mb rb g (2 * i + 2) (i + 1) p q F2 (upd M p M1) (upd R p R1) w3) := HP2.out.vary s1 HP2.out.rel s2
            clear s1 s2
            go_wp2
            go_roundw
            case rel => exact ⟨i + 1, p, q, F2, _, _, by omega, by go_num, rfl, rfl, rfl, HP3.out⟩
            case measure => simp [intOf]; omega
          · have h8' : decide (o.kind ≤ 7) = false := decide_eq_false h8
            go_wp2_with fail
            refine (st_looks HP1.out.st (by omega)).mono ?_
            rintro e w3 ⟨rfl, s1, s2⟩
            have HP3 : Hid (PLS w K pb mb rb g (2 * i + 2) (i + 1) p q F M R w3) := (HP1.out.vary s1 HP1.out.rel s2).up
            clear s1 s2 k0
            go_wp2
            go_roundw
            case rel => exact ⟨i + 1, p, q, F, M, R, by omega, by go_num, rfl, rfl, rfl, HP3.out⟩
            case measure => simp [intOf]; omega
      · have hiN' : ¬ (i : Int) < N := by omega
        obtain ⟨S, hS⟩ : ∃ S, (R p).sds.length = S := ⟨_, rfl⟩
        have HS := Pk.hid hS
        have hS4 : S ≤ 4 := by
          have h1 := HP.out.rel p HP.out.p
          have h2 := h1.sl
          have h3 := h1.s4
          omega
        clear hS
        go_wp2
        generalize wr = wo at *
        go_loopw [8, 16] (fun s8 s16 wr => ∃ (j : Nat) (F : Nat → Nat → Nat), j ≤ S ∧ s16 = .int .i64 j ∧ s8 = .bool true ∧ PLS w K pb mb rb g (2 * i + 2 * j) i p q F M R wr) (fun _ s16 _ => S - (intOf s16).toNat)
        case atStart => exact ⟨0, F, Nat.zero_le _, rfl, rfl, HP.out⟩
        case round =>
          obtain ⟨j, F3, hj, rfl, rfl, hP⟩ := hrel
          have HP3 := Pk.hid hP
          have hpk := hP.p
          obtain ⟨y0, y1, -⟩ := hP.st.pc p hpk
          unfold ptr at y0 y1
          obtain ⟨sv, wv, hR⟩ := hP.st.rd p hpk
          obtain ⟨aS, cS, hsv⟩ := rowA_shape hR.sr.1
          have y18 : wr.cell? ⟨rb p, 18, none⟩ = some sv := hR.k 18 _ rfl
          rw [HS.out] at hsv
          rw [hsv] at y18
          clear hP HP
          by_cases hjS : j < S
          · have hjS' : (j : Int) < S := by omega
            obtain ⟨s, hs⟩ : ∃ s, (R p).sds[j]? = some s := ⟨_, List.getElem?_eq_getElem (by rw [HS.out]; exact hjS)⟩
            obtain ⟨sg, scap, hsl, x0, -⟩ := hR.sndAt hs
            rw [hsv, HS.out] at hsl
            simp only [Value.slice.injEq, true_and] at hsl
            obtain ⟨rfl, rfl⟩ := hsl
            clear hR hs hsv
            go_wp2_with fail
            refine (lmissing_any HP3.out.st hpk (HP3.out.rel p hpk) (by omega) _).mono ?_
            rintro e w4 ⟨rfl, F4, s1, s2⟩
            have HP4 : Hid (PLS w K pb mb rb g (2 * i + 2 * j + 2) i p q F4 M R w4) := HP3.out.vary s1 HP3.out.rel s2
            clear s1 s2 y0 y1 y18 x0
            go_wp2
            go_roundw
            case rel => exact ⟨j + 1, F4, by omega, by go_num, rfl, HP4.out⟩
            case measure => simp [intOf]; omega
          · have hjS' : ¬ (j : Int) < S := by omega
            have hqk := HP3.out.q
            have es := (HP3.out.rel p hpk).s
            have et := (HP3.out.rel q hqk).s
            have Hes := Pk.hid es
            have Het := Pk.hid et
            have hS1 : LkS2 (pb p) (mb p) (rb p) (R p).s (pb q) (mb q) (rb q) (R q).s wr := (HP3.out.st.lk hpk).two (HP3.out.st.lk hqk)
            clear hR hsv es et
            go_wp2
            clear y0 y1 y18
            refine wp_region_noPanic ?_
            refine wp_region_held_drew (S := LkS2 (pb p) (mb p) (rb p) (R p).s (pb q) (mb q) (rb q) (R q).s) (by kernel_rfl) hS1 (fun hHeld => ?_)
            refine tkH 0 ?_ hHeld ?_ ?_; rotate_left
            · ((intro W hSw; obtain ⟨hS0, hS1, hS2, hS3, hS4, hS5, hS6, hS7, hS8, hS9, hS10, hS11, hS12, hS13, hS14, hS15, hS16, hS17, hS18, hS19, hS20, hS21, hS22, hS23, hS24, hS25⟩ := hSw; go_simp) <;> with_reducible rfl)
            refine tkH 1 ?_ hHeld ?_ ?_; rotate_left
            · ((intro W hSw; obtain ⟨hS0, hS1, hS2, hS3, hS4, hS5, hS6, hS7, hS8, hS9, hS10, hS11, hS12, hS13, hS14, hS15, hS16, hS17, hS18, hS19, hS20, hS21, hS22, hS23, hS24, hS25⟩ := hSw; go_simp) <;> with_reducible rfl)
            refine tkH 2 ?_ hHeld ?_ ?_; rotate_left
            · ((intro W hSw; obtain ⟨hS0, hS1, hS2, hS3, hS4, hS5, hS6, hS7, hS8, hS9, hS10, hS11, hS12, hS13, hS14, hS15, hS16, hS17, hS18, hS19, hS20, hS21, hS22, hS23, hS24, hS25⟩ := hSw; go_simp) <;> with_reducible rfl)
            refine tkH 3 ?_ hHeld ?_ ?_; rotate_left
            · ((intro W hSw; obtain ⟨hS0, hS1, hS2, hS3, hS4, hS5, hS6, hS7, hS8, hS9, hS10, hS11, hS12, hS13, hS14, hS15, hS16, hS17, hS18, hS19, hS20, hS21, hS22, hS23, hS24, hS25⟩ := hSw; go_simp) <;> with_reducible rfl)
            refine tkH 5 ?_ hHeld ?_ ?_; rotate_left
            · ((intro W hSw; obtain ⟨hS0, hS1, hS2, hS3, hS4, hS5, hS6, hS7, hS8, hS9, hS10, hS11, hS12, hS13, hS14, hS15, hS16, hS17, hS18, hS19, hS20, hS21, hS22, hS23, hS24, hS25⟩ := hSw; go_simp) <;> with_reducible rfl)
            refine tkH 6 ?_ hHeld ?_ ?_; rotate_left
            · ((intro W hSw; obtain ⟨hS0, hS1, hS2, hS3, hS4, hS5, hS6, hS7, hS8, hS9, hS10, hS11, hS12, hS13, hS14, hS15, hS16, hS17, hS18, hS19, hS20, hS21, hS22, hS23, hS24, hS25⟩ := hSw; go_simp) <;> with_reducible rfl)
            refine tkH 7 ?_ hHeld ?_ ?_; rotate_left
            · ((intro W hSw; obtain ⟨hS0, hS1, hS2, hS3, hS4, hS5, hS6, hS7, hS8, hS9, hS10, hS11, hS12, hS13, hS14, hS15, hS16, hS17, hS18, hS19, hS20, hS21, hS22, hS23, hS24, hS25⟩ := hSw; go_simp) <;> with_reducible rfl)
            refine tkH 8 ?_ hHeld ?_ ?_; rotate_left
            · ((intro W hSw; obtain ⟨hS0, hS1, hS2, hS3, hS4, hS5, hS6, hS7, hS8, hS9, hS10, hS11, hS12, hS13, hS14, hS15, hS16, hS17, hS18, hS19, hS20, hS21, hS22, hS23, hS24, hS25⟩ := hSw; go_simp) <;> with_reducible rfl)
            refine tkH 9 ?_ hHeld ?_ ?_; rotate_left
            · ((intro W hSw; obtain ⟨hS0, hS1, hS2, hS3, hS4, hS5, hS6, hS7, hS8, hS9, hS10, hS11, hS12, hS13, hS14, hS15, hS16, hS17, hS18, hS19, hS20, hS21, hS22, hS23, hS24, hS25⟩ := hSw; go_simp) <;> with_reducible rfl)
            refine tkH 10 ?_ hHeld ?_ ?_; rotate_left
            · ((intro W hSw; obtain ⟨hS0, hS1, hS2, hS3, hS4, hS5, hS6, hS7, hS8, hS9, hS10, hS11, hS12, hS13, hS14, hS15, hS16, hS17, hS18, hS19, hS20, hS21, hS22, hS23, hS24, hS25⟩ := hSw; go_simp) <;> with_reducible rfl)
            refine tkH 11 ?_ hHeld ?_ ?_; rotate_left
            · ((intro W hSw; obtain ⟨hS0, hS1, hS2, hS3, hS4, hS5, hS6, hS7, hS8, hS9, hS10, hS11, hS12, hS13, hS14, hS15, hS16, hS17, hS18, hS19, hS20, hS21, hS22, hS23, hS24, hS25⟩ := hSw; go_simp) <;> with_reducible rfl)
            refine wpAnyH_ready (rs := [4]) (by kernel_rfl) (by simp) ?_
            refine AllReadyH.cons rfl (fun K' hK => ?_) AllReadyH.nil
            go_simp
            refine (st_look (by first | exact HP3.out.st | exact HP3.out.st.below (Below.refl _ _).drew) hpk).mono ?_
            rintro e w5 ⟨rfl, hb5⟩
            have hB5 : Below wr.heap.size wr w5 := by first | exact hb5 | exact (Below.refl _ _).drew.trans (hb5.mono (by simp))
            have HP5 : Hid (PLS w K pb mb rb g (2 * i + 2 * j) i p q F3 M R w5) := HP3.out.idle hB5
            have hS5 : LkS2 (pb p) (mb p) (rb p) (R p).s (pb q) (mb q) (rb q) (R q).s w5 := (HP5.out.st.lk hpk).two (HP5.out.st.lk hqk)
            rw [Hes.out]
            unfold sttA
            clear hb5 hB5
            go_simp
            refine hK.out _ _ hS5 (fun hHeld => ?_)
            clear hK K' hS1
            try simp only [Act.put]
            try simp only [List.getElem_toArray]
            try simp only [List.getElem_cons_succ]
            try simp only [List.getElem_cons_zero]
            try simp only [List.setIfInBounds_toArray]
            try simp only [List.set_cons_succ]
            try simp only [List.set_cons_zero]
            refine tkH 12 ?_ hHeld ?_ ?_; rotate_left
            · ((intro W hSw; obtain ⟨hS0, hS1, hS2, hS3, hS4, hS5, hS6, hS7, hS8, hS9, hS10, hS11, hS12, hS13, hS14, hS15, hS16, hS17, hS18, hS19, hS20, hS21, hS22, hS23, hS24, hS25⟩ := hSw; go_simp) <;> with_reducible rfl)
            refine tkH 13 ?_ hHeld ?_ ?_; rotate_left
            · ((intro W hSw; obtain ⟨hS0, hS1, hS2, hS3, hS4, hS5, hS6, hS7, hS8, hS9, hS10, hS11, hS12, hS13, hS14, hS15, hS16, hS17, hS18, hS19, hS20, hS21, hS22, hS23, hS24, hS25⟩ := hSw; go_simp) <;> with_reducible rfl)
            refine tkH 14 ?_ hHeld ?_ ?_; rotate_left
            · ((intro W hSw; obtain ⟨hS0, hS1, hS2, hS3, hS4, hS5, hS6, hS7, hS8, hS9, hS10, hS11, hS12, hS13, hS14, hS15, hS16, hS17, hS18, hS19, hS20, hS21, hS22, hS23, hS24, hS25⟩ := hSw; go_simp) <;> with_reducible rfl)
            refine tkH 15 ?_ hHeld ?_ ?_; rotate_left
            · ((intro W hSw; obtain ⟨hS0, hS1, hS2, hS3, hS4, hS5, hS6, hS7, hS8, hS9, hS10, hS11, hS12, hS13, hS14, hS15, hS16, hS17, hS18, hS19, hS20, hS21, hS22, hS23, hS24, hS25⟩ := hSw; go_simp) <;> with_reducible rfl)
            refine tkH 16 ?_ hHeld ?_ ?_; rotate_left
            · ((intro W hSw; obtain ⟨hS0, hS1, hS2, hS3, hS4, hS5, hS6, hS7, hS8, hS9, hS10, hS11, hS12, hS13, hS14, hS15, hS16, hS17, hS18, hS19, hS20, hS21, hS22, hS23, hS24, hS25⟩ := hSw; go_simp) <;> with_reducible rfl)
            refine tkH 17 ?_ hHeld ?_ ?_; rotate_left
            · ((intro W hSw; obtain ⟨hS0, hS1, hS2, hS3, hS4, hS5, hS6, hS7, hS8, hS9, hS10, hS11, hS12, hS13, hS14, hS15, hS16, hS17, hS18, hS19, hS20, hS21, hS22, hS23, hS24, hS25⟩ := hSw; go_simp) <;> with_reducible rfl)
            refine tkH 19 ?_ hHeld ?_ ?_; rotate_left
            · ((intro W hSw; obtain ⟨hS0, hS1, hS2, hS3, hS4, hS5, hS6, hS7, hS8, hS9, hS10, hS11, hS12, hS13, hS14, hS15, hS16, hS17, hS18, hS19, hS20, hS21, hS22, hS23, hS24, hS25⟩ := hSw; go_simp) <;> with_reducible rfl)
            refine tkH 20 ?_ hHeld ?_ ?_; rotate_left
            · ((intro W hSw; obtain ⟨hS0, hS1, hS2, hS3, hS4, hS5, hS6, hS7, hS8, hS9, hS10, hS11, hS12, hS13, hS14, hS15, hS16, hS17, hS18, hS19, hS20, hS21, hS22, hS23, hS24, hS25⟩ := hSw; go_simp) <;> with_reducible rfl)
            refine tkH 21 ?_ hHeld ?_ ?_; rotate_left
            · ((intro W hSw; obtain ⟨hS0, hS1, hS2, hS3, hS4, hS5, hS6, hS7, hS8, hS9, hS10, hS11, hS12, hS13, hS14, hS15, hS16, hS17, hS18, hS19, hS20, hS21, hS22, hS23, hS24, hS25⟩ := hSw; go_simp) <;> with_reducible rfl)
            refine tkH 22 ?_ hHeld ?_ ?_; rotate_left
            · ((intro W hSw; obtain ⟨hS0, hS1, hS2, hS3, hS4, hS5, hS6, hS7, hS8, hS9, hS10, hS11, hS12, hS13, hS14, hS15, hS16, hS17, hS18, hS19, hS20, hS21, hS22, hS23, hS24, hS25⟩ := hSw; go_simp) <;> with_reducible rfl)
            refine tkH 23 ?_ hHeld ?_ ?_; rotate_left
            · ((intro W hSw; obtain ⟨hS0, hS1, hS2, hS3, hS4, hS5, hS6, hS7, hS8, hS9, hS10, hS11, hS12, hS13, hS14, hS15, hS16, hS17, hS18, hS19, hS20, hS21, hS22, hS23, hS24, hS25⟩ := hSw; go_simp) <;> with_reducible rfl)
            refine tkH 24 ?_ hHeld ?_ ?_; rotate_left
            · ((intro W hSw; obtain ⟨hS0, hS1, hS2, hS3, hS4, hS5, hS6, hS7, hS8, hS9, hS10, hS11, hS12, hS13, hS14, hS15, hS16, hS17, hS18, hS19, hS20, hS21, hS22, hS23, hS24, hS25⟩ := hSw; go_simp) <;> with_reducible rfl)
            refine tkH 25 ?_ hHeld ?_ ?_; rotate_left
            · ((intro W hSw; obtain ⟨hS0, hS1, hS2, hS3, hS4, hS5, hS6, hS7, hS8, hS9, hS10, hS11, hS12, hS13, hS14, hS15, hS16, hS17, hS18, hS19, hS20, hS21, hS22, hS23, hS24, hS25⟩ := hSw; go_simp) <;> with_reducible rfl)
            refine wpAnyH_ready (rs := [18]) (by kernel_rfl) (by simp) ?_
            refine AllReadyH.cons rfl (fun K' hK => ?_) AllReadyH.nil
            go_simp
            refine (st_look (by first | exact HP5.out.st | exact HP5.out.st.below (Below.refl _ _).drew) hqk).mono ?_
            rintro e w6 ⟨rfl, hb6⟩
            have hB6 : Below w5.heap.size w5 w6 := by first | exact hb6 | exact (Below.refl _ _).drew.trans (hb6.mono (by simp))
            have HP6 : Hid (PLS w K pb mb rb g (2 * i + 2 * j) i p q F3 M R w6) := HP5.out.idle hB6
            have hS6 : LkS2 (pb p) (mb p) (rb p) (R p).s (pb q) (mb q) (rb q) (R q).s w6 := (HP6.out.st.lk hpk).two (HP6.out.st.lk hqk)
            rw [Het.out]
            unfold sttA
            clear hb6 hB6
            go_simp
            refine hK.out _ _ hS6 (fun hHeld => ?_)
            clear hK K' hS5
            try simp only [Act.put]
            try simp only [List.getElem_toArray]
            try simp only [List.getElem_cons_succ]
            try simp only [List.getElem_cons_zero]
            try simp only [List.setIfInBounds_toArray]
            try simp only [List.set_cons_succ]
            try simp only [List.set_cons_zero]
            refine tkH 26 ?_ hHeld ?_ ?_; rotate_left
            · ((intro W hSw; obtain ⟨hS0, hS1, hS2, hS3, hS4, hS5, hS6, hS7, hS8, hS9, hS10, hS11, hS12, hS13, hS14, hS15, hS16, hS17, hS18, hS19, hS20, hS21, hS22, hS23, hS24, hS25⟩ := hSw; go_simp) <;> with_reducible rfl)
            refine tkH 27 ?_ hHeld ?_ ?_; rotate_left
            · ((intro W hSw; obtain ⟨hS0, hS1, hS2, hS3, hS4, hS5, hS6, hS7, hS8, hS9, hS10, hS11, hS12, hS13, hS14, hS15, hS16, hS17, hS18, hS19, hS20, hS21, hS22, hS23, hS24, hS25⟩ := hSw; go_simp) <;> with_reducible rfl)
            refine tkH 28 ?_ hHeld ?_ ?_; rotate_left
            · ((intro W hSw; obtain ⟨hS0, hS1, hS2, hS3, hS4, hS5, hS6, hS7, hS8, hS9, hS10, hS11, hS12, hS13, hS14, hS15, hS16, hS17, hS18, hS19, hS20, hS21, hS22, hS23, hS24, hS25⟩ := hSw; go_simp) <;> with_reducible rfl)
            refine wpAnyH_done (by kernel_rfl) ?_ _
            refine NoPanic.normal ?_
            clear hHeld hS6
            go_wp2
            go_ret
            exact ⟨rfl, HP6.out.bl⟩
  · have HP1 : Hid (PrN w0 w1 pa ma ra ρa ρb c) := hP1
    have Hf1 := Pk.hid hf1
    clear hb1 hP1 hf1
    go_wp2_with fail
    refine (begun_any knownC _).mono ?_
    rintro e w2 ⟨hb2, ⟨hf2, rfl⟩ | ⟨hf2, p2, m2, r2, ρm, ρr, rfl, hP2⟩⟩
    · exact absurd (hf2.symm.trans knownC_ok) (by decide)
    have HB2 : Hid (Below w.heap.size w w2) := HB1.out.trans (hb2.mono HB1.out.size)
    have HV := Pk.hid hb2
    have HP2 := Pk.hid hP2
    clear hb2 hP2 hf2
    go_wp2
    have HS0 : Hid (∃ (K : Nat) (pb mb rb : Nat → Nat) (g p q : Nat) (F : Nat → Nat → Nat) (M : Nat → Md) (R : Nat → Rm), w2.heap.size = g ∧ pa = pb p ∧ p2 = pb q ∧ PLS w K pb mb rb g 0 0 p q F M R (w2.alloc (.cells #[.slice none 0 0, .slice none 0 0, .slice none 0 0, .slice none 0 0, .slice none 0 0, .slice none 0 0, .int .i64 0] 37))) := by
      refine ⟨2, _, _, _, _, 0, 1, _, _, _, rfl, rfl, rfl, Nat.two_pos, by omega, Sta.init2 _ HP1.out HV.out HP2.out, fun k hk => ?_, fun b hb j => ?_, HB2.out.alloc HB2.out.size _⟩
      · rcases (by omega : k = 0 ∨ k = 1) with rfl | rfl
        · exact Rel.new _ Hf1.out
        · exact Rel.new _ knownC_ok
      have h1 := HB1.out.size
      have h2 := HB2.out.size
      match j with
      | 0 =>
        show newRole _ b = 0
        unfold newRole
        exact if_neg (by omega)
      | 1 => exact Decidable.byContradiction fun e => by have := (HP1.out.nm b e).1; omega
      | 2 => exact Decidable.byContradiction fun e => by have := (HP1.out.nr b e).1; omega
      | 3 => exact Decidable.byContradiction fun e => by have := (HP2.out.nm b e).1; omega
      | 4 => exact Decidable.byContradiction fun e => by have := (HP2.out.nr b e).1; omega
      | _ + 5 => rfl
    generalize w2.alloc (.cells #[.slice none 0 0, .slice none 0 0, .slice none 0 0, .slice none 0 0, .slice none 0 0, .slice none 0 0, .int .i64 0] 37) = W7 at *
    obtain ⟨K, pb, mb, rb, g, p0, q0, F0, M0, R0, hg, e1, e2, hPL⟩ := HS0.out
    rw [hg, e1, e2]
    have HPL := Pk.hid hPL
    clear hPL HS0 HB1 HB2 HP1 HP2 HV HBa e1 e2 hg Hf1
    go_loopw [7, 8, 9, 12] (fun s7 s8 s9 s12 wr => ∃ (i p q : Nat) (F : Nat → Nat → Nat) (M : Nat → Md) (R : Nat → Rm), i ≤ N ∧ s12 = .int .i64 i ∧ s7 = .pointer (some ⟨pb p, 0, none⟩) ∧ s9 = .pointer (some ⟨pb q, 0, none⟩) ∧ s8 = .bool true ∧ PLS w K pb mb rb g (2 * i) i p q F M R wr) (fun _ _ _ s12 _ => N - (intOf s12).toNat)
    case atStart => exact ⟨0, p0, q0, F0, M0, R0, Nat.zero_le _, rfl, rfl, rfl, rfl, HPL.out⟩
    case round =>
      obtain ⟨i, p, q, F, M, R, hi, rfl, rfl, rfl, rfl, hP⟩ := hrel
      have HP := Pk.hid hP
      clear hP HPL
      by_cases hiN : i < N
      · have hiN' : (i : Int) < N := by omega
        obtain ⟨o, ho⟩ : ∃ o, L[i]? = some o := ⟨_, List.getElem?_eq_getElem (by rw [HN.out]; exact hiN)⟩
        obtain ⟨sb, off, rfl, hsb, hcl⟩ := Hcs.out i o ho
        have HOk : Hid (OpOk w.heap.size w o) := Hok.out o (List.mem_of_getElem? ho)
        have HCl : Hid (∀ j u, (opL o)[j]? = some u → wr.cell? (Addr.add ⟨sb, off + i * 30, none⟩ j) = some u) := fun j u hu => by
          have h1 := (HP.out.bl.cell (p := ⟨sb, off + i * 30 + j, none⟩) hsb).trans (hcl j u hu)
          rw [show (⟨sb, off + i * 30, none⟩ : Addr).add j = ⟨sb, off + i * 30 + j, none⟩ by unfold Addr.add; split <;> simp_all]
          exact h1
        clear hcl ho hsb
        go_wp2_with (refine wpList_load_list rfl 45 (.tmp 50) rfl ⟨sb, off + i * 30, none⟩ rfl (opKL o.kind o) (by kernel_rfl) (by kernel_rfl) HCl.out ?_; refine stop_here ?_)
        refine hid_in ?_
        go_wp2_with (refine wpList_store_new rfl 45 (.tmp 13) (.tmp 51) rfl wr #[.int .i64 0, .int .i64 0, .string ⟨#[]⟩, .int .i64 0, .int .i64 0, .int .i64 0, .int .i64 0, .int .i64 0, .int .i64 0, .int .i64 0, .int .i64 0, .int .i64 0, .int .i64 0, .int .i64 0, .int .i64 0, .int .i64 0, .bool false, .int .i64 0, .int .i64 0, .int .i64 0, .int .i64 0, .slice none 0 0, .bool false, .int .i64 0, .string ⟨#[]⟩, .string ⟨#[]⟩, .int .i64 0, .int .i64 0, .int .i64 0, .slice none 0 0] (opK o.kind o) rfl rfl rfl (by kernel_rfl) rfl (by kernel_rfl) ?_; refine stop_here ?_)
        refine hid_in ?_
        have hC1 : ∀ j u, ((opKL o.kind o) : List Value)[j]? = some u → (wr.alloc (.cells (opK o.kind o) 45)).cell? (Addr.add ⟨wr.heap.size, 0, none⟩ j) = some u := cells_new _ (opKL o.kind o) _
        have k0 : (wr.alloc (.cells (opK o.kind o) 45)).cell? ⟨wr.heap.size, 0, none⟩ = some (.int .i64 o.kind) := cell_new _ _ _ 0
        have hBb : Below wr.heap.size wr (wr.alloc (.cells (opK o.kind o) 45)) := (Below.refl _ _).alloc (Nat.le_refl _) _
        have HP1 : Hid (PLS w K pb mb rb g (2 * i) i p q F M R (wr.alloc (.cells (opK o.kind o) 45))) := HP.out.idle hBb
        have HOk1 : Hid (OpOk w.heap.size (wr.alloc (.cells (opK o.kind o) 45)) o) := ⟨HOk.out.tx, HOk.out.en, HOk.out.py, HOk.out.cl, HOk.out.cv.carry HP1.out.bl⟩
        have HC1 := Pk.hid hC1
        have hwz : w.heap.size ≤ (wr.alloc (.cells (opK o.kind o) 45)).heap.size := HP1.out.bl.size
        clear hBb HP HOk HCl hC1
        generalize wr.alloc (.cells (opK o.kind o) 45) = wb at *
        generalize wr.heap.size = B at *
        by_cases h7 : o.kind = 7
        · have h7' : (o.kind == 7) = true := by simp [h7]
          clear h7
          go_wp2_with fail
          refine (st_looks HP1.out.st (by omega)).mono ?_
          rintro e w3 ⟨rfl, s1, s2⟩
          have HP3 : Hid (PLS w K pb mb rb g (2 * i + 2) (i + 1) q p F M R w3) := ((HP1.out.vary s1 HP1.out.rel s2).up).swap
          clear s1 s2 k0
          go_wp2
          go_roundw
          case rel => exact ⟨i + 1, q, p, F, M, R, by omega, by go_num, rfl, rfl, rfl, HP3.out⟩
          case measure => simp [intOf]; omega
        · have h7' : (o.kind == 7) = false := by rw [beq_eq_false_iff_ne]; exact h7
          by_cases h8 : o.kind ≤ 7
          · have h8' : decide (o.kind ≤ 7) = true := decide_eq_true h8
            have h6 : o.kind ≤ 6 := by omega
            have hpk := HP1.out.p
            go_wp2_with (refine wpList_load_list rfl 45 (.tmp 13) rfl ⟨B, 0, none⟩ rfl (opKL o.kind o) (by kernel_rfl) (by kernel_rfl) HC1.out ?_; refine stop_here ?_)
            refine hid_in ?_
            go_wp2_with fail
            refine (step_any o w.heap.size HP1.out.st hpk (HP1.out.rel p hpk) (by omega) (by omega) HOk1.out hwz h6).mono ?_
            rintro e w2 ⟨rfl, F2, M1, R1, s1, s2, s3⟩
            have HP2 : Hid (PLS w K pb mb rb g (2 * i + 2) (i + 1) p q F2 (upd M p M1) (upd R p R1) w2) := HP1.out.step s1 s2 s3
            clear s1 s2 s3 k0
            go_wp2_with fail
            refine (st_looks HP2.out.st (by omega)).mono ?_
            rintro e w3 ⟨rfl, s1, s2⟩
            have HP3 : Hid (PLS w K pb mb rb g (2 * i + 2) (i + 1) p q F2 (upd M p M1) (upd R p R1) w3) := HP2.out.vary s1 HP2.out.rel s2
            clear s1 s2
            go_wp2
            go_roundw
            case rel => exact ⟨i + 1, p, q, F2, _, _, by omega, by go_num, rfl, rfl, rfl, HP3.out⟩
            case measure => simp [intOf]; omega
          · have h8' : decide (o.kind ≤ 7) = false := decide_eq_false h8
            go_wp2_with fail
            refine (st_looks HP1.out.st (by omega)).mono ?_
            rintro e w3 ⟨rfl, s1, s2⟩
            have HP3 : Hid (PLS w K pb mb rb g (2 * i + 2) (i + 1) p q F M R w3) := (HP1.out.vary s1 HP1.out.rel s2).up
            clear s1 s2 k0
            go_wp2
            go_roundw
            case rel => exact ⟨i + 1, p, q, F, M, R, by omega, by go_num, rfl, rfl, rfl, HP3.out⟩
            case measure => simp [intOf]; omega
      · have hiN' : ¬ (i : Int) < N := by omega
        obtain ⟨S, hS⟩ : ∃ S, (R p).sds.length = S := ⟨_, rfl⟩
        have HS := Pk.hid hS
        have hS4 : S ≤ 4 := by
          have h1 := HP.out.rel p HP.out.p
          have h2 := h1.sl
          have h3 := h1.s4
          omega
        clear hS
        go_wp2
        generalize wr = wo at *
        go_loopw [8, 16] (fun s8 s16 wr => ∃ (j : Nat) (F : Nat → Nat → Nat), j ≤ S ∧ s16 = .int .i64 j ∧ s8 = .bool true ∧ PLS w K pb mb rb g (2 * i + 2 * j) i p q F M R wr) (fun _ s16 _ => S - (intOf s16).toNat)
        case atStart => exact ⟨0, F, Nat.zero_le _, rfl, rfl, HP.out⟩
        case round =>
          obtain ⟨j, F3, hj, rfl, rfl, hP⟩ := hrel
          have HP3 := Pk.hid hP
          have hpk := hP.p
          obtain ⟨y0, y1, -⟩ := hP.st.pc p hpk
          unfold ptr at y0 y1
          obtain ⟨sv, wv, hR⟩ := hP.st.rd p hpk
          obtain ⟨aS, cS, hsv⟩ := rowA_shape hR.sr.1
          have y18 : wr.cell? ⟨rb p, 18, none⟩ = some sv := hR.k 18 _ rfl
          rw [HS.out] at hsv
          rw [hsv] at y18
          clear hP HP
          by_cases hjS : j < S
          · have hjS' : (j : Int) < S := by omega
            obtain ⟨s, hs⟩ : ∃ s, (R p).sds[j]? = some s := ⟨_, List.getElem?_eq_getElem (by rw [HS.out]; exact hjS)⟩
            obtain ⟨sg, scap, hsl, x0, -⟩ := hR.sndAt hs
            rw [hsv, HS.out] at hsl
            simp only [Value.slice.injEq, true_and] at hsl
            obtain ⟨rfl, rfl⟩ := hsl
            clear hR hs hsv
            go_wp2_with fail
            refine (lmissing_any HP3.out.st hpk (HP3.out.rel p hpk) (by omega) _).mono ?_
            rintro e w4 ⟨rfl, F4, s1, s2⟩
            have HP4 : Hid (PLS w K pb mb rb g (2 * i + 2 * j + 2) i p q F4 M R w4) := HP3.out.vary s1 HP3.out.rel s2
            clear s1 s2 y0 y1 y18 x0
            go_wp2
            go_roundw
            case rel => exact ⟨j + 1, F4, by omega, by go_num, rfl, HP4.out⟩
            case measure => simp [intOf]; omega
          · have hjS' : ¬ (j : Int) < S := by omega
            have hqk := HP3.out.q
            have es := (HP3.out.rel p hpk).s
            have et := (HP3.out.rel q hqk).s
            have Hes := Pk.hid es
            have Het := Pk.hid et
            have hS1 : LkS2 (pb p) (mb p) (rb p) (R p).s (pb q) (mb q) (rb q) (R q).s wr := (HP3.out.st.lk hpk).two (HP3.out.st.lk hqk)
            clear hR hsv es et
            go_wp2
            clear y0 y1 y18
            refine wp_region_noPanic ?_
            refine wp_region_held_drew (S := LkS2 (pb p) (mb p) (rb p) (R p).s (pb q) (mb q) (rb q) (R q).s) (by kernel_rfl) hS1 (fun hHeld => ?_)
            refine tkH 0 ?_ hHeld ?_ ?_; rotate_left
            · ((intro W hSw; obtain ⟨hS0, hS1, hS2, hS3, hS4, hS5, hS6, hS7, hS8, hS9, hS10, hS11, hS12, hS13, hS14, hS15, hS16, hS17, hS18, hS19, hS20, hS21, hS22, hS23, hS24, hS25⟩ := hSw; go_simp) <;> with_reducible rfl)
            refine tkH 1 ?_ hHeld ?_ ?_; rotate_left
            · ((intro W hSw; obtain ⟨hS0, hS1, hS2, hS3, hS4, hS5, hS6, hS7, hS8, hS9, hS10, hS11, hS12, hS13, hS14, hS15, hS16, hS17, hS18, hS19, hS20, hS21, hS22, hS23, hS24, hS25⟩ := hSw; go_simp) <;> with_reducible rfl)
            refine tkH 2 ?_ hHeld ?_ ?_; rotate_left
            · ((intro W hSw; obtain ⟨hS0, hS1, hS2, hS3, hS4, hS5, hS6, hS7, hS8, hS9, hS10, hS11, hS12, hS13, hS14, hS15, hS16, hS17, hS18, hS19, hS20, hS21, hS22, hS23, hS24, hS25⟩ := hSw; go_simp) <;> with_reducible rfl)
            refine tkH 3 ?_ hHeld ?_ ?_; rotate_left
            · ((intro W hSw; obtain ⟨hS0, hS1, hS2, hS3, hS4, hS5, hS6, hS7, hS8, hS9, hS10, hS11, hS12, hS13, hS14, hS15, hS16, hS17, hS18, hS19, hS20, hS21, hS22, hS23, hS24, hS25⟩ := hSw; go_simp) <;> with_reducible rfl)
            refine tkH 5 ?_ hHeld ?_ ?_; rotate_left
            · ((intro W hSw; obtain ⟨hS0, hS1, hS2, hS3, hS4, hS5, hS6, hS7, hS8, hS9, hS10, hS11, hS12, hS13, hS14, hS15, hS16, hS17, hS18, hS19, hS20, hS21, hS22, hS23, hS24, hS25⟩ := hSw; go_simp) <;> with_reducible rfl)
            refine tkH 6 ?_ hHeld ?_ ?_; rotate_left
            · ((intro W hSw; obtain ⟨hS0, hS1, hS2, hS3, hS4, hS5, hS6, hS7, hS8, hS9, hS10, hS11, hS12, hS13, hS14, hS15, hS16, hS17, hS18, hS19, hS20, hS21, hS22, hS23, hS24, hS25⟩ := hSw; go_simp) <;> with_reducible rfl)
            refine tkH 7 ?_ hHeld ?_ ?_; rotate_left
            · ((intro W hSw; obtain ⟨hS0, hS1, hS2, hS3, hS4, hS5, hS6, hS7, hS8, hS9, hS10, hS11, hS12, hS13, hS14, hS15, hS16, hS17, hS18, hS19, hS20, hS21, hS22, hS23, hS24, hS25⟩ := hSw; go_simp) <;> with_reducible rfl)
            refine tkH 8 ?_ hHeld ?_ ?_; rotate_left
            · ((intro W hSw; obtain ⟨hS0, hS1, hS2, hS3, hS4, hS5, hS6, hS7, hS8, hS9, hS10, hS11, hS12, hS13, hS14, hS15, hS16, hS17, hS18, hS19, hS20, hS21, hS22, hS23, hS24, hS25⟩ := hSw; go_simp) <;> with_reducible rfl)
            refine tkH 9 ?_ hHeld ?_ ?_; rotate_left
            · ((intro W hSw; obtain ⟨hS0, hS1, hS2, hS3, hS4, hS5, hS6, hS7, hS8, hS9, hS10, hS11, hS12, hS13, hS14, hS15, hS16, hS17, hS18, hS19, hS20, hS21, hS22, hS23, hS24, hS25⟩ := hSw; go_simp) <;> with_reducible rfl)
            refine tkH 10 ?_ hHeld ?_ ?_; rotate_left
            · ((intro W hSw; obtain ⟨hS0, hS1, hS2, hS3, hS4, hS5, hS6, hS7, hS8, hS9, hS10, hS11, hS12, hS13, hS14, hS15, hS16, hS17, hS18, hS19, hS20, hS21, hS22, hS23, hS24, hS25⟩ := hSw; go_simp) <;> with_reducible rfl)
            refine tkH 11 ?_ hHeld ?_ ?_; rotate_left
            · ((intro W hSw; obtain ⟨hS0, hS1, hS2, hS3, hS4, hS5, hS6, hS7, hS8, hS9, hS10, hS11, hS12, hS13, hS14, hS15, hS16, hS17, hS18, hS19, hS20, hS21, hS22, hS23, hS24, hS25⟩ := hSw; go_simp) <;> with_reducible rfl)
            refine wpAnyH_ready (rs := [4]) (by kernel_rfl) (by simp) ?_
            refine AllReadyH.cons rfl (fun K' hK => ?_) AllReadyH.nil
            go_simp
            refine (st_look (by first | exact HP3.out.st | exact HP3.out.st.below (Below.refl _ _).drew) hpk).mono ?_
            rintro e w5 ⟨rfl, hb5⟩
            have hB5 : Below wr.heap.size wr w5 := by first | exact hb5 | exact (Below.refl _ _).drew.trans (hb5.mono (by simp))
            have HP5 : Hid (PLS w K pb mb rb g (2 * i + 2 * j) i p q F3 M R w5) := HP3.out.idle hB5
            have hS5 : LkS2 (pb p) (mb p) (rb p) (R p).s (pb q) (mb q) (rb q) (R q).s w5 := (HP5.out.st.lk hpk).two (HP5.out.st.lk hqk)
            rw [Hes.out]
            unfold sttA
            clear hb5 hB5
            go_simp
            refine hK.out _ _ hS5 (fun hHeld => ?_)
            clear hK K' hS1
            try simp only [Act.put]
            try simp only [List.getElem_toArray]
            try simp only [List.getElem_cons_succ]
            try simp only [List.getElem_cons_zero]
            try simp only [List.setIfInBounds_toArray]
            try simp only [List.set_cons_succ]
            try simp only [List.set_cons_zero]
            refine tkH 12 ?_ hHeld ?_ ?_; rotate_left
            · ((intro W hSw; obtain ⟨hS0, hS1, hS2, hS3, hS4, hS5, hS6, hS7, hS8, hS9, hS10, hS11, hS12, hS13, hS14, hS15, hS16, hS17, hS18, hS19, hS20, hS21, hS22, hS23, hS24, hS25⟩ := hSw; go_simp) <;> with_reducible rfl)
            refine tkH 13 ?_ hHeld ?_ ?_; rotate_left
            · ((intro W hSw; obtain ⟨hS0, hS1, hS2, hS3, hS4, hS5, hS6, hS7, hS8, hS9, hS10, hS11, hS12, hS13, hS14, hS15, hS16, hS17, hS18, hS19, hS20, hS21, hS22, hS23, hS24, hS25⟩ := hSw; go_simp) <;> with_reducible rfl)
            refine tkH 14 ?_ hHeld ?_ ?_; rotate_left
            · ((intro W hSw; obtain ⟨hS0, hS1, hS2, hS3, hS4, hS5, hS6, hS7, hS8, hS9, hS10, hS11, hS12, hS13, hS14, hS15, hS16, hS17, hS18, hS19, hS20, hS21, hS22, hS23, hS24, hS25⟩ := hSw; go_simp) <;> with_reducible rfl)
            refine tkH 15 ?_ hHeld ?_ ?_; rotate_left
            · ((intro W hSw; obtain ⟨hS0, hS1, hS2, hS3, hS4, hS5, hS6, hS7, hS8, hS9, hS10, hS11, hS12, hS13, hS14, hS15, hS16, hS17, hS18, hS19, hS20, hS21, hS22, hS23, hS24, hS25⟩ := hSw; go_simp) <;> with_reducible rfl)
            refine tkH 16 ?_ hHeld ?_ ?_; rotate_left
            · ((intro W hSw; obtain ⟨hS0, hS1, hS2, hS3, hS4, hS5, hS6, hS7, hS8, hS9, hS10, hS11, hS12, hS13, hS14, hS15, hS16, hS17, hS18, hS19, hS20, hS21, hS22, hS23, hS24, hS25⟩ := hSw; go_simp) <;> with_reducible rfl)
            refine tkH 17 ?_ hHeld ?_ ?_; rotate_left
            · ((intro W hSw; obtain ⟨hS0, hS1, hS2, hS3, hS4, hS5, hS6, hS7, hS8, hS9, hS10, hS11, hS12, hS13, hS14, hS15, hS16, hS17, hS18, hS19, hS20, hS21, hS22, hS23, hS24, hS25⟩ := hSw; go_simp) <;> with_reducible rfl)
            refine tkH 19 ?_ hHeld ?_ ?_; rotate_left
            · ((intro W hSw; obtain ⟨hS0, hS1, hS2, hS3, hS4, hS5, hS6, hS7, hS8, hS9, hS10, hS11, hS12, hS13, hS14, hS15, hS16, hS17, hS18, hS19, hS20, hS21, hS22, hS23, hS24, hS25⟩ := hSw; go_simp) <;> with_reducible rfl)
            refine tkH 20 ?_ hHeld ?_ ?_; rotate_left
            · ((intro W hSw; obtain ⟨hS0, hS1, hS2, hS3, hS4, hS5, hS6, hS7, hS8, hS9, hS10, hS11, hS12, hS13, hS14, hS15, hS16, hS17, hS18, hS19, hS20, hS21, hS22, hS23, hS24, hS25⟩ := hSw; go_simp) <;> with_reducible rfl)
            refine tkH 21 ?_ hHeld ?_ ?_; rotate_left
            · ((intro W hSw; obtain ⟨hS0, hS1, hS2, hS3, hS4, hS5, hS6, hS7, hS8, hS9, hS10, hS11, hS12, hS13, hS14, hS15, hS16, hS17, hS18, hS19, hS20, hS21, hS22, hS23, hS24, hS25⟩ := hSw; go_simp) <;> with_reducible rfl)
            refine tkH 22 ?_ hHeld ?_ ?_; rotate_left
            · ((intro W hSw; obtain ⟨hS0, hS1, hS2, hS3, hS4, hS5, hS6, hS7, hS8, hS9, hS10, hS11, hS12, hS13, hS14, hS15, hS16, hS17, hS18, hS19, hS20, hS21, hS22, hS23, hS24, hS25⟩ := hSw; go_simp) <;> with_reducible rfl)
            refine tkH 23 ?_ hHeld ?_ ?_; rotate_left
            · ((intro W hSw; obtain ⟨hS0, hS1, hS2, hS3, hS4, hS5, hS6, hS7, hS8, hS9, hS10, hS11, hS12, hS13, hS14, hS15, hS16, hS17, hS18, hS19, hS20, hS21, hS22, hS23, hS24, hS25⟩ := hSw; go_simp) <;> with_reducible rfl)
            refine tkH 24 ?_ hHeld ?_ ?_; rotate_left
            · ((intro W hSw; obtain ⟨hS0, hS1, hS2, hS3, hS4, hS5, hS6, hS7, hS8, hS9, hS10, hS11, hS12, hS13, hS14, hS15, hS16, hS17, hS18, hS19, hS20, hS21, hS22, hS23, hS24, hS25⟩ := hSw; go_simp) <;> with_reducible rfl)
            refine tkH 25 ?_ hHeld ?_ ?_; rotate_left
            · ((intro W hSw; obtain ⟨hS0, hS1, hS2, hS3, hS4, hS5, hS6, hS7, hS8, hS9, hS10, hS11, hS12, hS13, hS14, hS15, hS16, hS17, hS18, hS19, hS20, hS21, hS22, hS23, hS24, hS25⟩ := hSw; go_simp) <;> with_reducible rfl)
            refine wpAnyH_ready (rs := [18]) (by kernel_rfl) (by simp) ?_
            refine AllReadyH.cons rfl (fun K' hK => ?_) AllReadyH.nil
            go_simp
            refine (st_look (by first | exact HP5.out.st | exact HP5.out.st.below (Below.refl _ _).drew) hqk).mono ?_
            rintro e w6 ⟨rfl, hb6⟩
            have hB6 : Below w5.heap.size w5 w6 := by first | exact hb6 | exact (Below.refl _ _).drew.trans (hb6.mono (by simp))
            have HP6 : Hid (PLS w K pb mb rb g (2 * i + 2 * j) i p q F3 M R w6) := HP5.out.idle hB6
            have hS6 : LkS2 (pb p) (mb p) (rb p) (R p).s (pb q) (mb q) (rb q) (R q).s w6 := (HP6.out.st.lk hpk).two (HP6.out.st.lk hqk)
            rw [Het.out]
            unfold sttA
            clear hb6 hB6
            go_simp
            refine hK.out _ _ hS6 (fun hHeld => ?_)
            clear hK K' hS5
            try simp only [Act.put]
            try simp only [List.getElem_toArray]
            try simp only [List.getElem_cons_succ]
            try simp only [List.getElem_cons_zero]
            try simp only [List.setIfInBounds_toArray]
            try simp only [List.set_cons_succ]
            try simp only [List.set_cons_zero]
            refine tkH 26 ?_ hHeld ?_ ?_; rotate_left
            · ((intro W hSw; obtain ⟨hS0, hS1, hS2, hS3, hS4, hS5, hS6, hS7, hS8, hS9, hS10, hS11, hS12, hS13, hS14, hS15, hS16, hS17, hS18, hS19, hS20, hS21, hS22, hS23, hS24, hS25⟩ := hSw; go_simp) <;> with_reducible rfl)
            refine tkH 27 ?_ hHeld ?_ ?_; rotate_left
            · ((intro W hSw; obtain ⟨hS0, hS1, hS2, hS3, hS4, hS5, hS6, hS7, hS8, hS9, hS10, hS11, hS12, hS13, hS14, hS15, hS16, hS17, hS18, hS19, hS20, hS21, hS22, hS23, hS24, hS25⟩ := hSw; go_simp) <;> with_reducible rfl)
            refine tkH 28 ?_ hHeld ?_ ?_; rotate_left
            · ((intro W hSw; obtain ⟨hS0, hS1, hS2, hS3, hS4, hS5, hS6, hS7, hS8, hS9, hS10, hS11, hS12, hS13, hS14, hS15, hS16, hS17, hS18, hS19, hS20, hS21, hS22, hS23, hS24, hS25⟩ := hSw; go_simp) <;> with_reducible rfl)
            refine wpAnyH_done (by kernel_rfl) ?_ _
            refine NoPanic.normal ?_
            clear hHeld hS6
            go_wp2
            go_ret
            exact ⟨rfl, HP6.out.bl⟩

end Go.Proofs.YtdjhhnolcafkiaaGreat
