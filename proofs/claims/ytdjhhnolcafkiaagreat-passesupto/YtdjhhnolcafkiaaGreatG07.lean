/- AddWant. -/
import Derived.Test.YtdjhhnolcafkiaaGreatG01
import Derived.Test.YtdjhhnolcafkiaaGreatG06
namespace Go.Proofs.YtdjhhnolcafkiaaGreat
open Go.RowKit
namespace Pk
theorem i64_id (n : Int) (h0 : -9000000000000000000 ≤ n) (h : n ≤ 9000000000000000000) : IntKind.i64.wrap n = n := by simp [IntKind.wrap, IntKind.signed, IntKind.bits]; omega
theorem infoW : (Tryz.prog.info? 95).map (fun i => (i.zero, i.size, i.bytes)) = some (some (.pointer none), 1, 8) := by kernel_rfl
def newW (id of_ : Int) (p : Plan) (n : Nat) : Wn := ⟨p.source, false, [], id, of_, p, 0, n⟩
def addWM (M : Md) (of_ : Int) (p : Plan) : Md × Int × Int :=
  if sndPos M of_ = none then (M, 0, 4) else if plOk p = false then (M, 0, 2) else if (knowsF M p.source || knowsF M p.second) = true then (M, 0, 3) else if 8 ≤ M.wns.length then (M, 0, 5) else ({ M with wns := M.wns ++ [newW (M.last + 1) of_ p p.secondFirst.toNat], last := M.last + 1 }, M.last + 1, 0)
/-- the cells of a plan -/
def PlAt (B : Nat) (p : Plan) (W : World) : Prop := W.cell? ⟨B, 0, none⟩ = some (.int .i64 p.source) ∧ W.cell? ⟨B, 1, none⟩ = some (.int .i64 p.second) ∧ W.cell? ⟨B, 2, none⟩ = some (.int .i64 p.ty) ∧ W.cell? ⟨B, 3, none⟩ = some (.int .i64 p.secondTy) ∧ W.cell? ⟨B, 4, none⟩ = some (.int .i64 p.first) ∧ W.cell? ⟨B, 5, none⟩ = some (.int .i64 p.secondFirst)
def PlS (mb B : Nat) (l : Int) (p : Plan) (W : World) : Prop := W.cell? ⟨mb, 20, none⟩ = some (.int .i64 l) ∧ W.cell? ⟨B, 0, none⟩ = some (.int .i64 p.source) ∧ W.cell? ⟨B, 1, none⟩ = some (.int .i64 p.second) ∧ W.cell? ⟨B, 2, none⟩ = some (.int .i64 p.ty) ∧ W.cell? ⟨B, 3, none⟩ = some (.int .i64 p.secondTy) ∧ W.cell? ⟨B, 4, none⟩ = some (.int .i64 p.first) ∧ W.cell? ⟨B, 5, none⟩ = some (.int .i64 p.secondFirst)
theorem PlAt.chg {T : Nat → Prop} {W W' : World} {B : Nat} {p : Plan} (h : PlAt B p W) (hc : Chg T W W') (h2 : ¬ T B) : PlAt B p W' := ⟨hc.cell h.1 h2, hc.cell h.2.1 h2, hc.cell h.2.2.1 h2, hc.cell h.2.2.2.1 h2, hc.cell h.2.2.2.2.1 h2, hc.cell h.2.2.2.2.2 h2⟩
theorem PlAt.below {W W' : World} {B : Nat} {p : Plan} (h : PlAt B p W) (hb : Below W.heap.size W W') : PlAt B p W' := h.chg (T := fun _ => False) (Chg.ofBelow hb) (fun e => e)
theorem PlS.chg {T : Nat → Prop} {W W' : World} {mb B : Nat} {l : Int} {p : Plan} (h : PlS mb B l p W) (hc : Chg T W W') (h1 : ¬ T mb) (h2 : ¬ T B) : PlS mb B l p W' := ⟨hc.cell h.1 h1, PlAt.chg h.2 hc h2⟩
theorem PlS.below {W W' : World} {mb B : Nat} {l : Int} {p : Plan} (h : PlS mb B l p W) (hb : Below W.heap.size W W') : PlS mb B l p W' := h.chg (T := fun _ => False) (Chg.ofBelow hb) (fun e => e) (fun e => e)
theorem PlS.set19 {W : World} {mb B : Nat} {l : Int} {p : Plan} (h : PlS mb B l p W) (hne : mb ≠ B) (v : Value) : PlS mb B l p (W.setCell ⟨mb, 19, none⟩ v) :=
  ⟨(World.cell?_setCell_other _ _ _ _ (fun e => by injection e with _ e _; omega)).trans h.1, PlAt.chg h.2 ((Chg.refl (fun b => b = mb) _).setCell ⟨mb, 19, none⟩ (.inl rfl) _) (fun e => hne e.symm)⟩
/-- the mender's own block turned ahead of a turn -/
theorem Moved.then0 {w w1 w' : World} {ρ : Nat → Nat} {mb : Nat} {M : Md} (h : Chg (fun b => ρ b ≠ 0) w w1) (k : Moved w1 w' ρ mb M) : Moved w w' ρ mb M := by
  obtain ⟨ρ', a, b, c, d, h1, h2, h3⟩ := k
  exact ⟨ρ', a, b, c, d, h1, fun x hx => h2 x (Nat.lt_of_lt_of_le hx h.size), h.trans h3 (fun _ _ e => e)⟩
theorem Moved.addW {w1 w3 : World} {ρ : Nat → Nat} {mb : Nat} {M : Md} {ao a3 : Option Addr} {cap c3 : Nat} {sv : Value} {SB WB : List (Nat × Value)} {of_ : Int} {p : Plan} {n : Nat} (h : MdAt w1 ρ mb { M with last := M.last + 1 } sv (.slice ao WB.length cap) SB WB) (hids : ∀ y ∈ M.wns, 0 < y.id ∧ y.id ≤ M.last) (hlast : 0 ≤ M.last) (ob : Obj)
    (hg : World.grownBy (((w1.alloc (.cells #[.int .i64 p.source, .int .i64 p.second, .int .i64 p.ty, .int .i64 p.secondTy, .int .i64 p.first, .int .i64 p.secondFirst] 39)).alloc (.cells #[.int .i64 p.source, .bool false, .slice none 0 0, .int .i64 (M.last + 1), .int .i64 of_, .int .i64 p.source, .int .i64 p.second, .int .i64 p.ty, .int .i64 p.secondTy, .int .i64 p.first, .int .i64 p.secondFirst, .int .u16 0, .int .u16 n] 141)).alloc ob).drew w3 (Value.slice ao WB.length cap).ownBlock)
    (hown : w3.ownsRow (mb + 1) 95 1 (.slice a3 (WB.length + 1) c3) (WB.length + 1) (WB.map (fun p => ptr p.1) ++ [ptr (w1.heap.size + 1)]))
    (hob : (Value.slice a3 (WB.length + 1) c3).ownBlock = (Value.slice ao WB.length cap).ownBlock ∨ (Value.slice a3 (WB.length + 1) c3).ownBlock = some (((w1.alloc (.cells #[.int .i64 p.source, .int .i64 p.second, .int .i64 p.ty, .int .i64 p.secondTy, .int .i64 p.first, .int .i64 p.secondFirst] 39)).alloc (.cells #[.int .i64 p.source, .bool false, .slice none 0 0, .int .i64 (M.last + 1), .int .i64 of_, .int .i64 p.source, .int .i64 p.second, .int .i64 p.ty, .int .i64 p.secondTy, .int .i64 p.first, .int .i64 p.secondFirst, .int .u16 0, .int .u16 n] 141)).alloc ob).drew.heap.size) :
    Moved w1 (w3.setCell ⟨mb, 19, none⟩ (.slice a3 (WB.length + 1) c3)) ρ mb { M with wns := M.wns ++ [newW (M.last + 1) of_ p n], last := M.last + 1 } := by
  have hneM : (Value.slice ao WB.length cap).ownBlock ≠ some mb := fun e => by have := h.rw mb e; rw [h.rm] at this; cases this
  have hobl : ∀ b, (Value.slice ao WB.length cap).ownBlock = some b → b < w1.heap.size := fun b hb => (h.wr.lt b hb).2
  have hlt := h.lt
  have hsA : (w1.alloc (.cells #[.int .i64 p.source, .int .i64 p.second, .int .i64 p.ty, .int .i64 p.secondTy, .int .i64 p.first, .int .i64 p.secondFirst] 39)).heap.size = w1.heap.size + 1 := by simp
  have hcA : Chg (fun b => (Value.slice ao WB.length cap).ownBlock = some b) ((w1.alloc (.cells #[.int .i64 p.source, .int .i64 p.second, .int .i64 p.ty, .int .i64 p.secondTy, .int .i64 p.first, .int .i64 p.secondFirst] 39)).alloc (.cells #[.int .i64 p.source, .bool false, .slice none 0 0, .int .i64 (M.last + 1), .int .i64 of_, .int .i64 p.source, .int .i64 p.second, .int .i64 p.ty, .int .i64 p.secondTy, .int .i64 p.first, .int .i64 p.secondFirst, .int .u16 0, .int .u16 n] 141)) w3 := Chg.ofGrown (((World.grownBy_alloc _ _ _).trans (World.grownBy_drewX _ _)).trans hg)
  have hc1 : Chg (fun b => (Value.slice ao WB.length cap).ownBlock = some b) w1 w3 := Chg.ofGrown (((((World.grownBy_alloc _ _ _).trans (World.grownBy_alloc _ _ _)).trans (World.grownBy_alloc _ _ _)).trans (World.grownBy_drewX _ _)).trans hg)
  have hcS : Chg (fun b => b = mb) w3 (w3.setCell ⟨mb, 19, none⟩ (.slice a3 (WB.length + 1) c3)) := (Chg.refl (fun b => b = mb) _).setCell ⟨mb, 19, none⟩ (.inl rfl) _
  have hcA' : Chg (fun b => b = mb ∨ (Value.slice ao WB.length cap).ownBlock = some b) ((w1.alloc (.cells #[.int .i64 p.source, .int .i64 p.second, .int .i64 p.ty, .int .i64 p.secondTy, .int .i64 p.first, .int .i64 p.secondFirst] 39)).alloc (.cells #[.int .i64 p.source, .bool false, .slice none 0 0, .int .i64 (M.last + 1), .int .i64 of_, .int .i64 p.source, .int .i64 p.second, .int .i64 p.ty, .int .i64 p.secondTy, .int .i64 p.first, .int .i64 p.secondFirst, .int .u16 0, .int .u16 n] 141)) (w3.setCell ⟨mb, 19, none⟩ (.slice a3 (WB.length + 1) c3)) := (hcA.mono (fun _ _ e => .inr e)).trans hcS (fun _ _ e => .inl e)
  have hc' : Chg (fun b => b = mb ∨ (Value.slice ao WB.length cap).ownBlock = some b) w1 (w3.setCell ⟨mb, 19, none⟩ (.slice a3 (WB.length + 1) c3)) := (hc1.mono (fun _ _ e => .inr e)).trans hcS (fun _ _ e => .inl e)
  have hnT : ¬ (w1.heap.size + 1 = mb ∨ (Value.slice ao WB.length cap).ownBlock = some (w1.heap.size + 1)) := by
    rintro (e | e)
    · omega
    · have := hobl _ e; omega
  have hsz : (((w1.alloc (.cells #[.int .i64 p.source, .int .i64 p.second, .int .i64 p.ty, .int .i64 p.secondTy, .int .i64 p.first, .int .i64 p.secondFirst] 39)).alloc (.cells #[.int .i64 p.source, .bool false, .slice none 0 0, .int .i64 (M.last + 1), .int .i64 of_, .int .i64 p.source, .int .i64 p.second, .int .i64 p.ty, .int .i64 p.secondTy, .int .i64 p.first, .int .i64 p.secondFirst, .int .u16 0, .int .u16 n] 141)).alloc ob).drew.heap.size = w1.heap.size + 1 + 1 + 1 := by simp
  have hne3 : (Value.slice a3 (WB.length + 1) c3).ownBlock ≠ some mb := fun e => by
    have := (hown.lt mb e).1
    omega
  have nc : ∀ o u, (#[.int .i64 p.source, .bool false, .slice none 0 0, .int .i64 (M.last + 1), .int .i64 of_, .int .i64 p.source, .int .i64 p.second, .int .i64 p.ty, .int .i64 p.secondTy, .int .i64 p.first, .int .i64 p.secondFirst, .int .u16 0, .int .u16 n] : Array Value)[o]? = some u → (w3.setCell ⟨mb, 19, none⟩ (.slice a3 (WB.length + 1) c3)).cell? ⟨w1.heap.size + 1, o, none⟩ = some u := fun o u hu => hcA'.cell (p := ⟨w1.heap.size + 1, o, none⟩) (by
    have := cell_new (w1.alloc (.cells #[.int .i64 p.source, .int .i64 p.second, .int .i64 p.ty, .int .i64 p.secondTy, .int .i64 p.first, .int .i64 p.secondFirst] 39)) #[.int .i64 p.source, .bool false, .slice none 0 0, .int .i64 (M.last + 1), .int .i64 of_, .int .i64 p.source, .int .i64 p.second, .int .i64 p.ty, .int .i64 p.secondTy, .int .i64 p.first, .int .i64 p.secondFirst, .int .u16 0, .int .u16 n] 141 o
    rw [hsA] at this
    exact this.trans hu) hnT
  have hh := MdAt.addW (wb := w1.heap.size + 1) (wv' := .slice a3 (WB.length + 1) c3) (x := newW (M.last + 1) of_ p n) (last := M.last + 1) h hc'
  refine Moved.mk (hh ?_ ?_ ?_ ?_ rfl (by omega) ?_ ?_)
  · exact mdV_set 19 _ h.k (fun o => World.cell?_of_block (hc1.block mb hlt hneM)) (by omega) rfl
  · intro o
    rw [World.frozen?_setCell]
    exact (hc1.frozen (p := ⟨mb, o, none⟩) hlt hneM).trans (h.fz o)
  · exact rowA_chg hcS hown (fun y hy e => hne3 (e ▸ hy))
  · refine ⟨nc 0 _ rfl, nc 1 _ rfl, nc 2 _ rfl, nc 3 _ rfl, nc 4 _ rfl, nc 5 _ rfl, nc 6 _ rfl, nc 7 _ rfl, nc 8 _ rfl, nc 9 _ rfl, nc 10 _ rfl, nc 11 _ rfl, nc 12 _ rfl, fun o => (hcA'.frozen (p := ⟨w1.heap.size + 1, o, none⟩) (by simp) hnT).trans (by
      have := frozen_new (w1.alloc (.cells #[.int .i64 p.source, .int .i64 p.second, .int .i64 p.ty, .int .i64 p.secondTy, .int .i64 p.first, .int .i64 p.secondFirst] 39)) #[.int .i64 p.source, .bool false, .slice none 0 0, .int .i64 (M.last + 1), .int .i64 of_, .int .i64 p.source, .int .i64 p.second, .int .i64 p.ty, .int .i64 p.secondTy, .int .i64 p.first, .int .i64 p.secondFirst, .int .u16 0, .int .u16 n] 141 o
      rw [hsA] at this
      exact this), World.ownsRow_nil _ _ _ _, by omega, fun k hk => (by cases hk), fun e => e, fun _ _ e => e⟩
  · intro b hb
    rcases hob with e | e
    · rw [e] at hb
      have := hobl b hb
      exact ⟨.inl hb, by omega⟩
    · rw [e, hsz] at hb
      cases hb
      exact ⟨.inr (by omega), by omega⟩
  · intro y hy
    have h1 := hids y hy
    show y.id.toNat ≠ (M.last + 1).toNat
    omega
end Pk
open Pk

set_option maxRecDepth 20000 in
set_option maxHeartbeats 1000000 in
theorem addWant_any (ρ : Nat → Nat) (mb : Nat) (M : Md) (sv wv : Value) (SB WB : List (Nat × Value)) (of_ : Int) (p : Plan) (w : World) (h : MdAt w ρ mb M sv wv SB WB) (h8 : M.wns.length ≤ 8) (hids : ∀ y ∈ M.wns, 0 < y.id ∧ y.id ≤ M.last) (hlast : 0 ≤ M.last) (hlast2 : M.last ≤ 1000000000000) :
    Calls Tryz.prog 17 #[.pointer (some ⟨mb, 0, none⟩), .int .i64 of_, .agg #[.int .i64 p.source, .int .i64 p.second, .int .i64 p.ty, .int .i64 p.secondTy, .int .i64 p.first, .int .i64 p.secondFirst]] w fun e w' => e = .returned (.tuple #[.int .i64 (addWM M of_ p).2.1, .int .i64 (addWM M of_ p).2.2]) ∧ Moved w w' ρ mb (addWM M of_ p).1 := by
  obtain ⟨ao, cap, rfl⟩ := rowA_shape h.wr
  have H := Pk.hid h
  have Hids := Pk.hid hids
  have hlt := h.lt
  have hbx : mb ≠ w.heap.size := by omega
  clear h hids
  go_enter Tryz.func17, Tryz.ntmps17
  go_wp2_with fail
  refine (orNone_any mb _).mono ?_
  rintro e w1 ⟨rfl, hw1⟩
  rw [hw1]
  clear hw1
  have Hb0 : Hid (Below w.heap.size w (w.alloc (.cells #[.int .i64 p.source, .int .i64 p.second, .int .i64 p.ty, .int .i64 p.secondTy, .int .i64 p.first, .int .i64 p.secondFirst] 39))) := (Below.refl _ _).alloc (Nat.le_refl _) _
  have H0 : Hid (MdAt (w.alloc (.cells #[.int .i64 p.source, .int .i64 p.second, .int .i64 p.ty, .int .i64 p.secondTy, .int .i64 p.first, .int .i64 p.secondFirst] 39)) ρ mb M sv (.slice ao WB.length cap) SB WB) := H.out.below Hb0.out
  have HP0 : Hid (PlAt w.heap.size p (w.alloc (.cells #[.int .i64 p.source, .int .i64 p.second, .int .i64 p.ty, .int .i64 p.secondTy, .int .i64 p.first, .int .i64 p.secondFirst] 39))) := ⟨cell_new _ _ _ 0, cell_new _ _ _ 1, cell_new _ _ _ 2, cell_new _ _ _ 3, cell_new _ _ _ 4, cell_new _ _ _ 5⟩
  generalize w.alloc (.cells #[.int .i64 p.source, .int .i64 p.second, .int .i64 p.ty, .int .i64 p.secondTy, .int .i64 p.first, .int .i64 p.secondFirst] 39) = wA at *
  go_wp2_with fail
  refine (sender_any ρ mb M sv _ SB WB of_ _ H0.out).mono ?_
  rintro e w1 ⟨hw1, ⟨hn, rfl⟩ | ⟨i, pp, s, hi, h1, h2, h3, rfl⟩⟩
  · rw [hw1]
    have HA : Hid (addWM M of_ p = (M, 0, 4)) := by show _ = _; unfold addWM; rw [if_pos hn]
    clear hn hw1
    go_wp2
    go_ret2
    rw [HA.out]
    exact ⟨rfl, Moved.same H.out Hb0.out⟩
  rw [hw1]
  have Hsn : Hid (¬ sndPos M of_ = none) := fun e => by rw [hi] at e; cases e
  unfold ptr
  clear hi h1 h2 h3 hw1
  obtain ⟨q0, q1, q2, q3, q4, q5⟩ := HP0.out
  go_wp2_with fail
  refine (wantFits_any p _).mono ?_
  rintro e w1 ⟨rfl, hb1⟩
  have Hb1 : Hid (Below w.heap.size w w1) := Hb0.out.trans (hb1.mono Hb0.out.size)
  have H1 : Hid (MdAt w1 ρ mb M sv (.slice ao WB.length cap) SB WB) := H0.out.below hb1
  have HP1 : Hid (PlAt w.heap.size p w1) := PlAt.below HP0.out hb1
  clear hb1 H0 HP0 Hb0 q0 q1 q2 q3 q4 q5
  cases hpl : plOk p with
  | false =>
    have HA : Hid (addWM M of_ p = (M, 0, 2)) := by show _ = _; unfold addWM; rw [if_neg Hsn.out, if_pos hpl]
    clear hpl
    go_wp2
    go_ret2
    rw [HA.out]
    exact ⟨rfl, Moved.same H.out Hb1.out⟩
  | true =>
  have Hpl := Pk.hid hpl
  obtain ⟨n, hn0, hn⟩ : ∃ n : Nat, p.secondFirst = n ∧ n < 65536 := by
    unfold plOk at hpl
    have h := of_decide_eq_true hpl
    exact ⟨p.secondFirst.toNat, by omega, by omega⟩
  have Hn : Hid (p.secondFirst.toNat = n) := by show _ = _; omega
  have Hn0 := Pk.hid hn0
  clear hpl hn0
  obtain ⟨q0, q1, -⟩ := HP1.out
  go_wp2_with fail
  refine (knows_any ρ mb M _ _ SB WB p.source _ H1.out h8).mono ?_
  rintro e w2 ⟨rfl, hb2⟩
  have Hb2 : Hid (Below w.heap.size w w2) := Hb1.out.trans (hb2.mono Hb1.out.size)
  have H2 : Hid (MdAt w2 ρ mb M sv (.slice ao WB.length cap) SB WB) := H1.out.below hb2
  have HP2 : Hid (PlAt w.heap.size p w2) := PlAt.below HP1.out hb2
  clear hb2 H1 HP1 Hb1 q0 q1
  cases hk : knowsF M p.source with
  | true =>
    have HA : Hid (addWM M of_ p = (M, 0, 3)) := by show _ = _; unfold addWM; rw [if_neg Hsn.out, if_neg (by rw [Hpl.out]; decide), if_pos (by rw [hk]; rfl)]
    clear hk
    go_wp2
    go_ret2
    rw [HA.out]
    exact ⟨rfl, Moved.same H.out Hb2.out⟩
  | false =>
  have Hk1 := Pk.hid hk
  clear hk
  obtain ⟨q0, q1, -⟩ := HP2.out
  go_wp2_with fail
  refine (knows_any ρ mb M _ _ SB WB p.second _ H2.out h8).mono ?_
  rintro e w3 ⟨rfl, hb3⟩
  have Hb3 : Hid (Below w.heap.size w w3) := Hb2.out.trans (hb3.mono Hb2.out.size)
  have H3' : Hid (MdAt w3 ρ mb M sv (.slice ao WB.length cap) SB WB) := H2.out.below hb3
  have HP3 : Hid (PlAt w.heap.size p w3) := PlAt.below HP2.out hb3
  clear hb3 H2 HP2 Hb2 q0 q1
  cases hk : knowsF M p.second with
  | true =>
    have HA : Hid (addWM M of_ p = (M, 0, 3)) := by show _ = _; unfold addWM; rw [if_neg Hsn.out, if_neg (by rw [Hpl.out]; decide), if_pos (by rw [hk, Hk1.out]; rfl)]
    clear hk
    go_wp2
    go_ret2
    rw [HA.out]
    exact ⟨rfl, Moved.same H.out Hb3.out⟩
  | false =>
  have y19 : w3.cell? ⟨mb, 19, none⟩ = some (.slice ao WB.length cap) := H3'.out.k 19 _ rfl
  by_cases h4 : 8 ≤ WB.length
  · have h4' : (8 : Int) ≤ WB.length := by omega
    have HA : Hid (addWM M of_ p = (M, 0, 5)) := by show _ = _; unfold addWM; rw [if_neg Hsn.out, if_neg (by rw [Hpl.out]; decide), if_neg (by rw [hk, Hk1.out]; decide), if_pos (by rw [← H.out.wl]; exact h4)]
    clear hk
    go_wp2
    go_ret2
    rw [HA.out]
    exact ⟨rfl, Moved.same H.out Hb3.out⟩
  have h4' : ¬ (8 : Int) ≤ WB.length := by omega
  have HA : Hid (addWM M of_ p = ({ M with wns := M.wns ++ [newW (M.last + 1) of_ p n], last := M.last + 1 }, M.last + 1, 0)) := by show _ = _; unfold addWM; rw [if_neg Hsn.out, if_neg (by rw [Hpl.out]; decide), if_neg (by rw [hk, Hk1.out]; decide), if_neg (by rw [← H.out.wl]; exact h4), Hn.out]
  clear hk
  obtain ⟨i0, hi0, hz0, hz1, hz2⟩ := info_parts infoW
  have Hi : Hid (Tryz.prog.info? 95 = some i0 ∧ i0.zero = _ ∧ i0.size = 1 ∧ i0.bytes = 8) := ⟨hi0, hz0, hz1, hz2⟩
  clear hi0 hz0 hz1 hz2
  have hw1 : IntKind.i64.wrap (M.last + 1) = M.last + 1 := i64_id _ (by omega) (by omega)
  have y20 : w3.cell? ⟨mb, 20, none⟩ = some (.int .i64 M.last) := H3'.out.k 20 _ rfl
  have yf0 : ∀ o, w3.frozen? ⟨mb, o, none⟩ = false := H3'.out.fz
  have hcm : Chg (fun b => b = mb) w3 (w3.setCell ⟨mb, 20, none⟩ (.int .i64 (M.last + 1))) := (Chg.refl (fun b => b = mb) _).setCell ⟨mb, 20, none⟩ (.inl rfl) _
  have HM0 : Hid (Chg (fun b => ρ b ≠ 0) w3 (w3.setCell ⟨mb, 20, none⟩ (.int .i64 (M.last + 1)))) := hcm.mono (fun y _ e => by rw [e, H3'.out.rm]; decide)
  have H3 : Hid (MdAt (w3.setCell ⟨mb, 20, none⟩ (.int .i64 (M.last + 1))) ρ mb { M with last := M.last + 1 } sv (.slice ao WB.length cap) SB WB) := H3'.out.own hcm (mdV_set 20 _ H3'.out.k (fun _ => rfl) (by omega) rfl) (fun o => by rw [World.frozen?_setCell]; exact yf0 o) rfl rfl rfl rfl
  have HP4 : Hid (PlAt w.heap.size p (w3.setCell ⟨mb, 20, none⟩ (.int .i64 (M.last + 1)))) := PlAt.chg HP3.out hcm (fun e => hbx e.symm)
  have hs1 : mb < (w3.setCell ⟨mb, 20, none⟩ (.int .i64 (M.last + 1))).heap.size := H3.out.lt
  clear hcm
  go_wp2
  have HS : Hid (PlS mb w.heap.size (M.last + 1) p (w3.setCell ⟨mb, 20, none⟩ (.int .i64 (M.last + 1)))) := ⟨H3.out.k 20 _ rfl, HP4.out⟩
  have hneM : (Value.slice ao WB.length cap).ownBlock ≠ some mb := fun e => by have := H3.out.rw mb e; rw [H3.out.rm] at this; cases this
  have hneB : (Value.slice ao WB.length cap).ownBlock ≠ some w.heap.size := fun e => by have := (H.out.wr.lt _ e).2; omega
  clear y19 y20 yf0
  have y19 : (w3.setCell ⟨mb, 20, none⟩ (.int .i64 (M.last + 1))).cell? ⟨mb, 19, none⟩ = some (.slice ao WB.length cap) := H3.out.k 19 _ rfl
  have yf : ∀ o, (w3.setCell ⟨mb, 20, none⟩ (.int .i64 (M.last + 1))).frozen? ⟨mb, o, none⟩ = false := H3.out.fz
  clear H3' HP3 HP4
  generalize w3.setCell ⟨mb, 20, none⟩ (.int .i64 (M.last + 1)) = W0 at *
  refine wp_region_noPanic ?_
  refine wp_region_held_drew (S := PlS mb w.heap.size (M.last + 1) p) (by kernel_rfl) HS.out (fun hHeld => ?_)
  refine tkH 0 ?_ hHeld ?_ ?_; rotate_left
  · ((intro W hSw; obtain ⟨hS0, hS1, hS2, hS3, hS4, hS5, hS6⟩ := hSw; go_simp) <;> with_reducible rfl)
  refine tkH 1 ?_ hHeld ?_ ?_; rotate_left
  · ((intro W hSw; obtain ⟨hS0, hS1, hS2, hS3, hS4, hS5, hS6⟩ := hSw; go_simp) <;> with_reducible rfl)
  refine tkH 2 ?_ hHeld ?_ ?_; rotate_left
  · ((intro W hSw; obtain ⟨hS0, hS1, hS2, hS3, hS4, hS5, hS6⟩ := hSw; go_simp) <;> with_reducible rfl)
  refine tkH 3 ?_ hHeld ?_ ?_; rotate_left
  · ((intro W hSw; obtain ⟨hS0, hS1, hS2, hS3, hS4, hS5, hS6⟩ := hSw; go_simp) <;> with_reducible rfl)
  refine tkH 5 ?_ hHeld ?_ ?_; rotate_left
  · ((intro W hSw; obtain ⟨hS0, hS1, hS2, hS3, hS4, hS5, hS6⟩ := hSw; go_simp) <;> with_reducible rfl)
  refine tkH 6 ?_ hHeld ?_ ?_; rotate_left
  · ((intro W hSw; obtain ⟨hS0, hS1, hS2, hS3, hS4, hS5, hS6⟩ := hSw; go_simp) <;> with_reducible rfl)
  refine tkH 7 ?_ hHeld ?_ ?_; rotate_left
  · ((intro W hSw; obtain ⟨hS0, hS1, hS2, hS3, hS4, hS5, hS6⟩ := hSw; go_simp) <;> with_reducible rfl)
  refine tkH 8 ?_ hHeld ?_ ?_; rotate_left
  · ((intro W hSw; obtain ⟨hS0, hS1, hS2, hS3, hS4, hS5, hS6⟩ := hSw; go_simp) <;> with_reducible rfl)
  refine tkH 9 ?_ hHeld ?_ ?_; rotate_left
  · ((intro W hSw; obtain ⟨hS0, hS1, hS2, hS3, hS4, hS5, hS6⟩ := hSw; go_simp) <;> with_reducible rfl)
  refine tkH 10 ?_ hHeld ?_ ?_; rotate_left
  · ((intro W hSw; obtain ⟨hS0, hS1, hS2, hS3, hS4, hS5, hS6⟩ := hSw; go_simp) <;> with_reducible rfl)
  refine wpAnyH_ready (rs := [4, 11]) (by kernel_rfl) (by simp) ?_
  refine AllReadyH.cons rfl (fun K hK => ?_) (AllReadyH.cons rfl (fun K hK => ?_) AllReadyH.nil)
  · go_simp
    refine hK.out _ _ hHeld (fun hHeld => ?_)
    clear hK K
    try simp only [Act.put]
    try simp only [List.getElem_toArray]
    try simp only [List.getElem_cons_succ]
    try simp only [List.getElem_cons_zero]
    try simp only [List.setIfInBounds_toArray]
    try simp only [List.set_cons_succ]
    try simp only [List.set_cons_zero]
    refine wpAnyH_ready (rs := [11]) (by kernel_rfl) (by simp) ?_
    refine AllReadyH.cons rfl (fun K hK => ?_) AllReadyH.nil
    go_simp
    refine (newWant_any (M.last + 1) of_ p n _ Hn0.out hn).mono ?_
    rintro e w2 ⟨rfl, hw2⟩
    rw [hw2]
    clear hw2
    unfold ptr
    go_simp
    refine hK.out _ _ (PlS.below hHeld (((Below.refl _ _).alloc (Nat.le_refl _) _).alloc (by simp) _)) (fun hHeld => ?_)
    clear hK K
    try simp only [Act.put]
    try simp only [List.getElem_toArray]
    try simp only [List.getElem_cons_succ]
    try simp only [List.getElem_cons_zero]
    try simp only [List.setIfInBounds_toArray]
    try simp only [List.set_cons_succ]
    try simp only [List.set_cons_zero]
    refine wpAnyH_ready (rs := [12]) (by kernel_rfl) (by simp) ?_
    refine AllReadyH.cons rfl (fun K hK => ?_) AllReadyH.nil
    go_simp
    refine hK.out _ _ (PlS.below hHeld ((Below.refl _ _).alloc (Nat.le_refl _) _)) (fun hHeld => ?_)
    clear hK K
    try simp only [Act.put]
    try simp only [List.getElem_toArray]
    try simp only [List.getElem_cons_succ]
    try simp only [List.getElem_cons_zero]
    try simp only [List.setIfInBounds_toArray]
    try simp only [List.set_cons_succ]
    try simp only [List.set_cons_zero]
    refine wpAnyH_ready (rs := [13]) (by kernel_rfl) (by simp) ?_
    refine AllReadyH.cons rfl (fun K hK => ?_) AllReadyH.nil
    rw [if_pos (by rfl)]
    refine wp_append_at (.tmp 48) (.tmp 56) 85 rfl (mb + 1) 95 i0 _ 1 8 Tryz.underlying85 Hi.out.1 Hi.out.2.1 Hi.out.2.2.1 Hi.out.2.2.2 rfl (by decide) (.slice ao WB.length cap) WB.length (WB.map fun p => ptr p.1) (by rfl) (World.ownsRow.drew (World.ownsRow.alloc (World.ownsRow.alloc (World.ownsRow.alloc H3.out.wr _) _) _)) _ 1 1 [ptr (W0.heap.size + 1)] (by rfl) rfl (cells_newAt _ [ptr (W0.heap.size + 1)] _ _ (by simp)) ?_ (by unfold maxLen; omega) (by omega) (by simp; omega) ?_
    · intro u hu
      simp at hu
      subst hu
      rfl
    intro v' w3 hown' hgrow hob
    obtain ⟨a3, c3, rfl⟩ := rowA_shape hown'
    have hc3 : Chg (fun x => (Value.slice ao WB.length cap).ownBlock = some x) W0 w3 := Chg.ofGrown (((((World.grownBy_alloc _ _ _).trans (World.grownBy_alloc _ _ _)).trans (World.grownBy_alloc _ _ _)).trans (World.grownBy_drewX _ _)).trans hgrow)
    have z19 : w3.cell? ⟨mb, 19, none⟩ = some (.slice ao WB.length cap) := hc3.cell y19 hneM
    have zS : PlS mb w.heap.size (M.last + 1) p w3 := PlS.chg HS.out hc3 hneM hneB
    have zf : ∀ o, w3.frozen? ⟨mb, o, none⟩ = false := fun o => (hc3.frozen (p := ⟨mb, o, none⟩) hs1 hneM).trans (yf o)
    have HM : Hid (Moved W0 (w3.setCell ⟨mb, 19, none⟩ (.slice a3 (WB.length + 1) c3)) ρ mb { M with wns := M.wns ++ [newW (M.last + 1) of_ p n], last := M.last + 1 }) := Moved.addW H3.out Hids.out hlast _ hgrow hown' hob
    refine hK.out _ _ zS (fun hHeld => ?_)
    clear hK K hown' hgrow hob hc3 y19 yf
    try simp only [Act.put]
    try simp only [List.getElem_toArray]
    try simp only [List.getElem_cons_succ]
    try simp only [List.getElem_cons_zero]
    try simp only [List.setIfInBounds_toArray]
    try simp only [List.set_cons_succ]
    try simp only [List.set_cons_zero]
    refine tkH 14 ?_ hHeld ?_ ?_; rotate_left
    · ((intro W hSw; go_simp) <;> with_reducible rfl)
    refine tkH 15 ?_ hHeld ?_ ?_; rotate_left
    · ((intro W hSw; go_simp) <;> with_reducible rfl)
    refine wpAnyH_ready (rs := [16]) (by kernel_rfl) (by simp) ?_
    refine AllReadyH.cons rfl (fun K hK => ?_) AllReadyH.nil
    go_simp
    have zS' : PlS mb w.heap.size (M.last + 1) p (w3.setCell ⟨mb, 19, none⟩ (.slice a3 (WB.length + 1) c3)) := PlS.set19 zS hbx _
    refine hK.out _ _ zS' (fun hHeld => ?_)
    clear hK K
    refine wpAnyH_done (by kernel_rfl) ?_ _
    refine NoPanic.normal ?_
    have z20 := zS'.1
    generalize hW4 : w3.setCell ⟨mb, 19, none⟩ (.slice a3 (WB.length + 1) c3) = W4 at *
    clear hW4 z19 zf zS zS'
    go_wp2
    go_ret2
    rw [HA.out]
    exact ⟨rfl, Moved.before Hb3.out (Moved.then0 HM0.out HM.out)⟩
  · go_simp
    refine (newWant_any (M.last + 1) of_ p n _ Hn0.out hn).mono ?_
    rintro e w2 ⟨rfl, hw2⟩
    rw [hw2]
    clear hw2
    unfold ptr
    go_simp
    refine hK.out _ _ (PlS.below hHeld (((Below.refl _ _).alloc (Nat.le_refl _) _).alloc (by simp) _)) (fun hHeld => ?_)
    clear hK K
    try simp only [Act.put]
    try simp only [List.getElem_toArray]
    try simp only [List.getElem_cons_succ]
    try simp only [List.getElem_cons_zero]
    try simp only [List.setIfInBounds_toArray]
    try simp only [List.set_cons_succ]
    try simp only [List.set_cons_zero]
    refine wpAnyH_ready (rs := [4, 12]) (by kernel_rfl) (by simp) ?_
    refine AllReadyH.cons rfl (fun K hK => ?_) (AllReadyH.cons rfl (fun K hK => ?_) AllReadyH.nil)
    · go_simp
      refine hK.out _ _ hHeld (fun hHeld => ?_)
      clear hK K
      try simp only [Act.put]
      try simp only [List.getElem_toArray]
      try simp only [List.getElem_cons_succ]
      try simp only [List.getElem_cons_zero]
      try simp only [List.setIfInBounds_toArray]
      try simp only [List.set_cons_succ]
      try simp only [List.set_cons_zero]
      refine wpAnyH_ready (rs := [12]) (by kernel_rfl) (by simp) ?_
      refine AllReadyH.cons rfl (fun K hK => ?_) AllReadyH.nil
      go_simp
      refine hK.out _ _ (PlS.below hHeld ((Below.refl _ _).alloc (Nat.le_refl _) _)) (fun hHeld => ?_)
      clear hK K
      try simp only [Act.put]
      try simp only [List.getElem_toArray]
      try simp only [List.getElem_cons_succ]
      try simp only [List.getElem_cons_zero]
      try simp only [List.setIfInBounds_toArray]
      try simp only [List.set_cons_succ]
      try simp only [List.set_cons_zero]
      refine wpAnyH_ready (rs := [13]) (by kernel_rfl) (by simp) ?_
      refine AllReadyH.cons rfl (fun K hK => ?_) AllReadyH.nil
      rw [if_pos (by rfl)]
      refine wp_append_at (.tmp 48) (.tmp 56) 85 rfl (mb + 1) 95 i0 _ 1 8 Tryz.underlying85 Hi.out.1 Hi.out.2.1 Hi.out.2.2.1 Hi.out.2.2.2 rfl (by decide) (.slice ao WB.length cap) WB.length (WB.map fun p => ptr p.1) (by rfl) (World.ownsRow.drew (World.ownsRow.alloc (World.ownsRow.alloc (World.ownsRow.alloc H3.out.wr _) _) _)) _ 1 1 [ptr (W0.heap.size + 1)] (by rfl) rfl (cells_newAt _ [ptr (W0.heap.size + 1)] _ _ (by simp)) ?_ (by unfold maxLen; omega) (by omega) (by simp; omega) ?_
      · intro u hu
        simp at hu
        subst hu
        rfl
      intro v' w3 hown' hgrow hob
      obtain ⟨a3, c3, rfl⟩ := rowA_shape hown'
      have hc3 : Chg (fun x => (Value.slice ao WB.length cap).ownBlock = some x) W0 w3 := Chg.ofGrown (((((World.grownBy_alloc _ _ _).trans (World.grownBy_alloc _ _ _)).trans (World.grownBy_alloc _ _ _)).trans (World.grownBy_drewX _ _)).trans hgrow)
      have z19 : w3.cell? ⟨mb, 19, none⟩ = some (.slice ao WB.length cap) := hc3.cell y19 hneM
      have zS : PlS mb w.heap.size (M.last + 1) p w3 := PlS.chg HS.out hc3 hneM hneB
      have zf : ∀ o, w3.frozen? ⟨mb, o, none⟩ = false := fun o => (hc3.frozen (p := ⟨mb, o, none⟩) hs1 hneM).trans (yf o)
      have HM : Hid (Moved W0 (w3.setCell ⟨mb, 19, none⟩ (.slice a3 (WB.length + 1) c3)) ρ mb { M with wns := M.wns ++ [newW (M.last + 1) of_ p n], last := M.last + 1 }) := Moved.addW H3.out Hids.out hlast _ hgrow hown' hob
      refine hK.out _ _ zS (fun hHeld => ?_)
      clear hK K hown' hgrow hob hc3 y19 yf
      try simp only [Act.put]
      try simp only [List.getElem_toArray]
      try simp only [List.getElem_cons_succ]
      try simp only [List.getElem_cons_zero]
      try simp only [List.setIfInBounds_toArray]
      try simp only [List.set_cons_succ]
      try simp only [List.set_cons_zero]
      refine tkH 14 ?_ hHeld ?_ ?_; rotate_left
      · ((intro W hSw; go_simp) <;> with_reducible rfl)
      refine tkH 15 ?_ hHeld ?_ ?_; rotate_left
      · ((intro W hSw; go_simp) <;> with_reducible rfl)
      refine wpAnyH_ready (rs := [16]) (by kernel_rfl) (by simp) ?_
      refine AllReadyH.cons rfl (fun K hK => ?_) AllReadyH.nil
      go_simp
      have zS' : PlS mb w.heap.size (M.last + 1) p (w3.setCell ⟨mb, 19, none⟩ (.slice a3 (WB.length + 1) c3)) := PlS.set19 zS hbx _
      refine hK.out _ _ zS' (fun hHeld => ?_)
      clear hK K
      refine wpAnyH_done (by kernel_rfl) ?_ _
      refine NoPanic.normal ?_
      have z20 := zS'.1
      generalize hW4 : w3.setCell ⟨mb, 19, none⟩ (.slice a3 (WB.length + 1) c3) = W4 at *
      clear hW4 z19 zf zS zS'
      go_wp2
      go_ret2
      rw [HA.out]
      exact ⟨rfl, Moved.before Hb3.out (Moved.then0 HM0.out HM.out)⟩
    · go_simp
      refine hK.out _ _ (PlS.below hHeld ((Below.refl _ _).alloc (Nat.le_refl _) _)) (fun hHeld => ?_)
      clear hK K
      try simp only [Act.put]
      try simp only [List.getElem_toArray]
      try simp only [List.getElem_cons_succ]
      try simp only [List.getElem_cons_zero]
      try simp only [List.setIfInBounds_toArray]
      try simp only [List.set_cons_succ]
      try simp only [List.set_cons_zero]
      refine wpAnyH_ready (rs := [4]) (by kernel_rfl) (by simp) ?_
      refine AllReadyH.cons rfl (fun K hK => ?_) AllReadyH.nil
      have y19c : ∀ o1 o2 o3, (((W0.alloc o1).alloc o2).alloc o3).cell? ⟨mb, 19, none⟩ = some (.slice ao WB.length cap) := fun o1 o2 o3 => (World.cell?_alloc_lt _ _ _ (by simp; omega)).trans ((World.cell?_alloc_lt _ _ _ (by simp; omega)).trans ((World.cell?_alloc_lt _ _ _ hs1).trans y19))
      go_simp
      refine hK.out _ _ hHeld (fun hHeld => ?_)
      clear hK K
      try simp only [Act.put]
      try simp only [List.getElem_toArray]
      try simp only [List.getElem_cons_succ]
      try simp only [List.getElem_cons_zero]
      try simp only [List.setIfInBounds_toArray]
      try simp only [List.set_cons_succ]
      try simp only [List.set_cons_zero]
      clear y19c
      refine wpAnyH_ready (rs := [13]) (by kernel_rfl) (by simp) ?_
      refine AllReadyH.cons rfl (fun K hK => ?_) AllReadyH.nil
      rw [if_pos (by rfl)]
      refine wp_append_at (.tmp 48) (.tmp 56) 85 rfl (mb + 1) 95 i0 _ 1 8 Tryz.underlying85 Hi.out.1 Hi.out.2.1 Hi.out.2.2.1 Hi.out.2.2.2 rfl (by decide) (.slice ao WB.length cap) WB.length (WB.map fun p => ptr p.1) (by rfl) (World.ownsRow.drew (World.ownsRow.alloc (World.ownsRow.alloc (World.ownsRow.alloc H3.out.wr _) _) _)) _ 1 1 [ptr (W0.heap.size + 1)] (by rfl) rfl (cells_newAt _ [ptr (W0.heap.size + 1)] _ _ (by simp)) ?_ (by unfold maxLen; omega) (by omega) (by simp; omega) ?_
      · intro u hu
        simp at hu
        subst hu
        rfl
      intro v' w3 hown' hgrow hob
      obtain ⟨a3, c3, rfl⟩ := rowA_shape hown'
      have hc3 : Chg (fun x => (Value.slice ao WB.length cap).ownBlock = some x) W0 w3 := Chg.ofGrown (((((World.grownBy_alloc _ _ _).trans (World.grownBy_alloc _ _ _)).trans (World.grownBy_alloc _ _ _)).trans (World.grownBy_drewX _ _)).trans hgrow)
      have z19 : w3.cell? ⟨mb, 19, none⟩ = some (.slice ao WB.length cap) := hc3.cell y19 hneM
      have zS : PlS mb w.heap.size (M.last + 1) p w3 := PlS.chg HS.out hc3 hneM hneB
      have zf : ∀ o, w3.frozen? ⟨mb, o, none⟩ = false := fun o => (hc3.frozen (p := ⟨mb, o, none⟩) hs1 hneM).trans (yf o)
      have HM : Hid (Moved W0 (w3.setCell ⟨mb, 19, none⟩ (.slice a3 (WB.length + 1) c3)) ρ mb { M with wns := M.wns ++ [newW (M.last + 1) of_ p n], last := M.last + 1 }) := Moved.addW H3.out Hids.out hlast _ hgrow hown' hob
      refine hK.out _ _ zS (fun hHeld => ?_)
      clear hK K hown' hgrow hob hc3 y19 yf
      try simp only [Act.put]
      try simp only [List.getElem_toArray]
      try simp only [List.getElem_cons_succ]
      try simp only [List.getElem_cons_zero]
      try simp only [List.setIfInBounds_toArray]
      try simp only [List.set_cons_succ]
      try simp only [List.set_cons_zero]
      refine tkH 14 ?_ hHeld ?_ ?_; rotate_left
      · ((intro W hSw; go_simp) <;> with_reducible rfl)
      refine tkH 15 ?_ hHeld ?_ ?_; rotate_left
      · ((intro W hSw; go_simp) <;> with_reducible rfl)
      refine wpAnyH_ready (rs := [16]) (by kernel_rfl) (by simp) ?_
      refine AllReadyH.cons rfl (fun K hK => ?_) AllReadyH.nil
      go_simp
      have zS' : PlS mb w.heap.size (M.last + 1) p (w3.setCell ⟨mb, 19, none⟩ (.slice a3 (WB.length + 1) c3)) := PlS.set19 zS hbx _
      refine hK.out _ _ zS' (fun hHeld => ?_)
      clear hK K
      refine wpAnyH_done (by kernel_rfl) ?_ _
      refine NoPanic.normal ?_
      have z20 := zS'.1
      generalize hW4 : w3.setCell ⟨mb, 19, none⟩ (.slice a3 (WB.length + 1) c3) = W4 at *
      clear hW4 z19 zf zS zS'
      go_wp2
      go_ret2
      rw [HA.out]
      exact ⟨rfl, Moved.before Hb3.out (Moved.then0 HM0.out HM.out)⟩

end Go.Proofs.YtdjhhnolcafkiaaGreat

/- The document's mender: AddWant. -/
namespace Go.Proofs.YtdjhhnolcafkiaaGreat
open Go.RowKit
namespace Pk
def rNewW (id of_ : Int) (p : Plan) : Rw := ⟨id, of_, p, .slice none 0 0, [], 0, 0⟩
def rAddW (R : Rm) (of_ : Int) (p : Plan) : Rm × Int × Int :=
  if rsPos R of_ = none then (R, 0, 4) else if plOk p = false then (R, 0, 2) else if (rKnown R p.source || rKnown R p.second) = true then (R, 0, 3) else if 8 ≤ R.wns.length then (R, 0, 5) else ({ R with wns := R.wns ++ [rNewW (R.ids + 1) of_ p], ids := R.ids + 1 }, R.ids + 1, 0)
theorem want_info : (Tryz.prog.info? 99).map (fun i => (i.zero, i.size, i.bytes)) = some (some (.agg #[.int .i64 0, .int .i64 0, .int .i64 0, .int .i64 0, .int .i64 0, .int .i64 0, .int .i64 0, .int .i64 0, .slice none 0 0, .int .i64 0, .int .i64 0]), 11, 104) := by kernel_rfl
theorem rfix {w W : World} {ρ : Nat → Nat} {rb : Nat} {R : Rm} {sv wv : Value} (h : RdAt w ρ rb R sv wv) (hb : Below w.heap.size w W) : ∃ ρ' sv' wv', RdAt W ρ' rb R sv' wv' ∧ RMv w ρ W ρ' := ⟨ρ, sv, wv, h.below hb, RMv.below hb⟩
end Pk
open Pk

set_option maxRecDepth 20000 in
set_option maxHeartbeats 4000000 in
theorem refAddWant_any (ρ : Nat → Nat) (rb : Nat) (R : Rm) (sv wv : Value) (of_ : Int) (p : Plan) (w : World) (h : RdAt w ρ rb R sv wv) (hids : 0 ≤ R.ids ∧ R.ids ≤ 1000000000000) (hfr : ∀ y ∈ R.wns, y.id.toNat ≠ (R.ids + 1).toNat) :
    Calls Tryz.prog 18 #[.pointer (some ⟨rb, 0, none⟩), .int .i64 of_, .agg #[.int .i64 p.source, .int .i64 p.second, .int .i64 p.ty, .int .i64 p.secondTy, .int .i64 p.first, .int .i64 p.secondFirst]] w fun e w' => e = .returned (.tuple #[.int .i64 (rAddW R of_ p).2.1, .int .i64 (rAddW R of_ p).2.2]) ∧ ∃ ρ' sv' wv', RdAt w' ρ' rb (rAddW R of_ p).1 sv' wv' ∧ RMv w ρ w' ρ' := by
  obtain ⟨ao, cap, rfl⟩ := rowA_shape h.wr.1
  have H : Hid (RdAt w ρ rb R sv (.slice ao R.wns.length cap)) := h
  have Hfr : Hid (∀ y ∈ R.wns, y.id.toNat ≠ (R.ids + 1).toNat) := hfr
  have hlt := h.lt
  have hw8 := h.w8
  clear h hfr
  obtain ⟨X, hX⟩ : ∃ X, rAddW R of_ p = X := ⟨_, rfl⟩
  have HX : Hid (rAddW R of_ p = X) := hX
  rw [hX]
  clear hX
  have hbx : rb ≠ w.heap.size := by omega
  have Hb0 : Hid (Below w.heap.size w (w.alloc (.cells #[.int .i64 p.source, .int .i64 p.second, .int .i64 p.ty, .int .i64 p.secondTy, .int .i64 p.first, .int .i64 p.secondFirst] 39))) := (Below.refl _ _).alloc (Nat.le_refl _) _
  have HP0 : Hid (PlAt w.heap.size p (w.alloc (.cells #[.int .i64 p.source, .int .i64 p.second, .int .i64 p.ty, .int .i64 p.secondTy, .int .i64 p.first, .int .i64 p.secondFirst] 39))) := ⟨cell_new _ _ _ 0, cell_new _ _ _ 1, cell_new _ _ _ 2, cell_new _ _ _ 3, cell_new _ _ _ 4, cell_new _ _ _ 5⟩
  have H0 : Hid (RdAt (w.alloc (.cells #[.int .i64 p.source, .int .i64 p.second, .int .i64 p.ty, .int .i64 p.secondTy, .int .i64 p.first, .int .i64 p.secondFirst] 39)) ρ rb R sv (.slice ao R.wns.length cap)) := H.out.below Hb0.out
  go_enter Tryz.func18, Tryz.ntmps18
  go_wp2_with fail
  refine (refSender_any ρ rb R sv _ of_ _ H0.out).mono ?_
  rintro e w1 ⟨rfl, hw1⟩
  rw [hw1]
  clear hw1
  obtain ⟨q0, q1, q2, q3, q4, q5⟩ := HP0.out
  generalize w.alloc (.cells #[.int .i64 p.source, .int .i64 p.second, .int .i64 p.ty, .int .i64 p.secondTy, .int .i64 p.first, .int .i64 p.secondFirst] 39) = W1 at *
  cases hp : rsPos R of_ with
  | none =>
    have E : Hid (X = (R, 0, 4)) := by show _ = _; rw [← HX.out]; unfold rAddW; rw [if_pos hp]
    clear hp
    unfold optI
    go_wp2
    go_ret2
    exact ⟨by rw [E.out]; rfl, by rw [E.out]; exact rfix H.out Hb0.out⟩
  | some i =>
  have Hsn : Hid (¬ rsPos R of_ = none) := fun e => by rw [hp] at e; cases e
  clear hp
  unfold optI
  have hi0 : ¬ (i : Int) < 0 := by omega
  go_wp2_with fail
  refine (refIn_any _ _ _).mono ?_; rintro e w' ⟨rfl, hw'⟩; rw [hw']; clear hw' w'
  obtain ⟨b1, hb1⟩ : ∃ b, decide (0 ≤ p.source ∧ p.source ≤ 4294967295) = b := ⟨_, rfl⟩
  rw [hb1]
  have H1 : Hid (decide (0 ≤ p.source ∧ p.source ≤ 4294967295) = b1) := hb1
  clear hb1
  go_wp2_with fail
  refine (refIn_any _ _ _).mono ?_; rintro e w' ⟨rfl, hw'⟩; rw [hw']; clear hw' w'
  obtain ⟨b2, hb1⟩ : ∃ b, decide (0 ≤ p.second ∧ p.second ≤ 4294967295) = b := ⟨_, rfl⟩
  rw [hb1]
  have H2 : Hid (decide (0 ≤ p.second ∧ p.second ≤ 4294967295) = b2) := hb1
  clear hb1
  go_wp2_with fail
  refine (refIn_any _ _ _).mono ?_; rintro e w' ⟨rfl, hw'⟩; rw [hw']; clear hw' w'
  obtain ⟨b3, hb1⟩ : ∃ b, decide (0 ≤ p.ty ∧ p.ty ≤ 127) = b := ⟨_, rfl⟩
  rw [hb1]
  have H3 : Hid (decide (0 ≤ p.ty ∧ p.ty ≤ 127) = b3) := hb1
  clear hb1
  go_wp2_with fail
  refine (refIn_any _ _ _).mono ?_; rintro e w' ⟨rfl, hw'⟩; rw [hw']; clear hw' w'
  obtain ⟨b4, hb1⟩ : ∃ b, decide (0 ≤ p.secondTy ∧ p.secondTy ≤ 127) = b := ⟨_, rfl⟩
  rw [hb1]
  have H4 : Hid (decide (0 ≤ p.secondTy ∧ p.secondTy ≤ 127) = b4) := hb1
  clear hb1
  go_wp2_with fail
  refine (refIn_any _ _ _).mono ?_; rintro e w' ⟨rfl, hw'⟩; rw [hw']; clear hw' w'
  obtain ⟨b5, hb1⟩ : ∃ b, decide (0 ≤ p.first ∧ p.first ≤ 65535) = b := ⟨_, rfl⟩
  rw [hb1]
  have H5 : Hid (decide (0 ≤ p.first ∧ p.first ≤ 65535) = b5) := hb1
  clear hb1
  go_wp2_with fail
  refine (refIn_any _ _ _).mono ?_; rintro e w' ⟨rfl, hw'⟩; rw [hw']; clear hw' w'
  obtain ⟨b6, hb1⟩ : ∃ b, decide (0 ≤ p.secondFirst ∧ p.secondFirst ≤ 65535) = b := ⟨_, rfl⟩
  rw [hb1]
  have H6 : Hid (decide (0 ≤ p.secondFirst ∧ p.secondFirst ≤ 65535) = b6) := hb1
  clear hb1
  obtain ⟨b7, hb1⟩ : ∃ b, decide (p.source ≠ p.second) = b := ⟨_, rfl⟩
  have H7 : Hid (decide (p.source ≠ p.second) = b7) := hb1
  have Hok : Hid (plOk p = (b1 && b2 && b3 && b4 && b5 && b6 && b7)) := by
    show _ = _
    rw [← H1.out, ← H2.out, ← H3.out, ← H4.out, ← H5.out, ← H6.out, ← H7.out]
    unfold plOk
    rw [Bool.eq_iff_iff]
    simp only [decide_eq_true_eq, Bool.and_eq_true, and_assoc]
  have Hno : Hid ((b1 && b2 && b3 && b4 && b5 && b6 && b7) = false → X = (R, 0, 2)) := fun e => by
    rw [← HX.out]; unfold rAddW; rw [if_neg Hsn.out, if_pos (by rw [Hok.out]; exact e)]
  clear H1 H2 H3 H4 H5 H6 hb1
  cases b1 with
  | false =>
    go_wp2
    go_ret2
    exact ⟨by rw [Hno.out (by simp)]; rfl, by rw [Hno.out (by simp)]; exact rfix H.out Hb0.out⟩
  | true =>
  cases b2 with
  | false =>
    go_wp2
    go_ret2
    exact ⟨by rw [Hno.out (by simp)]; rfl, by rw [Hno.out (by simp)]; exact rfix H.out Hb0.out⟩
  | true =>
  cases b3 with
  | false =>
    go_wp2
    go_ret2
    exact ⟨by rw [Hno.out (by simp)]; rfl, by rw [Hno.out (by simp)]; exact rfix H.out Hb0.out⟩
  | true =>
  cases b4 with
  | false =>
    go_wp2
    go_ret2
    exact ⟨by rw [Hno.out (by simp)]; rfl, by rw [Hno.out (by simp)]; exact rfix H.out Hb0.out⟩
  | true =>
  cases b5 with
  | false =>
    go_wp2
    go_ret2
    exact ⟨by rw [Hno.out (by simp)]; rfl, by rw [Hno.out (by simp)]; exact rfix H.out Hb0.out⟩
  | true =>
  cases b6 with
  | false =>
    go_wp2
    go_ret2
    exact ⟨by rw [Hno.out (by simp)]; rfl, by rw [Hno.out (by simp)]; exact rfix H.out Hb0.out⟩
  | true =>
  cases b7 with
  | false =>
    have hne : (p.source == p.second) = true := by have h := of_decide_eq_false H7.out; simp at h; simp [h]
    go_wp2
    go_ret2
    exact ⟨by rw [Hno.out (by simp)]; rfl, by rw [Hno.out (by simp)]; exact rfix H.out Hb0.out⟩
  | true =>
  have hne : (p.source == p.second) = false := by have h := of_decide_eq_true H7.out; simp [h]
  have Hpl : Hid (¬ plOk p = false) := by show ¬ _; rw [Hok.out]; decide
  clear Hno Hok H7
  go_wp2_with fail
  refine (refKnown_any ρ rb R sv _ p.source _ H0.out).mono ?_
  rintro e w2 ⟨rfl, hw2⟩
  rw [hw2]
  clear hw2
  obtain ⟨k1, hk1⟩ : ∃ b, rKnown R p.source = b := ⟨_, rfl⟩
  rw [hk1]
  have Hk1 : Hid (rKnown R p.source = k1) := hk1
  clear hk1
  go_wp2_with fail
  refine (refKnown_any ρ rb R sv _ p.second _ H0.out).mono ?_
  rintro e w3 ⟨rfl, hw3⟩
  rw [hw3]
  clear hw3
  obtain ⟨k2, hk2⟩ : ∃ b, rKnown R p.second = b := ⟨_, rfl⟩
  rw [hk2]
  have Hkn : Hid ((k1 || k2) = true → X = (R, 0, 3)) := fun e => by
    rw [← HX.out]; unfold rAddW; rw [if_neg Hsn.out, if_neg Hpl.out, if_pos (by rw [Hk1.out, hk2]; exact e)]
  have Hkk : Hid ((k1 || k2) = false → ¬ (rKnown R p.source || rKnown R p.second) = true) := fun e => by rw [Hk1.out, hk2, e]; decide
  clear hk2 Hk1
  cases k1 with
  | true =>
    go_wp2
    go_ret2
    exact ⟨by rw [Hkn.out (by simp)]; rfl, by rw [Hkn.out (by simp)]; exact rfix H.out Hb0.out⟩
  | false =>
  cases k2 with
  | true =>
    go_wp2
    go_ret2
    exact ⟨by rw [Hkn.out (by simp)]; rfl, by rw [Hkn.out (by simp)]; exact rfix H.out Hb0.out⟩
  | false =>
  have Hk : Hid (¬ (rKnown R p.source || rKnown R p.second) = true) := Hkk.out rfl
  clear Hkn Hkk
  have y19 : W1.cell? ⟨rb, 19, none⟩ = some (.slice ao R.wns.length cap) := H0.out.k 19 _ rfl
  by_cases h8 : 8 ≤ R.wns.length
  · have h8' : (8 : Int) ≤ R.wns.length := by omega
    have E : Hid (X = (R, 0, 5)) := by show _ = _; rw [← HX.out]; unfold rAddW; rw [if_neg Hsn.out, if_neg Hpl.out, if_neg Hk.out, if_pos h8]
    go_wp2
    go_ret2
    exact ⟨by rw [E.out]; rfl, by rw [E.out]; exact rfix H.out Hb0.out⟩
  have h8' : ¬ (8 : Int) ≤ R.wns.length := by omega
  have E : Hid (X = ({ R with wns := R.wns ++ [rNewW (R.ids + 1) of_ p], ids := R.ids + 1 }, R.ids + 1, 0)) := by show _ = _; rw [← HX.out]; unfold rAddW; rw [if_neg Hsn.out, if_neg Hpl.out, if_neg Hk.out, if_neg h8]
  obtain ⟨i0, hi, hz0, hz1, hz2⟩ := info_parts want_info
  have Hi : Hid (Tryz.prog.info? 99 = some i0 ∧ i0.zero = some (.agg #[.int .i64 0, .int .i64 0, .int .i64 0, .int .i64 0, .int .i64 0, .int .i64 0, .int .i64 0, .int .i64 0, .slice none 0 0, .int .i64 0, .int .i64 0]) ∧ i0.size = 11 ∧ i0.bytes = 104) := ⟨hi, hz0, hz1, hz2⟩
  clear hi hz0 hz1 hz2
  have hw1 : IntKind.i64.wrap (R.ids + 1) = R.ids + 1 := i64_id _ (by omega) (by omega)
  have y20 : W1.cell? ⟨rb, 20, none⟩ = some (.int .i64 R.ids) := H0.out.k 20 _ rfl
  have yf0 : ∀ o, W1.frozen? ⟨rb, o, none⟩ = false := H0.out.fz
  have hcm : Chg (fun b => b = rb) W1 (W1.setCell ⟨rb, 20, none⟩ (.int .i64 (R.ids + 1))) := (Chg.refl (fun b => b = rb) _).setCell ⟨rb, 20, none⟩ (.inl rfl) _
  have H3 : Hid (RdAt (W1.setCell ⟨rb, 20, none⟩ (.int .i64 (R.ids + 1))) ρ rb { R with ids := R.ids + 1 } sv (.slice ao R.wns.length cap)) := H0.out.put 20 _ rfl rfl rfl
  have HM0 : Hid (RMv w ρ (W1.setCell ⟨rb, 20, none⟩ (.int .i64 (R.ids + 1))) ρ) := (RMv.below Hb0.out).trans ⟨fun _ _ e => e, hcm.mono (fun y _ e => by rw [e, H0.out.rm]; decide)⟩
  have HP4 : Hid (PlAt w.heap.size p (W1.setCell ⟨rb, 20, none⟩ (.int .i64 (R.ids + 1)))) := PlAt.chg HP0.out hcm (fun e => hbx e.symm)
  clear hcm q0 q1 q2 q3 q4 q5 H0 HP0
  go_wp2
  have HS : Hid (PlS rb w.heap.size (R.ids + 1) p (W1.setCell ⟨rb, 20, none⟩ (.int .i64 (R.ids + 1)))) := ⟨H3.out.k 20 _ rfl, HP4.out⟩
  have hneM : (Value.slice ao R.wns.length cap).ownBlock ≠ some rb := fun e => by have := H3.out.wr.2 rb e; rw [H3.out.rm] at this; cases this
  have hneB : (Value.slice ao R.wns.length cap).ownBlock ≠ some w.heap.size := fun e => by have := (H.out.wr.1.lt _ e).2; omega
  clear y19 y20 yf0 HP4
  have y19 : (W1.setCell ⟨rb, 20, none⟩ (.int .i64 (R.ids + 1))).cell? ⟨rb, 19, none⟩ = some (.slice ao R.wns.length cap) := H3.out.k 19 _ rfl
  have yf : ∀ o, (W1.setCell ⟨rb, 20, none⟩ (.int .i64 (R.ids + 1))).frozen? ⟨rb, o, none⟩ = false := H3.out.fz
  have hs1 : rb < (W1.setCell ⟨rb, 20, none⟩ (.int .i64 (R.ids + 1))).heap.size := H3.out.lt
  generalize W1.setCell ⟨rb, 20, none⟩ (.int .i64 (R.ids + 1)) = W0 at *
  refine wp_region_noPanic ?_
  refine wp_region_held_drew (S := PlS rb w.heap.size (R.ids + 1) p) (by kernel_rfl) HS.out (fun hHeld => ?_)
  refine tkH 0 ?_ hHeld ?_ ?_; rotate_left
  · ((intro W hSw; obtain ⟨hS0, hS1, hS2, hS3, hS4, hS5, hS6⟩ := hSw; go_simp) <;> with_reducible rfl)
  refine tkH 1 ?_ hHeld ?_ ?_; rotate_left
  · ((intro W hSw; obtain ⟨hS0, hS1, hS2, hS3, hS4, hS5, hS6⟩ := hSw; go_simp) <;> with_reducible rfl)
  refine tkH 2 ?_ hHeld ?_ ?_; rotate_left
  · ((intro W hSw; obtain ⟨hS0, hS1, hS2, hS3, hS4, hS5, hS6⟩ := hSw; go_simp) <;> with_reducible rfl)
  refine tkH 3 ?_ hHeld ?_ ?_; rotate_left
  · ((intro W hSw; obtain ⟨hS0, hS1, hS2, hS3, hS4, hS5, hS6⟩ := hSw; go_simp) <;> with_reducible rfl)
  refine tkH 5 ?_ hHeld ?_ ?_; rotate_left
  · ((intro W hSw; obtain ⟨hS0, hS1, hS2, hS3, hS4, hS5, hS6⟩ := hSw; go_simp) <;> with_reducible rfl)
  refine tkH 6 ?_ hHeld ?_ ?_; rotate_left
  · ((intro W hSw; obtain ⟨hS0, hS1, hS2, hS3, hS4, hS5, hS6⟩ := hSw; go_simp) <;> with_reducible rfl)
  refine tkH 7 ?_ hHeld ?_ ?_; rotate_left
  · ((intro W hSw; obtain ⟨hS0, hS1, hS2, hS3, hS4, hS5, hS6⟩ := hSw; go_simp) <;> with_reducible rfl)
  refine tkH 8 ?_ hHeld ?_ ?_; rotate_left
  · ((intro W hSw; obtain ⟨hS0, hS1, hS2, hS3, hS4, hS5, hS6⟩ := hSw; go_simp) <;> with_reducible rfl)
  refine tkH 9 ?_ hHeld ?_ ?_; rotate_left
  · ((intro W hSw; obtain ⟨hS0, hS1, hS2, hS3, hS4, hS5, hS6⟩ := hSw; go_simp) <;> with_reducible rfl)
  refine tkH 10 ?_ hHeld ?_ ?_; rotate_left
  · ((intro W hSw; obtain ⟨hS0, hS1, hS2, hS3, hS4, hS5, hS6⟩ := hSw; go_simp) <;> with_reducible rfl)
  refine tkH 11 ?_ hHeld ?_ ?_; rotate_left
  · ((intro W hSw; obtain ⟨hS0, hS1, hS2, hS3, hS4, hS5, hS6⟩ := hSw; go_simp) <;> with_reducible rfl)
  refine wpAnyH_ready (rs := [4, 12]) (by kernel_rfl) (by simp) ?_
  refine AllReadyH.cons rfl (fun K hK => ?_) (AllReadyH.cons rfl (fun K hK => ?_) AllReadyH.nil)
  · go_simp
    refine hK.out _ _ hHeld (fun hHeld => ?_)
    clear hK K
    try simp only [Act.put]
    try simp only [List.getElem_toArray]
    try simp only [List.getElem_cons_succ]
    try simp only [List.getElem_cons_zero]
    try simp only [List.setIfInBounds_toArray]
    try simp only [List.set_cons_succ]
    try simp only [List.set_cons_zero]
    refine wpAnyH_ready (rs := [12]) (by kernel_rfl) (by simp) ?_
    refine AllReadyH.cons rfl (fun K hK => ?_) AllReadyH.nil
    go_simp
    refine hK.out _ _ (PlS.below hHeld ((Below.refl _ _).alloc (Nat.le_refl _) _)) (fun hHeld => ?_)
    clear hK K
    try simp only [Act.put]
    try simp only [List.getElem_toArray]
    try simp only [List.getElem_cons_succ]
    try simp only [List.getElem_cons_zero]
    try simp only [List.setIfInBounds_toArray]
    try simp only [List.set_cons_succ]
    try simp only [List.set_cons_zero]
    refine wpAnyH_ready (rs := [13]) (by kernel_rfl) (by simp) ?_
    refine AllReadyH.cons rfl (fun K hK => ?_) AllReadyH.nil
    rw [if_pos (by rfl)]
    refine wp_append_at (.tmp 96) (.tmp 104) 51 rfl 0 99 i0 _ 11 104 Tryz.underlying51 Hi.out.1 Hi.out.2.1 Hi.out.2.2.1 Hi.out.2.2.2 rfl (by decide) (.slice ao R.wns.length cap) R.wns.length (R.wns.flatMap cRw) (by rfl) (World.ownsRow.drew (World.ownsRow.alloc H3.out.wr.1 _)) _ 1 1 [.int .i64 (R.ids + 1), .int .i64 of_, .int .i64 p.source, .int .i64 p.second, .int .i64 p.ty, .int .i64 p.secondTy, .int .i64 p.first, .int .i64 p.secondFirst, .slice none 0 0, .int .i64 0, .int .i64 0] (by rfl) rfl ?_ ?_ (by unfold maxLen; omega) (by omega) (Nat.zero_le _) ?_
    · exact cells_new _ [.int .i64 (R.ids + 1), .int .i64 of_, .int .i64 p.source, .int .i64 p.second, .int .i64 p.ty, .int .i64 p.secondTy, .int .i64 p.first, .int .i64 p.secondFirst, .slice none 0 0, .int .i64 0, .int .i64 0] _
    · intro u hu
      simp at hu
      rcases hu with rfl | rfl | rfl | rfl | rfl | rfl | rfl | rfl | rfl | rfl <;> rfl
    intro v' w3 hown' hgrow hob
    obtain ⟨a3, c3, rfl⟩ := rowA_shape hown'
    have hgr := Grew.of (ρ := ρ) (q := 3) (W := W0) H3.out.wr.2 (Below.drew ((Below.refl _ _).alloc (Nat.le_refl _) _)) hgrow hob (fun b hb => (hown'.lt b hb).2)
    have hc3 : Chg (fun x => (Value.slice ao R.wns.length cap).ownBlock = some x) W0 w3 := Chg.ofGrown (((World.grownBy_alloc _ _ _).trans (World.grownBy_drewX _ _)).trans hgrow)
    have z19 : w3.cell? ⟨rb, 19, none⟩ = some (.slice ao R.wns.length cap) := hc3.cell y19 hneM
    have zS : PlS rb w.heap.size (R.ids + 1) p w3 := PlS.chg HS.out hc3 hneM hneB
    have zf : ∀ o, w3.frozen? ⟨rb, o, none⟩ = false := fun o => (hc3.frozen (p := ⟨rb, o, none⟩) hs1 hneM).trans (yf o)
    have HM := H3.out.addW hgr (rNewW (R.ids + 1) of_ p) ⟨rfl, rfl⟩ Hfr.out hown' (by simp only; omega)
    have HA : Hid (RdAt (w3.setCell ⟨rb, 19, none⟩ (.slice a3 (R.wns.length + 1) c3)) (role (.slice a3 (R.wns.length + 1) c3) 3 ρ) rb { R with wns := R.wns ++ [rNewW (R.ids + 1) of_ p], ids := R.ids + 1 } sv (.slice a3 (R.wns.length + 1) c3) ∧ RMv W0 ρ (w3.setCell ⟨rb, 19, none⟩ (.slice a3 (R.wns.length + 1) c3)) (role (.slice a3 (R.wns.length + 1) c3) 3 ρ)) := HM
    refine hK.out _ _ zS (fun hHeld => ?_)
    clear hK K hown' hgrow hob hc3 y19 yf hgr HM
    try simp only [Act.put]
    try simp only [List.getElem_toArray]
    try simp only [List.getElem_cons_succ]
    try simp only [List.getElem_cons_zero]
    try simp only [List.setIfInBounds_toArray]
    try simp only [List.set_cons_succ]
    try simp only [List.set_cons_zero]
    refine tkH 14 ?_ hHeld ?_ ?_; rotate_left
    · ((intro W hSw; go_simp) <;> with_reducible rfl)
    refine tkH 15 ?_ hHeld ?_ ?_; rotate_left
    · ((intro W hSw; go_simp) <;> with_reducible rfl)
    refine wpAnyH_ready (rs := [16]) (by kernel_rfl) (by simp) ?_
    refine AllReadyH.cons rfl (fun K hK => ?_) AllReadyH.nil
    go_simp
    have zS' : PlS rb w.heap.size (R.ids + 1) p (w3.setCell ⟨rb, 19, none⟩ (.slice a3 (R.wns.length + 1) c3)) := PlS.set19 zS hbx _
    refine hK.out _ _ zS' (fun hHeld => ?_)
    clear hK K
    refine wpAnyH_done (by kernel_rfl) ?_ _
    refine NoPanic.normal ?_
    have z20 := zS'.1
    generalize hW4 : w3.setCell ⟨rb, 19, none⟩ (.slice a3 (R.wns.length + 1) c3) = W4 at *
    clear hW4 z19 zf zS zS'
    go_wp2
    go_ret2
    exact ⟨by rw [E.out]; rfl, _, _, _, by rw [E.out]; exact HA.out.1, HM0.out.trans HA.out.2⟩
  · go_simp
    refine hK.out _ _ (PlS.below hHeld ((Below.refl _ _).alloc (Nat.le_refl _) _)) (fun hHeld => ?_)
    clear hK K
    try simp only [Act.put]
    try simp only [List.getElem_toArray]
    try simp only [List.getElem_cons_succ]
    try simp only [List.getElem_cons_zero]
    try simp only [List.setIfInBounds_toArray]
    try simp only [List.set_cons_succ]
    try simp only [List.set_cons_zero]
    refine wpAnyH_ready (rs := [4]) (by kernel_rfl) (by simp) ?_
    refine AllReadyH.cons rfl (fun K hK => ?_) AllReadyH.nil
    go_simp
    refine hK.out _ _ hHeld (fun hHeld => ?_)
    clear hK K
    try simp only [Act.put]
    try simp only [List.getElem_toArray]
    try simp only [List.getElem_cons_succ]
    try simp only [List.getElem_cons_zero]
    try simp only [List.setIfInBounds_toArray]
    try simp only [List.set_cons_succ]
    try simp only [List.set_cons_zero]
    refine wpAnyH_ready (rs := [13]) (by kernel_rfl) (by simp) ?_
    refine AllReadyH.cons rfl (fun K hK => ?_) AllReadyH.nil
    rw [if_pos (by rfl)]
    refine wp_append_at (.tmp 96) (.tmp 104) 51 rfl 0 99 i0 _ 11 104 Tryz.underlying51 Hi.out.1 Hi.out.2.1 Hi.out.2.2.1 Hi.out.2.2.2 rfl (by decide) (.slice ao R.wns.length cap) R.wns.length (R.wns.flatMap cRw) (by rfl) (World.ownsRow.drew (World.ownsRow.alloc H3.out.wr.1 _)) _ 1 1 [.int .i64 (R.ids + 1), .int .i64 of_, .int .i64 p.source, .int .i64 p.second, .int .i64 p.ty, .int .i64 p.secondTy, .int .i64 p.first, .int .i64 p.secondFirst, .slice none 0 0, .int .i64 0, .int .i64 0] (by rfl) rfl ?_ ?_ (by unfold maxLen; omega) (by omega) (Nat.zero_le _) ?_
    · exact cells_new _ [.int .i64 (R.ids + 1), .int .i64 of_, .int .i64 p.source, .int .i64 p.second, .int .i64 p.ty, .int .i64 p.secondTy, .int .i64 p.first, .int .i64 p.secondFirst, .slice none 0 0, .int .i64 0, .int .i64 0] _
    · intro u hu
      simp at hu
      rcases hu with rfl | rfl | rfl | rfl | rfl | rfl | rfl | rfl | rfl | rfl <;> rfl
    intro v' w3 hown' hgrow hob
    obtain ⟨a3, c3, rfl⟩ := rowA_shape hown'
    have hgr := Grew.of (ρ := ρ) (q := 3) (W := W0) H3.out.wr.2 (Below.drew ((Below.refl _ _).alloc (Nat.le_refl _) _)) hgrow hob (fun b hb => (hown'.lt b hb).2)
    have hc3 : Chg (fun x => (Value.slice ao R.wns.length cap).ownBlock = some x) W0 w3 := Chg.ofGrown (((World.grownBy_alloc _ _ _).trans (World.grownBy_drewX _ _)).trans hgrow)
    have z19 : w3.cell? ⟨rb, 19, none⟩ = some (.slice ao R.wns.length cap) := hc3.cell y19 hneM
    have zS : PlS rb w.heap.size (R.ids + 1) p w3 := PlS.chg HS.out hc3 hneM hneB
    have zf : ∀ o, w3.frozen? ⟨rb, o, none⟩ = false := fun o => (hc3.frozen (p := ⟨rb, o, none⟩) hs1 hneM).trans (yf o)
    have HM := H3.out.addW hgr (rNewW (R.ids + 1) of_ p) ⟨rfl, rfl⟩ Hfr.out hown' (by simp only; omega)
    have HA : Hid (RdAt (w3.setCell ⟨rb, 19, none⟩ (.slice a3 (R.wns.length + 1) c3)) (role (.slice a3 (R.wns.length + 1) c3) 3 ρ) rb { R with wns := R.wns ++ [rNewW (R.ids + 1) of_ p], ids := R.ids + 1 } sv (.slice a3 (R.wns.length + 1) c3) ∧ RMv W0 ρ (w3.setCell ⟨rb, 19, none⟩ (.slice a3 (R.wns.length + 1) c3)) (role (.slice a3 (R.wns.length + 1) c3) 3 ρ)) := HM
    refine hK.out _ _ zS (fun hHeld => ?_)
    clear hK K hown' hgrow hob hc3 y19 yf hgr HM
    try simp only [Act.put]
    try simp only [List.getElem_toArray]
    try simp only [List.getElem_cons_succ]
    try simp only [List.getElem_cons_zero]
    try simp only [List.setIfInBounds_toArray]
    try simp only [List.set_cons_succ]
    try simp only [List.set_cons_zero]
    refine tkH 14 ?_ hHeld ?_ ?_; rotate_left
    · ((intro W hSw; go_simp) <;> with_reducible rfl)
    refine tkH 15 ?_ hHeld ?_ ?_; rotate_left
    · ((intro W hSw; go_simp) <;> with_reducible rfl)
    refine wpAnyH_ready (rs := [16]) (by kernel_rfl) (by simp) ?_
    refine AllReadyH.cons rfl (fun K hK => ?_) AllReadyH.nil
    go_simp
    have zS' : PlS rb w.heap.size (R.ids + 1) p (w3.setCell ⟨rb, 19, none⟩ (.slice a3 (R.wns.length + 1) c3)) := PlS.set19 zS hbx _
    refine hK.out _ _ zS' (fun hHeld => ?_)
    clear hK K
    refine wpAnyH_done (by kernel_rfl) ?_ _
    refine NoPanic.normal ?_
    have z20 := zS'.1
    generalize hW4 : w3.setCell ⟨rb, 19, none⟩ (.slice a3 (R.wns.length + 1) c3) = W4 at *
    clear hW4 z19 zf zS zS'
    go_wp2
    go_ret2
    exact ⟨by rw [E.out]; rfl, _, _, _, by rw [E.out]; exact HA.out.1, HM0.out.trans HA.out.2⟩

end Go.Proofs.YtdjhhnolcafkiaaGreat

/- The document's mender: ahead. -/
namespace Go.Proofs.YtdjhhnolcafkiaaGreat
open Go.RowKit
namespace Pk
def rNews (n now : Int) (c : Nat) : List Rg := (List.range' 1 c).map fun j : Nat => ⟨n + (j : Int), now, 0⟩
def rAllG (s : Rs) (k window : Nat) (now : Int) : List Rg := if k ≤ window then s.gaps ++ rNews s.newest now (k - 1) else s.gaps
def rKeep (n : Int) (k window : Nat) (g : Rg) : Bool := decide (k ≤ window) && decide (n + (k : Int) - g.n < (window : Int))
def rAhead (R : Rm) (i : Nat) (s : Rs) (k window : Nat) (gv : Value) : Rm :=
  { R with s := { R.s with givenUp := R.s.givenUp + (((rAllG s k window R.s.now).length - ((rAllG s k window R.s.now).filter (rKeep s.newest k window)).length : Nat) : Int) }, sds := R.sds.set i ⟨s.src, s.newest + (k : Int), gv, (rAllG s k window R.s.now).filter (rKeep s.newest k window)⟩ }
theorem rNews_succ (n now : Int) (c : Nat) : rNews n now (c + 1) = rNews n now c ++ [⟨n + ((c + 1 : Nat) : Int), now, 0⟩] := by
  unfold rNews
  rw [List.range'_concat, List.map_append]
  simp only [List.map_cons, List.map_nil]
  rw [show 1 + 1 * c = c + 1 by omega]
theorem rNews_len (n now : Int) (c : Nat) : (rNews n now c).length = c := by unfold rNews; rw [List.length_map, List.length_range']
theorem filter_take {α : Type} (p : α → Bool) (l : List α) (q : Nat) (h : q < l.length) : (l.take (q + 1)).filter p = (l.take q).filter p ++ if p l[q] = true then [l[q]] else [] := by
  rw [List.take_succ_eq_append_getElem h, List.filter_append]
  by_cases e : p l[q] = true
  · rw [if_pos e, List.filter_cons_of_pos e, List.filter_nil]
  · rw [if_neg e, List.filter_cons_of_neg e, List.filter_nil]
/-- two cells -/
def Two (p q : Addr) (u v : Value) (W : World) : Prop := W.cell? p = some u ∧ W.cell? q = some v
theorem Two.chg {p q : Addr} {u v : Value} {W W' : World} {T : Nat → Prop} (h : Two p q u v W) (hc : Chg T W W') (h1 : ¬ T p.block) (h2 : ¬ T q.block) : Two p q u v W' := ⟨hc.cell h.1 h1, hc.cell h.2 h2⟩
theorem Two.below {p q : Addr} {u v : Value} {W W' : World} (h : Two p q u v W) (hb : Below W.heap.size W W') : Two p q u v W' := h.chg (T := fun _ => False) (Chg.ofBelow hb) (fun e => e) (fun e => e)
theorem flat_one {α : Type} (f : α → List Value) (l : List α) (x : α) : (l ++ [x]).flatMap f = l.flatMap f ++ f x := by rw [List.flatMap_append]; simp
theorem gap_info : (Tryz.prog.info? 126).map (fun i => (i.zero, i.size, i.bytes)) = some (some (.agg #[.int .i64 0, .int .i64 0, .int .i64 0]), 3, 24) := by kernel_rfl
def rMidG (R : Rm) (i : Nat) (s1 : Rs) (x : Int) : Rm := { R with s := { R.s with givenUp := x }, sds := R.sds.set i s1 }
theorem filter_le {α : Type} (p : α → Bool) (l : List α) (q : Nat) : ((l.take q).filter p).length ≤ q := Nat.le_trans (List.length_filter_le _ _) (by rw [List.length_take]; omega)
/-- a sender has a new list of gaps -/
theorem RMid.endS {w W : World} {ρ : Nat → Nat} {rb : Nat} {R R' : Rm} {sv wv v : Value} {T : Nat → Prop} {i : Nat} {s' : Rs} (h : RdAt w ρ rb R sv wv) (m : RMid w ρ rb R' sv wv T W) (hT : ∀ b, T b → ρ b = 10 + i ∨ ρ b = 1 ∨ ρ b = 2) (hi : i < R.sds.length) (e1 : R'.sds = R.sds.set i s') (e2 : R'.wns = R.wns) (hv : s'.gv = v) (hr : W.ownsRow 0 126 3 v s'.gaps.length (s'.gaps.flatMap cRg)) (hb : ∀ b, v.ownBlock = some b → w.heap.size ≤ b) :
    RdAt W (role v (10 + i) ρ) rb R' sv wv ∧ RMv w ρ W (role v (10 + i) ρ) := by
  have hi4 : i < 4 := by have := h.s4; omega
  have hk : ∀ b, b < w.heap.size → role v (10 + i) ρ b = ρ b := fun b hl => role_out (fun e => by have := hb b e; omega)
  have nT : ∀ q, q ≠ 10 + i → q ≠ 1 → q ≠ 2 → ∀ b, T b → ρ b ≠ q := fun q a1 a2 a3 b hb e => by
    rcases hT b hb with e' | e' | e' <;> omega
  refine ⟨h.make m.c (fun b hl _ => hk b hl) (fun b hl => ?_) m.k m.fz ⟨m.sr.1, fun b e => (hk b (h.sr.1.lt b e).2).trans (h.sr.2 b e)⟩ ⟨m.wr.1, fun b e => (hk b (h.wr.1.lt b e).2).trans (h.wr.2 b e)⟩ (fun j t ht => ?_) (fun j x hx => .inl ⟨j, x, by rw [← e2]; exact hx, rfl, rfl, rfl, nT _ (by omega) (by omega) (by omega)⟩) (nT 4 (by omega) (by omega) (by omega)) (by rw [e2]; exact h.ids) (by rw [e1, List.length_set]; exact h.s4) (by rw [e2]; exact h.w8), fun b hl e => (hk b hl).trans e, m.c.mono (fun b _ e => ?_)⟩
  · have := m.c.size
    rw [role_out (fun e => by have := (hr.lt b e).2; omega)]
    exact h.hi b (by omega)
  · rw [e1, List.getElem?_set] at ht
    by_cases e : i = j
    · subst e
      rw [if_pos rfl, if_pos hi, Option.some.injEq] at ht
      subst ht
      rw [hv]
      exact .inr ⟨hr, fun b e => role_in e⟩
    · rw [if_neg e] at ht
      exact .inl ⟨t, ht, rfl, rfl, nT _ (by omega) (by omega) (by omega)⟩
  · rcases hT b e with e' | e' | e' <;> rw [e'] <;> omega
end Pk
open Pk

set_option maxRecDepth 20000 in
set_option maxHeartbeats 4000000 in
theorem refAhead_any (ρ : Nat → Nat) (rb g cap : Nat) (R : Rm) (wv : Value) (i k cw : Nat) (s : Rs) (w : World) (h : RdAt w ρ rb R (.slice (some ⟨g, 0, none⟩) R.sds.length cap) wv) (hs : R.sds[i]? = some s) (hk : 1 ≤ k ∧ k ≤ 32767) (hcw : R.c.window = (cw : Int)) (hcl : 1 ≤ cw ∧ cw ≤ 200) (hn : 0 ≤ s.newest ∧ s.newest ≤ 10000000000000) (hgn : ∀ x ∈ s.gaps, 0 ≤ x.n ∧ x.n ≤ 10000000000000) (hgl : s.gaps.length ≤ 1000) (hgu : 0 ≤ R.s.givenUp ∧ R.s.givenUp ≤ 1000000000000000) :
    Calls Tryz.prog 95 #[.pointer (some ⟨rb, 0, none⟩), .pointer (some ⟨g, i * 3, none⟩), .int .i64 k] w fun e w' => e = .returned (.tuple #[]) ∧ ∃ ρ' gv, RdAt w' ρ' rb (rAhead R i s k cw gv) (.slice (some ⟨g, 0, none⟩) R.sds.length cap) wv ∧ RMv w ρ w' ρ' := by
  have H := Pk.hid h
  have hil : i < R.sds.length := (List.getElem?_eq_some_iff.1 hs).1
  have Hse : Hid (R.sds[i] = s) := (List.getElem?_eq_some_iff.1 hs).2
  obtain ⟨g', cap', hsl, x0, x1, x2, xf, xl, xr⟩ := h.sndAt hs
  simp only [Value.slice.injEq, Option.some.injEq, Addr.mk.injEq, true_and, and_true] at hsl
  obtain ⟨rfl, rfl⟩ := hsl
  have hga := h.ga i s hs
  have hi4 : i < 4 := by have := h.s4; omega
  have y1 : w.cell? ⟨rb, 1, none⟩ = some (.int .i64 R.c.window) := h.k 1 _ rfl
  have y7 : w.cell? ⟨rb, 7, none⟩ = some (.int .i64 R.s.now) := h.k 7 _ rfl
  rw [hcw] at y1
  have hrm := h.rm
  have hrl := h.lt
  have hgr : g ≠ rb := fun e => by rw [e, hrm] at xr; cases xr
  obtain ⟨ga, gc, hgv⟩ := rowA_shape hga.1
  have Hga : Hid (w.ownsRow 0 126 3 (.slice ga s.gaps.length gc) s.gaps.length (s.gaps.flatMap cRg) ∧ ∀ b, (Value.slice ga s.gaps.length gc).ownBlock = some b → ρ b = 10 + i) := by rw [← hgv]; exact hga
  rw [hgv] at x2
  have HCW := Pk.hid hcw
  have Hgn := Pk.hid hgn
  have Hrm := Pk.hid hrm
  have Hxr := Pk.hid xr
  obtain ⟨N, hN⟩ : ∃ N, s.newest = N := ⟨_, rfl⟩
  obtain ⟨NW, hNW⟩ : ∃ NW, R.s.now = NW := ⟨_, rfl⟩
  rw [hN] at x1 hn
  rw [hNW] at y7
  have HN := Pk.hid hN
  have HNW := Pk.hid hNW
  obtain ⟨X, hX⟩ : ∃ X, rAhead R i s k cw = X := ⟨_, rfl⟩
  have HX := Pk.hid hX
  rw [hX]
  obtain ⟨i0, hi, hz0, hz1, hz2⟩ := info_parts gap_info
  have Hi : Hid (Tryz.prog.info? 126 = some i0 ∧ i0.zero = some (.agg #[.int .i64 0, .int .i64 0, .int .i64 0]) ∧ i0.size = 3 ∧ i0.bytes = 24) := ⟨hi, hz0, hz1, hz2⟩
  clear h hs hga hgv hgn hX hN hNW hi hz0 hz1 hz2 x0 hrm xr hcw
  go_enter Tryz.func95, Tryz.ntmps95
  go_wp2
  go_loopw [6, 7] (fun v s7 wr => ∃ j : Nat, j < k ∧ s7 = .int .i64 ((j + 1 : Nat) : Int) ∧ (cw < k → j = 0) ∧ wr.ownsRow 0 126 3 v (s.gaps.length + j) ((s.gaps ++ rNews N NW j).flatMap cRg) ∧ (∀ b, v.ownBlock = some b → ρ b = 10 + i ∨ w.heap.size ≤ b) ∧ Chg (fun b => ρ b = 10 + i) w wr) (fun _ s7 _ => k - (intOf s7).toNat)
  case atStart => exact ⟨0, by omega, rfl, fun _ => rfl, by simpa [rNews] using Hga.out.1, fun b e => .inl (Hga.out.2 b e), Chg.refl _ _⟩
  case round =>
    obtain ⟨j, hj, rfl, hj0, hrow, hbl, hch⟩ := hrel
    obtain ⟨va, vc, rfl⟩ := rowA_shape hrow
    have Hrow := Pk.hid hrow
    have Hbl := Pk.hid hbl
    have Hch := Pk.hid hch
    have hnR : ¬ ρ rb = 10 + i := by rw [Hrm.out]; omega
    have hnG : ¬ ρ g = 10 + i := by rw [Hxr.out]; omega
    have z1 : wr.cell? ⟨rb, 1, none⟩ = some (.int .i64 cw) := hch.cell y1 hnR
    have z7 : wr.cell? ⟨rb, 7, none⟩ = some (.int .i64 NW) := hch.cell y7 hnR
    have u1 : wr.cell? ⟨g, i * 3 + 1, none⟩ = some (.int .i64 N) := hch.cell x1 hnG
    have hsz := hch.size
    have Hnn : Hid ((¬ ρ rb = 10 + i) ∧ ¬ ρ g = 10 + i) := ⟨hnR, hnG⟩
    clear hrow hbl hch hnR hnG
    by_cases hjk : j + 1 < k
    · have hjk' : ((j + 1 : Nat) : Int) < (k : Int) := by omega
      by_cases hkc : k ≤ cw
      · have hkc' : (k : Int) ≤ (cw : Int) := by omega
        have hw1 : IntKind.i64.wrap (N + ((j : Int) + 1)) = N + ((j : Int) + 1) := i64_id _ (by omega) (by omega)
        have HS : Hid (Two ⟨g, i * 3 + 1, none⟩ ⟨rb, 7, none⟩ (.int .i64 N) (.int .i64 NW) wr) := ⟨u1, z7⟩
        go_wp2
        refine wp_region_noPanic ?_
        refine wp_region_held_drew (S := Two ⟨g, i * 3 + 1, none⟩ ⟨rb, 7, none⟩ (.int .i64 N) (.int .i64 NW)) (by kernel_rfl) HS.out (fun hHeld => ?_)
        refine tkH 0 ?_ hHeld ?_ ?_; rotate_left
        · ((intro W hSw; obtain ⟨hS0, hS1⟩ := hSw; go_simp) <;> with_reducible rfl)
        refine tkH 1 ?_ hHeld ?_ ?_; rotate_left
        · ((intro W hSw; obtain ⟨hS0, hS1⟩ := hSw; go_simp) <;> with_reducible rfl)
        refine tkH 2 ?_ hHeld ?_ ?_; rotate_left
        · ((intro W hSw; obtain ⟨hS0, hS1⟩ := hSw; go_simp) <;> with_reducible rfl)
        refine tkH 3 ?_ hHeld ?_ ?_; rotate_left
        · ((intro W hSw; obtain ⟨hS0, hS1⟩ := hSw; go_simp) <;> with_reducible rfl)
        refine tkH 4 ?_ hHeld ?_ ?_; rotate_left
        · ((intro W hSw; obtain ⟨hS0, hS1⟩ := hSw; go_simp) <;> with_reducible rfl)
        refine tkH 5 ?_ hHeld ?_ ?_; rotate_left
        · ((intro W hSw; obtain ⟨hS0, hS1⟩ := hSw; go_simp) <;> with_reducible rfl)
        refine tkH 6 ?_ hHeld ?_ ?_; rotate_left
        · ((intro W hSw; obtain ⟨hS0, hS1⟩ := hSw; go_simp) <;> with_reducible rfl)
        refine tkH 7 ?_ hHeld ?_ ?_; rotate_left
        · ((intro W hSw; obtain ⟨hS0, hS1⟩ := hSw; go_simp) <;> with_reducible rfl)
        refine tkH 8 ?_ hHeld ?_ ?_; rotate_left
        · ((intro W hSw; obtain ⟨hS0, hS1⟩ := hSw; go_simp) <;> with_reducible rfl)
        refine tkH 9 ?_ hHeld ?_ ?_; rotate_left
        · ((intro W hSw; obtain ⟨hS0, hS1⟩ := hSw; go_simp) <;> with_reducible rfl)
        refine tkH 10 ?_ hHeld ?_ ?_; rotate_left
        · ((intro W hSw; obtain ⟨hS0, hS1⟩ := hSw; go_simp) <;> with_reducible rfl)
        refine tkH 11 ?_ hHeld ?_ ?_; rotate_left
        · ((intro W hSw; obtain ⟨hS0, hS1⟩ := hSw; go_simp) <;> with_reducible rfl)
        refine tkH 12 ?_ hHeld ?_ ?_; rotate_left
        · ((intro W hSw; obtain ⟨hS0, hS1⟩ := hSw; go_simp) <;> with_reducible rfl)
        refine wpAnyH_ready (rs := [13]) (by kernel_rfl) (by simp) ?_
        refine AllReadyH.cons rfl (fun K hK => ?_) AllReadyH.nil
        go_simp
        refine hK.out _ _ (Two.below hHeld ((Below.refl _ _).alloc (Nat.le_refl _) _)) (fun hHeld => ?_)
        clear hK K
        try simp only [Act.put]
        try simp only [List.getElem_toArray]
        try simp only [List.getElem_cons_succ]
        try simp only [List.getElem_cons_zero]
        try simp only [List.setIfInBounds_toArray]
        try simp only [List.set_cons_succ]
        try simp only [List.set_cons_zero]
        refine wpAnyH_ready (rs := [14]) (by kernel_rfl) (by simp) ?_
        refine AllReadyH.cons rfl (fun K hK => ?_) AllReadyH.nil
        rw [if_pos (by rfl)]
        refine wp_append_at (.tmp 28) (.tmp 41) 59 rfl 0 126 i0 _ 3 24 Tryz.underlying59 Hi.out.1 Hi.out.2.1 Hi.out.2.2.1 Hi.out.2.2.2 rfl (by decide) (.slice va (s.gaps.length + j) vc) (s.gaps.length + j) ((s.gaps ++ rNews N NW j).flatMap cRg) (by rfl) (World.ownsRow.drew (World.ownsRow.alloc Hrow.out _)) _ 1 1 [.int .i64 (N + ((j : Int) + 1)), .int .i64 NW, .int .i64 0] (by rfl) rfl ?_ ?_ (by unfold maxLen; omega) (by omega) (Nat.zero_le _) ?_
        · exact cells_new _ [.int .i64 (N + ((j : Int) + 1)), .int .i64 NW, .int .i64 0] _
        · intro u hu
          simp at hu
          rcases hu with rfl | rfl | rfl <;> rfl
        intro v' w3 hown' hgrow hob
        have hb6 : Below wr.heap.size wr ((wr.alloc (.cells ([.int .i64 (N + ((j : Int) + 1)), .int .i64 NW, .int .i64 0]).toArray 126)).drew) := Below.drew ((Below.refl _ _).alloc (Nat.le_refl _) _)
        have hc3 : Chg (fun x => (Value.slice va (s.gaps.length + j) vc).ownBlock = some x) wr w3 := (Chg.ofBelow hb6).trans (Chg.ofGrown hgrow) (fun _ _ e => e)
        have R1 : Hid (w3.ownsRow 0 126 3 v' (s.gaps.length + (j + 1)) ((s.gaps ++ rNews N NW (j + 1)).flatMap cRg)) := by
          rw [rNews_succ, ← List.append_assoc, flat_one]
          exact hown'
        have R2 : Hid (∀ b, v'.ownBlock = some b → ρ b = 10 + i ∨ w.heap.size ≤ b) := fun b e => by
          rcases hob with o | o
          · exact Hbl.out b (o ▸ e)
          · rw [o, Option.some.injEq] at e
            refine .inr ?_
            rw [← e]
            exact Nat.le_trans hsz hb6.size
        have R3 : Hid (Chg (fun b => ρ b = 10 + i) w w3) := Hch.out.trans hc3 (fun b hb e => by
          rcases Hbl.out b e with o | o
          · exact o
          · omega)
        have zS : Two ⟨g, i * 3 + 1, none⟩ ⟨rb, 7, none⟩ (.int .i64 N) (.int .i64 NW) w3 := ⟨R3.out.cell x1 Hnn.out.2, R3.out.cell y7 Hnn.out.1⟩
        obtain ⟨a3, c3, rfl⟩ := rowA_shape hown'
        refine hK.out _ _ zS (fun hHeld => ?_)
        clear hK K hown' hgrow hob hc3 hb6
        try simp only [Act.put]
        try simp only [List.getElem_toArray]
        try simp only [List.getElem_cons_succ]
        try simp only [List.getElem_cons_zero]
        try simp only [List.setIfInBounds_toArray]
        try simp only [List.set_cons_succ]
        try simp only [List.set_cons_zero]
        refine tkH 15 ?_ hHeld ?_ ?_; rotate_left
        · ((intro W hSw; obtain ⟨hS0, hS1⟩ := hSw; go_simp) <;> with_reducible rfl)
        refine wpAnyH_done (by kernel_rfl) ?_ _
        refine NoPanic.normal ?_
        clear zS hHeld u1 z1 z7
        go_wp2
        go_roundw
        case rel => exact ⟨j + 1, by omega, by go_num, fun e => by omega, R1.out, R2.out, R3.out⟩
        case measure => simp [intOf]; omega
      · have hkc' : decide ((k : Int) ≤ (cw : Int)) = false := decide_eq_false (by omega)
        have hj1 := hj0 (by omega)
        subst hj1
        have HA : Hid (s.gaps ++ rNews N NW 0 = rAllG s k cw R.s.now) := by
          show _ = _
          unfold rAllG
          rw [if_neg hkc]
          simp [rNews]
        have hAl : (s.gaps ++ rNews N NW 0).length = s.gaps.length + 0 := by rw [List.length_append, rNews_len]
        have hAb : ∀ x ∈ s.gaps ++ rNews N NW 0, 0 ≤ x.n ∧ x.n ≤ 10000000100000 := fun x hx => by
          rcases List.mem_append.1 hx with e | e
          · have := Hgn.out x e; omega
          · unfold rNews at e
            obtain ⟨r, hr, rfl⟩ := List.mem_map.1 e
            rw [List.mem_range'_1] at hr
            simp only
            omega
        generalize s.gaps ++ rNews N NW 0 = A at *
        rw [← hAl] at Hrow Hbl ⊢
        have hAsz : A.length ≤ 40000 := by omega
        have HAb := Pk.hid hAb
        have RM2 : Hid (RMid w ρ rb R (.slice (some ⟨g, 0, none⟩) R.sds.length cap) wv (fun b => ρ b = 10 + i ∨ ρ b = 1 ∨ ρ b = 2) wr) := (H.out.mid (fun b => ρ b = 10 + i ∨ ρ b = 1 ∨ ρ b = 2)).chg Hrm.out Hch.out (fun b e => by rw [e]; omega) (fun b _ e => .inl e)
        have hnw : IntKind.i64.wrap (N + (k : Int)) = N + (k : Int) := i64_id _ (by omega) (by omega)
        have uf : wr.frozen? ⟨g, i * 3 + 1, none⟩ = false := RM2.out.sr.1.frozenAt _
        have RM3 : Hid (RMid w ρ rb { R with sds := R.sds.set i ⟨s.src, N + (k : Int), s.gv, s.gaps⟩ } (.slice (some ⟨g, 0, none⟩) R.sds.length cap) wv (fun b => ρ b = 10 + i ∨ ρ b = 1 ∨ ρ b = 2) (wr.setCell ⟨g, i * 3 + 1, none⟩ (.int .i64 (N + (k : Int))))) := RM2.out.setS Hrm.out rfl (.inl (.inr (.inr Hxr.out))) hil 1 (by omega) _ _ (by rw [Hse.out]; rfl)
        have HbB : Hid (∀ b, (Value.slice va A.length vc).ownBlock = some b → b ≠ g ∧ b ≠ rb) := fun b e => by
          rcases Hbl.out b e with o | o
          · exact ⟨fun e' => by rw [e', Hxr.out] at o; omega, fun e' => by rw [e', Hrm.out] at o; omega⟩
          · exact ⟨fun e' => by omega, fun e' => by omega⟩
        have HR3 : Hid ((wr.setCell ⟨g, i * 3 + 1, none⟩ (.int .i64 (N + (k : Int)))).ownsRow 0 126 3 (.slice va A.length vc) A.length (A.flatMap cRg)) := rowA_chg ((Chg.refl (fun b => b = g) _).setCell ⟨g, i * 3 + 1, none⟩ (.inl rfl) _) Hrow.out (fun b hb e => (HbB.out b hb).1 e)
        have hB3 : w.heap.size ≤ (wr.setCell ⟨g, i * 3 + 1, none⟩ (.int .i64 (N + (k : Int)))).heap.size := by rw [World.size_setCell]; exact hsz
        clear hAl hAb Hrow Hbl Hch RM2
        go_wp2
        clear u1 z1 z7 uf
        generalize wr.setCell ⟨g, i * 3 + 1, none⟩ (.int .i64 (N + (k : Int))) = W3 at *
        obtain ⟨B, hB⟩ : ∃ B, W3.heap.size = B := ⟨_, rfl⟩
        have HB := Pk.hid hB
        rw [hB] at hB3
        have HhB : Hid (∀ b, B ≤ b → ρ b = 0) := fun b hb => H.out.hi b (by omega)
        clear hB
        go_loopw [8, 9] (fun v s9 wi => ∃ q : Nat, q ≤ A.length ∧ s9 = .int .i64 q ∧ wi.ownsRow B 126 3 v ((A.take q).filter (rKeep N k cw)).length (((A.take q).filter (rKeep N k cw)).flatMap cRg) ∧ RMid w ρ rb (rMidG R i ⟨s.src, N + (k : Int), s.gv, s.gaps⟩ (R.s.givenUp + ((q - ((A.take q).filter (rKeep N k cw)).length : Nat) : Int))) (.slice (some ⟨g, 0, none⟩) R.sds.length cap) wv (fun b => ρ b = 10 + i ∨ ρ b = 1 ∨ ρ b = 2) wi ∧ Chg (fun b => b = rb) W3 wi) (fun _ s9 _ => A.length - (intOf s9).toNat)
        case atStart => exact ⟨0, Nat.zero_le _, rfl, World.ownsRow_nil _ _ _ _, by
          rw [show R.s.givenUp + ((0 - ((A.take 0).filter (rKeep N k cw)).length : Nat) : Int) = R.s.givenUp by simp]
          exact RM3.out, Chg.refl _ _⟩
        case round =>
          obtain ⟨q, hq, rfl, hl, hm, hc⟩ := hrel
          obtain ⟨la, lc, rfl⟩ := rowA_shape hl
          have Hl := Pk.hid hl
          have hfl := filter_le (rKeep N k cw) A q
          obtain ⟨cu, hcu⟩ : ∃ cu : Int, R.s.givenUp + ((q - ((A.take q).filter (rKeep N k cw)).length : Nat) : Int) = cu := ⟨_, rfl⟩
          have HCU := Pk.hid hcu
          rw [hcu] at hm
          have Hm := Pk.hid hm
          have Hc := Pk.hid hc
          have hBi : B ≤ wr.heap.size := by rw [← HB.out]; exact hc.size
          have hcb : 0 ≤ cu ∧ cu ≤ 1000000000100000 := by omega
          have v17 : wr.cell? ⟨rb, 17, none⟩ = some (.int .i64 cu) := hm.k 17 _ rfl
          have vf : ∀ o, wr.frozen? ⟨rb, o, none⟩ = false := hm.fz
          have v1 : wr.cell? ⟨rb, 1, none⟩ = some (.int .i64 R.c.window) := hm.k 1 _ rfl
          rw [HCW.out] at v1
          have hil2 : i < (R.sds.set i ⟨s.src, N + (k : Int), s.gv, s.gaps⟩).length := by rw [List.length_set]; exact hil
          have rowC : ∀ o, o < 3 → wr.cell? ⟨g, i * 3 + o, none⟩ = (cRs ⟨s.src, N + (k : Int), s.gv, s.gaps⟩)[o]? := fun o ho => by
            have h1 := hm.sr.1
            simp only [rMidG, List.length_set] at h1
            rw [h1.cellAt (i * 3 + o) (by omega), flat_at cRs_len _ i o hil2 ho, List.getElem_set_self]
          have u1 : wr.cell? ⟨g, i * 3 + 1, none⟩ = some (.int .i64 (N + (k : Int))) := rowC 1 (by omega)
          have u2 : wr.cell? ⟨g, i * 3 + 2, none⟩ = some s.gv := rowC 2 (by omega)
          have gf : ∀ o, wr.frozen? ⟨g, o, none⟩ = false := fun o => by
            have h1 := hm.sr.1
            simp only [rMidG, List.length_set] at h1
            exact h1.frozenAt o
          have hcw1 : IntKind.i64.wrap (cu + 1) = cu + 1 := i64_id _ (by omega) (by omega)
          clear hl hm hc hcu rowC hil2
          by_cases hlt : q < A.length
          · have hlt' : (q : Int) < A.length := by omega
            obtain ⟨ag, rfl⟩ := rowA_some HR3.out (by omega)
            obtain ⟨a0, a1, a2⟩ := gap_at HR3.out rfl q hlt
            have hne := (HbB.out ag rfl).2
            have hag : ag < B := by rw [← HB.out]; exact (HR3.out.lt ag rfl).2
            have a0 := Hc.out.cell a0 hne
            have a1 := Hc.out.cell a1 hne
            have a2 := Hc.out.cell a2 hne
            obtain ⟨e, hAq⟩ : ∃ e, A[q] = e := ⟨_, rfl⟩
            have heb := HAb.out e (hAq ▸ List.getElem_mem hlt)
            rw [hAq] at a0 a1 a2
            obtain ⟨en, el, et⟩ := e
            simp only at a0 a1 a2 heb
            have HKE : Hid (rKeep N k cw ⟨en, el, et⟩ = false) := by
              show _ = _
              unfold rKeep
              rw [decide_eq_false (by omega)]
              rfl
            have Hf : Hid ((A.take (q + 1)).filter (rKeep N k cw) = (A.take q).filter (rKeep N k cw)) := by
              show _ = _
              rw [filter_take _ _ _ hlt, if_neg (by rw [hAq, HKE.out]; decide), List.append_nil]
            have HP : Hid (∀ m, RMid w ρ rb (rMidG R i ⟨s.src, N + (k : Int), s.gv, s.gaps⟩ (R.s.givenUp + ((q + 1 - ((A.take q).filter (rKeep N k cw)).length : Nat) : Int))) (.slice (some ⟨g, 0, none⟩) R.sds.length cap) wv (fun b => ρ b = 10 + i ∨ ρ b = 1 ∨ ρ b = 2) ((wr.drewN m).setCell ⟨rb, 17, none⟩ (.int .i64 (cu + 1)))) := fun m => by
              have h1 := (Hm.out.below Hrm.out (below_drewN (Below.refl _ _) m)).put (R' := rMidG R i ⟨s.src, N + (k : Int), s.gv, s.gaps⟩ (cu + 1)) Hrm.out (.inr (.inl Hrm.out)) 17 (.int .i64 (cu + 1)) rfl rfl rfl
              rw [show R.s.givenUp + ((q + 1 - ((A.take q).filter (rKeep N k cw)).length : Nat) : Int) = cu + 1 by rw [← HCU.out]; have := filter_le (rKeep N k cw) A q; omega]
              exact h1
            have HcN : Hid (∀ m, Chg (fun b => b = rb) W3 ((wr.drewN m).setCell ⟨rb, 17, none⟩ (.int .i64 (cu + 1)))) := fun m => (Hc.out.trans (Chg.ofBelow (T := fun _ => False) (below_drewN (Below.refl _ _) m)) (fun _ _ e => e.elim)).setCell ⟨rb, 17, none⟩ (.inl rfl) _
            have HlN : Hid (∀ m, ((wr.drewN m).setCell ⟨rb, 17, none⟩ (.int .i64 (cu + 1))).ownsRow B 126 3 (.slice la ((A.take q).filter (rKeep N k cw)).length lc) ((A.take q).filter (rKeep N k cw)).length (((A.take q).filter (rKeep N k cw)).flatMap cRg)) := fun m => by
              have c9 : Chg (fun b => b = rb) wr ((wr.drewN m).setCell ⟨rb, 17, none⟩ (.int .i64 (cu + 1))) := ((Chg.refl (fun b => b = rb) wr).trans (Chg.ofBelow (T := fun _ => False) (below_drewN (Below.refl _ _) m)) (fun _ _ e => e.elim)).setCell ⟨rb, 17, none⟩ (.inl rfl) _
              exact rowA_chg c9 Hl.out (fun b hb e => by have := (Hl.out.lt b hb).1; omega)
            go_wp2
            go_big_quiet (fail)
            go_wp2
            go_roundw
            case rel => exact ⟨q + 1, by omega, by go_num, by rw [Hf.out]; exact HlN.out _, by rw [Hf.out]; exact HP.out _, HcN.out _⟩
            case measure => simp [intOf]; omega
          · have hlt' : ¬ (q : Int) < A.length := by omega
            have hqe : q = A.length := by omega
            have Hfin : Hid (∀ lv : Value, lv = .slice la ((A.take q).filter (rKeep N k cw)).length lc → RdAt (wr.setCell ⟨g, i * 3 + 2, none⟩ lv) (role lv (10 + i) ρ) rb (X lv) (.slice (some ⟨g, 0, none⟩) R.sds.length cap) wv ∧ RMv w ρ (wr.setCell ⟨g, i * 3 + 2, none⟩ lv) (role lv (10 + i) ρ)) := fun lv hlv => by
              have hset := Hm.out.setS (i := i) (g := g) (cap := cap) Hrm.out (by simp only [rMidG, List.length_set]) (.inl (.inr (.inr Hxr.out))) (by simp only [rMidG, List.length_set]; exact hil) 2 (by omega) lv ⟨s.src, N + (k : Int), lv, A.filter (rKeep N k cw)⟩ (by simp only [rMidG, List.getElem_set_self]; rfl)
              have hr : (wr.setCell ⟨g, i * 3 + 2, none⟩ lv).ownsRow 0 126 3 lv (A.filter (rKeep N k cw)).length ((A.filter (rKeep N k cw)).flatMap cRg) := by
                have h1 := rowA_chg ((Chg.refl (fun b => b = g) _).setCell ⟨g, i * 3 + 2, none⟩ (.inl rfl) lv) Hl.out (fun b hb e => by have := (Hl.out.lt b hb).1; omega)
                rw [List.take_of_length_le (by omega)] at h1 hlv
                rw [hlv] at h1 ⊢
                exact rowN_mono h1 (Nat.zero_le _)
              have hE : ({ rMidG R i ⟨s.src, N + (k : Int), s.gv, s.gaps⟩ cu with sds := (rMidG R i ⟨s.src, N + (k : Int), s.gv, s.gaps⟩ cu).sds.set i ⟨s.src, N + (k : Int), lv, A.filter (rKeep N k cw)⟩ } : Rm) = X lv := by
                rw [← HX.out, ← HCU.out, List.take_of_length_le (by omega), hqe]
                unfold rMidG rAhead
                simp only [List.set_set]
                rw [← HA.out, HN.out]
              rw [hE] at hset
              refine RMid.endS (s' := ⟨s.src, N + (k : Int), lv, A.filter (rKeep N k cw)⟩) H.out hset (fun b e => e) hil (by rw [← hE]; simp only [rMidG, List.set_set]) (by rw [← hE]; rfl) rfl hr (fun b e => ?_)
              have := (Hl.out.lt b (hlv ▸ e)).1
              omega
            clear v17 vf v1 u1 hqe
            go_wp2
            refine bodyPost_end (v := .tuple #[]) (by simp [results, Tryz.results95, go_sem]) rfl ⟨rfl, _, ⟨_, (Hfin.out _ rfl).1⟩, (Hfin.out _ rfl).2⟩
    · have hjk' : decide (((j + 1 : Nat) : Int) < (k : Int)) = false := decide_eq_false (by omega)
      have hkc : k ≤ cw := by
        rcases Nat.lt_or_ge cw k with e | e
        · have := hj0 e; omega
        · exact e
      have hkc' : (k : Int) ≤ (cw : Int) := by omega
      have HA : Hid (s.gaps ++ rNews N NW j = rAllG s k cw R.s.now) := by
        show _ = _
        unfold rAllG
        rw [if_pos hkc, HN.out, HNW.out, show k - 1 = j by omega]
      have hAl : (s.gaps ++ rNews N NW j).length = s.gaps.length + j := by rw [List.length_append, rNews_len]
      have hAb : ∀ x ∈ s.gaps ++ rNews N NW j, 0 ≤ x.n ∧ x.n ≤ 10000000100000 := fun x hx => by
        rcases List.mem_append.1 hx with e | e
        · have := Hgn.out x e; omega
        · unfold rNews at e
          obtain ⟨r, hr, rfl⟩ := List.mem_map.1 e
          rw [List.mem_range'_1] at hr
          simp only
          omega
      generalize s.gaps ++ rNews N NW j = A at *
      rw [← hAl] at Hrow Hbl ⊢
      have hAsz : A.length ≤ 40000 := by omega
      have HAb := Pk.hid hAb
      have RM2 : Hid (RMid w ρ rb R (.slice (some ⟨g, 0, none⟩) R.sds.length cap) wv (fun b => ρ b = 10 + i ∨ ρ b = 1 ∨ ρ b = 2) wr) := (H.out.mid (fun b => ρ b = 10 + i ∨ ρ b = 1 ∨ ρ b = 2)).chg Hrm.out Hch.out (fun b e => by rw [e]; omega) (fun b _ e => .inl e)
      have hnw : IntKind.i64.wrap (N + (k : Int)) = N + (k : Int) := i64_id _ (by omega) (by omega)
      have uf : wr.frozen? ⟨g, i * 3 + 1, none⟩ = false := RM2.out.sr.1.frozenAt _
      have RM3 : Hid (RMid w ρ rb { R with sds := R.sds.set i ⟨s.src, N + (k : Int), s.gv, s.gaps⟩ } (.slice (some ⟨g, 0, none⟩) R.sds.length cap) wv (fun b => ρ b = 10 + i ∨ ρ b = 1 ∨ ρ b = 2) (wr.setCell ⟨g, i * 3 + 1, none⟩ (.int .i64 (N + (k : Int))))) := RM2.out.setS Hrm.out rfl (.inl (.inr (.inr Hxr.out))) hil 1 (by omega) _ _ (by rw [Hse.out]; rfl)
      have HbB : Hid (∀ b, (Value.slice va A.length vc).ownBlock = some b → b ≠ g ∧ b ≠ rb) := fun b e => by
        rcases Hbl.out b e with o | o
        · exact ⟨fun e' => by rw [e', Hxr.out] at o; omega, fun e' => by rw [e', Hrm.out] at o; omega⟩
        · exact ⟨fun e' => by omega, fun e' => by omega⟩
      have HR3 : Hid ((wr.setCell ⟨g, i * 3 + 1, none⟩ (.int .i64 (N + (k : Int)))).ownsRow 0 126 3 (.slice va A.length vc) A.length (A.flatMap cRg)) := rowA_chg ((Chg.refl (fun b => b = g) _).setCell ⟨g, i * 3 + 1, none⟩ (.inl rfl) _) Hrow.out (fun b hb e => (HbB.out b hb).1 e)
      have hB3 : w.heap.size ≤ (wr.setCell ⟨g, i * 3 + 1, none⟩ (.int .i64 (N + (k : Int)))).heap.size := by rw [World.size_setCell]; exact hsz
      clear hAl hAb Hrow Hbl Hch RM2
      go_wp2
      clear u1 z1 z7 uf
      generalize wr.setCell ⟨g, i * 3 + 1, none⟩ (.int .i64 (N + (k : Int))) = W3 at *
      obtain ⟨B, hB⟩ : ∃ B, W3.heap.size = B := ⟨_, rfl⟩
      have HB := Pk.hid hB
      rw [hB] at hB3
      have HhB : Hid (∀ b, B ≤ b → ρ b = 0) := fun b hb => H.out.hi b (by omega)
      clear hB
      go_loopw [8, 9] (fun v s9 wi => ∃ q : Nat, q ≤ A.length ∧ s9 = .int .i64 q ∧ wi.ownsRow B 126 3 v ((A.take q).filter (rKeep N k cw)).length (((A.take q).filter (rKeep N k cw)).flatMap cRg) ∧ RMid w ρ rb (rMidG R i ⟨s.src, N + (k : Int), s.gv, s.gaps⟩ (R.s.givenUp + ((q - ((A.take q).filter (rKeep N k cw)).length : Nat) : Int))) (.slice (some ⟨g, 0, none⟩) R.sds.length cap) wv (fun b => ρ b = 10 + i ∨ ρ b = 1 ∨ ρ b = 2) wi ∧ Chg (fun b => b = rb) W3 wi) (fun _ s9 _ => A.length - (intOf s9).toNat)
      case atStart => exact ⟨0, Nat.zero_le _, rfl, World.ownsRow_nil _ _ _ _, by
        rw [show R.s.givenUp + ((0 - ((A.take 0).filter (rKeep N k cw)).length : Nat) : Int) = R.s.givenUp by simp]
        exact RM3.out, Chg.refl _ _⟩
      case round =>
        obtain ⟨q, hq, rfl, hl, hm, hc⟩ := hrel
        obtain ⟨la, lc, rfl⟩ := rowA_shape hl
        have Hl := Pk.hid hl
        have hfl := filter_le (rKeep N k cw) A q
        obtain ⟨cu, hcu⟩ : ∃ cu : Int, R.s.givenUp + ((q - ((A.take q).filter (rKeep N k cw)).length : Nat) : Int) = cu := ⟨_, rfl⟩
        have HCU := Pk.hid hcu
        rw [hcu] at hm
        have Hm := Pk.hid hm
        have Hc := Pk.hid hc
        have hBi : B ≤ wr.heap.size := by rw [← HB.out]; exact hc.size
        have hcb : 0 ≤ cu ∧ cu ≤ 1000000000100000 := by omega
        have v17 : wr.cell? ⟨rb, 17, none⟩ = some (.int .i64 cu) := hm.k 17 _ rfl
        have vf : ∀ o, wr.frozen? ⟨rb, o, none⟩ = false := hm.fz
        have v1 : wr.cell? ⟨rb, 1, none⟩ = some (.int .i64 R.c.window) := hm.k 1 _ rfl
        rw [HCW.out] at v1
        have hil2 : i < (R.sds.set i ⟨s.src, N + (k : Int), s.gv, s.gaps⟩).length := by rw [List.length_set]; exact hil
        have rowC : ∀ o, o < 3 → wr.cell? ⟨g, i * 3 + o, none⟩ = (cRs ⟨s.src, N + (k : Int), s.gv, s.gaps⟩)[o]? := fun o ho => by
          have h1 := hm.sr.1
          simp only [rMidG, List.length_set] at h1
          rw [h1.cellAt (i * 3 + o) (by omega), flat_at cRs_len _ i o hil2 ho, List.getElem_set_self]
        have u1 : wr.cell? ⟨g, i * 3 + 1, none⟩ = some (.int .i64 (N + (k : Int))) := rowC 1 (by omega)
        have u2 : wr.cell? ⟨g, i * 3 + 2, none⟩ = some s.gv := rowC 2 (by omega)
        have gf : ∀ o, wr.frozen? ⟨g, o, none⟩ = false := fun o => by
          have h1 := hm.sr.1
          simp only [rMidG, List.length_set] at h1
          exact h1.frozenAt o
        have hcw1 : IntKind.i64.wrap (cu + 1) = cu + 1 := i64_id _ (by omega) (by omega)
        clear hl hm hc hcu rowC hil2
        by_cases hlt : q < A.length
        · have hlt' : (q : Int) < A.length := by omega
          obtain ⟨ag, rfl⟩ := rowA_some HR3.out (by omega)
          obtain ⟨a0, a1, a2⟩ := gap_at HR3.out rfl q hlt
          have hne := (HbB.out ag rfl).2
          have hag : ag < B := by rw [← HB.out]; exact (HR3.out.lt ag rfl).2
          have a0 := Hc.out.cell a0 hne
          have a1 := Hc.out.cell a1 hne
          have a2 := Hc.out.cell a2 hne
          obtain ⟨e, hAq⟩ : ∃ e, A[q] = e := ⟨_, rfl⟩
          have heb := HAb.out e (hAq ▸ List.getElem_mem hlt)
          rw [hAq] at a0 a1 a2
          obtain ⟨en, el, et⟩ := e
          simp only at a0 a1 a2 heb
          have hw2 : IntKind.i64.wrap (N + (k : Int) - en) = N + (k : Int) - en := i64_id _ (by omega) (by omega)
          by_cases hkp : N + (k : Int) - en < (cw : Int)
          · have HKE : Hid (rKeep N k cw ⟨en, el, et⟩ = true) := by
              show _ = _
              unfold rKeep
              rw [decide_eq_true hkc, decide_eq_true hkp]
              rfl
            have Hf : Hid ((A.take (q + 1)).filter (rKeep N k cw) = (A.take q).filter (rKeep N k cw) ++ [⟨en, el, et⟩]) := by
              show _ = _
              rw [filter_take _ _ _ hlt, if_pos (by rw [hAq]; exact HKE.out), hAq]
            have e0 : ∀ m, (wr.drewN m).cell? ⟨ag, q * 3, none⟩ = some (.int .i64 en) := fun m => by rw [World.cell?_drewN]; exact a0
            go_wp2
            go_big_quiet (fail)
            go_wp2_with (at_builtin; (
              refine wpList_append_at rfl (.tmp 83) (.tmp 88) 59 rfl B 126 i0 _ 3 24 Tryz.underlying59 Hi.out rfl (by decide) _ ((A.take q).filter (rKeep N k cw)).length (((A.take q).filter (rKeep N k cw)).flatMap cRg) rfl (World.ownsRow.alloc (rowA_chg (Chg.ofBelow (T := fun _ => False) (below_drewN (Below.refl _ _) _)) Hl.out (fun _ _ e => e)) _) _ 1 1 [.int .i64 en, .int .i64 el, .int .i64 et] rfl rfl (cells_new _ [.int .i64 en, .int .i64 el, .int .i64 et] _) ?_ (by unfold maxLen; have := filter_le (rKeep N k cw) A q; omega) (by have := filter_le (rKeep N k cw) A q; omega) (by simp; omega) ?_
              · intro u hu; simp at hu; rcases hu with rfl | rfl | rfl <;> rfl
              intro v' w9 hown' hgrow hob
              refine stop_here ?_))
            refine hid_in ?_
            have hb9 : Below wr.heap.size wr (((wr.drewN nq).alloc (.cells #[.int .i64 en, .int .i64 el, .int .i64 et] 126))) := (below_drewN (Below.refl _ _) _).alloc (Nat.le_refl _) _
            have c9 : Chg (fun x => (Value.slice la ((A.take q).filter (rKeep N k cw)).length lc).ownBlock = some x) wr w9 := (Chg.ofBelow hb9).trans (Chg.ofGrown hgrow) (fun _ _ e => e)
            have hlB : ∀ b, (Value.slice la ((A.take q).filter (rKeep N k cw)).length lc).ownBlock = some b → B ≤ b := fun b e => (Hl.out.lt b e).1
            have L9 : Hid (w9.ownsRow B 126 3 v' ((A.take (q + 1)).filter (rKeep N k cw)).length (((A.take (q + 1)).filter (rKeep N k cw)).flatMap cRg)) := by
              rw [Hf.out, flat_one, List.length_append]
              exact hown'
            have M9 : Hid (RMid w ρ rb (rMidG R i ⟨s.src, N + (k : Int), s.gv, s.gaps⟩ (R.s.givenUp + ((q + 1 - ((A.take (q + 1)).filter (rKeep N k cw)).length : Nat) : Int))) (.slice (some ⟨g, 0, none⟩) R.sds.length cap) wv (fun b => ρ b = 10 + i ∨ ρ b = 1 ∨ ρ b = 2) w9) := by
              rw [show R.s.givenUp + ((q + 1 - ((A.take (q + 1)).filter (rKeep N k cw)).length : Nat) : Int) = cu by rw [Hf.out, List.length_append, ← HCU.out]; simp only [List.length_cons, List.length_nil]; omega]
              exact Hm.out.chg Hrm.out c9 (fun b e => by have h1 := hlB b e; have h2 := HhB.out b h1; omega) (fun b hb e => by have h1 := hlB b e; omega)
            have C9 : Hid (Chg (fun b => b = rb) W3 w9) := Hc.out.trans c9 (fun b hb e => by have h1 := hlB b e; have h2 := HB.out; omega)
            obtain ⟨a9, c9', rfl⟩ := rowA_shape L9.out
            clear hown' hgrow hob hb9 c9 hlB a0 a1 a2 e0
            go_wp2
            go_roundw
            case rel => exact ⟨q + 1, by omega, by go_num, L9.out, M9.out, C9.out⟩
            case measure => simp [intOf]; omega
          · have HKE : Hid (rKeep N k cw ⟨en, el, et⟩ = false) := by
              show _ = _
              unfold rKeep
              rw [decide_eq_false hkp, Bool.and_false]
            have hkd : decide (N + (k : Int) - en < (cw : Int)) = false := decide_eq_false hkp
            clear hkp
            have Hf : Hid ((A.take (q + 1)).filter (rKeep N k cw) = (A.take q).filter (rKeep N k cw)) := by
              show _ = _
              rw [filter_take _ _ _ hlt, if_neg (by rw [hAq, HKE.out]; decide), List.append_nil]
            have HP : Hid (∀ m, RMid w ρ rb (rMidG R i ⟨s.src, N + (k : Int), s.gv, s.gaps⟩ (R.s.givenUp + ((q + 1 - ((A.take q).filter (rKeep N k cw)).length : Nat) : Int))) (.slice (some ⟨g, 0, none⟩) R.sds.length cap) wv (fun b => ρ b = 10 + i ∨ ρ b = 1 ∨ ρ b = 2) ((wr.drewN m).setCell ⟨rb, 17, none⟩ (.int .i64 (cu + 1)))) := fun m => by
              have h1 := (Hm.out.below Hrm.out (below_drewN (Below.refl _ _) m)).put (R' := rMidG R i ⟨s.src, N + (k : Int), s.gv, s.gaps⟩ (cu + 1)) Hrm.out (.inr (.inl Hrm.out)) 17 (.int .i64 (cu + 1)) rfl rfl rfl
              rw [show R.s.givenUp + ((q + 1 - ((A.take q).filter (rKeep N k cw)).length : Nat) : Int) = cu + 1 by rw [← HCU.out]; have := filter_le (rKeep N k cw) A q; omega]
              exact h1
            have HcN : Hid (∀ m, Chg (fun b => b = rb) W3 ((wr.drewN m).setCell ⟨rb, 17, none⟩ (.int .i64 (cu + 1)))) := fun m => (Hc.out.trans (Chg.ofBelow (T := fun _ => False) (below_drewN (Below.refl _ _) m)) (fun _ _ e => e.elim)).setCell ⟨rb, 17, none⟩ (.inl rfl) _
            have HlN : Hid (∀ m, ((wr.drewN m).setCell ⟨rb, 17, none⟩ (.int .i64 (cu + 1))).ownsRow B 126 3 (.slice la ((A.take q).filter (rKeep N k cw)).length lc) ((A.take q).filter (rKeep N k cw)).length (((A.take q).filter (rKeep N k cw)).flatMap cRg)) := fun m => by
              have c9 : Chg (fun b => b = rb) wr ((wr.drewN m).setCell ⟨rb, 17, none⟩ (.int .i64 (cu + 1))) := ((Chg.refl (fun b => b = rb) wr).trans (Chg.ofBelow (T := fun _ => False) (below_drewN (Below.refl _ _) m)) (fun _ _ e => e.elim)).setCell ⟨rb, 17, none⟩ (.inl rfl) _
              exact rowA_chg c9 Hl.out (fun b hb e => by have := (Hl.out.lt b hb).1; omega)
            go_wp2
            go_big_quiet (fail)
            go_wp2
            go_roundw
            case rel => exact ⟨q + 1, by omega, by go_num, by rw [Hf.out]; exact HlN.out _, by rw [Hf.out]; exact HP.out _, HcN.out _⟩
            case measure => simp [intOf]; omega
        · have hlt' : ¬ (q : Int) < A.length := by omega
          have hqe : q = A.length := by omega
          have Hfin : Hid (∀ lv : Value, lv = .slice la ((A.take q).filter (rKeep N k cw)).length lc → RdAt (wr.setCell ⟨g, i * 3 + 2, none⟩ lv) (role lv (10 + i) ρ) rb (X lv) (.slice (some ⟨g, 0, none⟩) R.sds.length cap) wv ∧ RMv w ρ (wr.setCell ⟨g, i * 3 + 2, none⟩ lv) (role lv (10 + i) ρ)) := fun lv hlv => by
            have hset := Hm.out.setS (i := i) (g := g) (cap := cap) Hrm.out (by simp only [rMidG, List.length_set]) (.inl (.inr (.inr Hxr.out))) (by simp only [rMidG, List.length_set]; exact hil) 2 (by omega) lv ⟨s.src, N + (k : Int), lv, A.filter (rKeep N k cw)⟩ (by simp only [rMidG, List.getElem_set_self]; rfl)
            have hr : (wr.setCell ⟨g, i * 3 + 2, none⟩ lv).ownsRow 0 126 3 lv (A.filter (rKeep N k cw)).length ((A.filter (rKeep N k cw)).flatMap cRg) := by
              have h1 := rowA_chg ((Chg.refl (fun b => b = g) _).setCell ⟨g, i * 3 + 2, none⟩ (.inl rfl) lv) Hl.out (fun b hb e => by have := (Hl.out.lt b hb).1; omega)
              rw [List.take_of_length_le (by omega)] at h1 hlv
              rw [hlv] at h1 ⊢
              exact rowN_mono h1 (Nat.zero_le _)
            have hE : ({ rMidG R i ⟨s.src, N + (k : Int), s.gv, s.gaps⟩ cu with sds := (rMidG R i ⟨s.src, N + (k : Int), s.gv, s.gaps⟩ cu).sds.set i ⟨s.src, N + (k : Int), lv, A.filter (rKeep N k cw)⟩ } : Rm) = X lv := by
              rw [← HX.out, ← HCU.out, List.take_of_length_le (by omega), hqe]
              unfold rMidG rAhead
              simp only [List.set_set]
              rw [← HA.out, HN.out]
            rw [hE] at hset
            refine RMid.endS (s' := ⟨s.src, N + (k : Int), lv, A.filter (rKeep N k cw)⟩) H.out hset (fun b e => e) hil (by rw [← hE]; simp only [rMidG, List.set_set]) (by rw [← hE]; rfl) rfl hr (fun b e => ?_)
            have := (Hl.out.lt b (hlv ▸ e)).1
            omega
          clear v17 vf v1 u1 hqe
          go_wp2
          refine bodyPost_end (v := .tuple #[]) (by simp [results, Tryz.results95, go_sem]) rfl ⟨rfl, _, ⟨_, (Hfin.out _ rfl).1⟩, (Hfin.out _ rfl).2⟩

end Go.Proofs.YtdjhhnolcafkiaaGreat
