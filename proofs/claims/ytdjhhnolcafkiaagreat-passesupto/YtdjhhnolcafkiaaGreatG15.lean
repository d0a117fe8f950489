/- The document's mender: Packet. -/
import Derived.Test.YtdjhhnolcafkiaaGreatG01
import Derived.Test.YtdjhhnolcafkiaaGreatG10
import Derived.Test.YtdjhhnolcafkiaaGreatG08
import Derived.Test.YtdjhhnolcafkiaaGreatG12
import Derived.Test.YtdjhhnolcafkiaaGreatG14
import Derived.Deep.QuietTactic
import Derived.BigQuiet
namespace Go.Proofs.YtdjhhnolcafkiaaGreat
open Go.RowKit
namespace Pk
/-- amid a packet's passing on: the wants up to q have it -/
def PLoop (w : World) (ρ : Nat → Nat) (rb s0 : Nat) (sv wv cv : Value) (p : PP) (R4 : Rm) (q : Nat) (tv : Value) (W : World) : Prop :=
  ∃ R' out ρ', RPass p cv R4 q R' out ∧ RdAt W ρ' rb R' sv wv ∧ RMv w ρ W ρ' ∧ W.ownsRow w.heap.size 9 1 tv out.length (out.map Value.string) ∧ (∀ b, tv.ownBlock = some b → ρ' b = 0) ∧ PxAt s0 W p cv ∧ IsC (fun b => ρ' b = 4) W cv p.cl ∧ ρ' s0 = 0 ∧ tv.ownBlock ≠ some s0
/-- amid a packet's passing on -/
def PRel (w0 : World) (ρ0 : Nat → Nat) (rb : Nat) (sv wv : Value) (R : Rm) (out : List ByteArray) (tv : Value) (W : World) : Prop :=
  ∃ ρ', RdAt W ρ' rb R sv wv ∧ RMv w0 ρ0 W ρ' ∧ W.ownsRow w0.heap.size 9 1 tv out.length (out.map Value.string) ∧ ∀ b, tv.ownBlock = some b → ρ' b = 0
end Pk
open Pk

set_option maxRecDepth 20000 in
set_option maxHeartbeats 8000000 in
theorem refPacket_any (ρ : Nat → Nat) (rb : Nat) (R : Rm) (sv wv : Value) (t : ByteArray) (cw : Nat) (w : World) (h : RdAt w ρ rb R sv wv) (hcw : R.c.window = (cw : Int)) (hcl : 1 ≤ cw ∧ cw ≤ 200) (ht : t.size ≤ maxLen)
    (hs : ∀ s ∈ R.sds, (-1 ≤ s.newest ∧ s.newest ≤ 10000000000000) ∧ (∀ x ∈ s.gaps, 0 ≤ x.n ∧ x.n ≤ 10000000000000) ∧ s.gaps.length ≤ 1000) (hc : ∀ c ∈ [R.s.passed, R.s.late, R.s.doubled, R.s.wrong, R.s.unknown, R.s.givenUp], 0 ≤ c ∧ c ≤ 1000000000000000) (hw : ∀ x ∈ R.wns, x.all.length ≤ 2000000 ∧ (0 ≤ x.pl.first ∧ x.pl.first ≤ 65535) ∧ -65535 ≤ x.shift ∧ x.shift ≤ 65535) :
    Calls Tryz.prog 47 #[.pointer (some ⟨rb, 0, none⟩), .string t] w fun e w' => ∃ tv R' out er, e = .returned (.tuple #[tv, .int .i64 er]) ∧ RPk R t cw R' out er ∧ PRel w ρ rb sv wv R' out tv w' := by
  have H := Pk.hid h
  have Hs := Pk.hid hs
  have Hc := Pk.hid hc
  have Hw := Pk.hid hw
  have hrb := h.lt
  have Hrm : Hid (ρ rb = 1) := h.rm
  have HCW := Pk.hid hcw
  have Ht := Pk.hid ht
  obtain ⟨PK, hPK⟩ : ∃ PK, RPk R t cw = PK := ⟨_, rfl⟩
  have HPK := Pk.hid hPK
  rw [hPK]
  clear h hs hc hw hcw ht hPK
  go_enter Tryz.func47, Tryz.ntmps47
  go_wp2_with fail
  refine (refParse_any t _ Ht.out).mono ?_
  rintro e w1 ⟨hb1, hr1⟩
  have HB1 := Pk.hid hb1
  have hsz1 := hb1.size
  cases hrd : readP t with
  | none =>
    rw [hrd] at hr1
    have hr2 : e = .returned wrongV := hr1
    subst hr2
    have E : Hid (PK { R with s := { R.s with wrong := R.s.wrong + 1 } } [] 1) := by rw [← HPK.out]; unfold RPk; rw [hrd]; exact ⟨rfl, rfl, rfl⟩
    have hcc := Hc.out R.s.wrong (by simp)
    have HA : Hid (∀ bk, RdAt (w1.alloc bk) ρ rb R sv wv ∧ Below w.heap.size w (w1.alloc bk)) := fun bk => ⟨H.out.below (HB1.out.alloc hsz1 bk), HB1.out.alloc hsz1 bk⟩
    have y12 : ∀ bk, (w1.alloc bk).cell? ⟨rb, 12, none⟩ = some (.int .i64 R.s.wrong) := fun bk => (HA.out bk).1.k 12 _ rfl
    have yf : ∀ bk o, (w1.alloc bk).frozen? ⟨rb, o, none⟩ = false := fun bk => (HA.out bk).1.fz
    have hww : IntKind.i64.wrap (R.s.wrong + 1) = R.s.wrong + 1 := i64_id _ (by omega) (by omega)
    have HE : Hid (∀ bk, PRel w ρ rb sv wv { R with s := { R.s with wrong := R.s.wrong + 1 } } [] (.slice none 0 0) ((w1.alloc bk).setCell ⟨rb, 12, none⟩ (.int .i64 (R.s.wrong + 1)))) := fun bk => ⟨ρ, (HA.out bk).1.put 12 _ rfl rfl rfl, (RMv.below (HA.out bk).2).trans ⟨fun _ _ e => e, (Chg.refl _ _).setCell ⟨rb, 12, none⟩ (.inl (by show ρ rb ≠ 0; rw [Hrm.out]; decide)) _⟩, World.ownsRow_nil _ _ _ _, fun b e => by cases e⟩
    unfold wrongV
    clear hr1 hrd hb1
    go_wp2
    go_ret2
    exact ⟨_, _, _, _, rfl, E.out, HE.out _⟩
  | some p =>
    rw [hrd] at hr1
    obtain ⟨cv, rfl, hown⟩ := hr1
    obtain ⟨ca, cc, rfl⟩ := hown.shape
    have HCV := Pk.hid hown
    have Hrd := Pk.hid hrd
    have Hcs : Hid (∀ b, (Value.slice ca p.cl.length cc).ownBlock = some b → b < w1.heap.size) := fun b hb => (hown.lt b hb).2
    have P2 : Hid (∀ tt, PxAt w1.heap.size (w1.alloc (.cells #[.bool p.mrk, .int .i64 p.ty, .int .i64 p.nu, .int .i64 p.ti, .int .i64 p.so, .slice ca p.cl.length cc, .bool p.ex, .int .i64 p.pr, .string p.en, .string p.py, .int .i64 p.pa] tt)) p (.slice ca p.cl.length cc)) := fun tt => PxAt.new w1 p (.slice ca p.cl.length cc) tt
    have HA : Hid (∀ bk, RdAt (w1.alloc bk) ρ rb R sv wv ∧ Below w.heap.size w (w1.alloc bk)) := fun bk => ⟨H.out.below (HB1.out.alloc hsz1 bk), HB1.out.alloc hsz1 bk⟩
    unfold okV
    clear hrd hown hb1
    go_wp2_with fail
    refine (refSender_any ρ rb R sv wv p.so _ (HA.out _).1).mono ?_
    rintro e w2 ⟨rfl, hw2⟩
    rw [hw2]
    clear hw2
    have HP2 := P2.out 41
    have HA2 := HA.out (.cells #[.bool p.mrk, .int .i64 p.ty, .int .i64 p.nu, .int .i64 p.ti, .int .i64 p.so, .slice ca p.cl.length cc, .bool p.ex, .int .i64 p.pr, .string p.en, .string p.py, .int .i64 p.pa] 41)
    have HP := Pk.hid HP2
    have HR2 : Hid (RdAt (w1.alloc (.cells #[.bool p.mrk, .int .i64 p.ty, .int .i64 p.nu, .int .i64 p.ti, .int .i64 p.so, .slice ca p.cl.length cc, .bool p.ex, .int .i64 p.pr, .string p.en, .string p.py, .int .i64 p.pa] 41)) ρ rb R sv wv) := HA2.1
    have HB2 : Hid (Below w.heap.size w (w1.alloc (.cells #[.bool p.mrk, .int .i64 p.ty, .int .i64 p.nu, .int .i64 p.ti, .int .i64 p.so, .slice ca p.cl.length cc, .bool p.ex, .int .i64 p.pr, .string p.en, .string p.py, .int .i64 p.pa] 41))) := HA2.2
    have HC2 : Hid (OwnInts (w1.alloc (.cells #[.bool p.mrk, .int .i64 p.ty, .int .i64 p.nu, .int .i64 p.ti, .int .i64 p.so, .slice ca p.cl.length cc, .bool p.ex, .int .i64 p.pr, .string p.en, .string p.py, .int .i64 p.pa] 41)) w.heap.size (.slice ca p.cl.length cc) p.cl) := HCV.out.alloc _
    clear HP2 HA2 P2 HA HCV HB1
    have hs0 : w.heap.size ≤ w1.heap.size := hsz1
    generalize w1.alloc (.cells #[.bool p.mrk, .int .i64 p.ty, .int .i64 p.nu, .int .i64 p.ti, .int .i64 p.so, .slice ca p.cl.length cc, .bool p.ex, .int .i64 p.pr, .string p.en, .string p.py, .int .i64 p.pa] 41) = W2 at *
    generalize w1.heap.size = s0 at *
    cases hsp : rsPos R p.so with
    | none =>
      have E : Hid (PK { R with s := { R.s with unknown := R.s.unknown + 1 } } [] 4) := by rw [← HPK.out]; unfold RPk; rw [Hrd.out]; dsimp only; rw [hsp]; exact ⟨rfl, rfl, rfl⟩
      have hcc := Hc.out R.s.unknown (by simp)
      have y13 : W2.cell? ⟨rb, 13, none⟩ = some (.int .i64 R.s.unknown) := HR2.out.k 13 _ rfl
      have yf := HR2.out.fz
      have hww : IntKind.i64.wrap (R.s.unknown + 1) = R.s.unknown + 1 := i64_id _ (by omega) (by omega)
      have HE : Hid (PRel w ρ rb sv wv { R with s := { R.s with unknown := R.s.unknown + 1 } } [] (.slice none 0 0) (W2.setCell ⟨rb, 13, none⟩ (.int .i64 (R.s.unknown + 1)))) := ⟨ρ, HR2.out.put 13 _ rfl rfl rfl, (RMv.below HB2.out).trans ⟨fun _ _ e => e, (Chg.refl _ _).setCell ⟨rb, 13, none⟩ (.inl (by show ρ rb ≠ 0; rw [Hrm.out]; decide)) _⟩, World.ownsRow_nil _ _ _ _, fun b e => by cases e⟩
      clear hsp
      unfold optI
      go_wp2
      go_ret2
      exact ⟨_, _, _, _, rfl, E.out, HE.out⟩
    | some i =>
      have Hsp := Pk.hid hsp
      obtain ⟨hil, -, -⟩ := List.findIdx?_eq_some_iff_getElem.1 hsp
      obtain ⟨s, hse⟩ : ∃ s, R.sds[i] = s := ⟨_, rfl⟩
      have Hsi : Hid (R.sds[i]? = some s) := by show _ = _; rw [List.getElem?_eq_getElem hil, hse]
      obtain ⟨sg, scap, rfl, -, -, -, -, -, -⟩ := HR2.out.sndAt Hsi.out
      have hsm := Hs.out s (List.mem_of_getElem? Hsi.out)
      have Hsm := Pk.hid hsm
      have hf := read_facts t p Hrd.out
      have q2 : W2.cell? ⟨s0, 2, none⟩ = some (.int .i64 p.nu) := HP.out.k 2 _ rfl
      have hi0 : ¬ (i : Int) < 0 := by omega
      clear hsp hse hsm
      unfold optI
      go_wp2_with fail
      refine (refComes_any ρ rb sg scap R wv i cw p.nu s _ HR2.out Hsi.out hf.1 HCW.out hcl Hsm.out.1 Hsm.out.2.1 Hsm.out.2.2 (Hc.out _ (by simp)) (Hc.out _ (by simp)) (Hc.out _ (by simp))).mono ?_
      rintro e w3 ⟨gv, rfl, ρ1, hR3, hM3⟩
      have hz0 : ρ s0 = 0 := H.out.hi s0 hs0
      have HP3 : Hid (PxAt s0 w3 p (.slice ca p.cl.length cc)) := HP.out.chg hM3.2 (fun e => e hz0)
      have Hz1 : Hid (ρ1 s0 = 0) := hM3.1 s0 HP.out.lt hz0
      have HC3 : Hid (OwnInts w3 w.heap.size (.slice ca p.cl.length cc) p.cl) := rowA_chg hM3.2 HC2.out (fun b hb e => e (H.out.hi b (HC2.out.lt b hb).1))
      have HM3 : Hid (RMv w ρ w3 ρ1) := (RMv.below HB2.out).trans hM3
      have HZc : Hid (∀ b, (Value.slice ca p.cl.length cc).ownBlock = some b → ρ1 b = 0 ∧ b < w3.heap.size) := fun b hb => ⟨hM3.1 b (HC2.out.lt b hb).2 (H.out.hi b (HC2.out.lt b hb).1), (HC3.out.lt b hb).2⟩
      have HPb : Hid (∀ R' out, (if (rComes R i s p.nu cw gv).2 = false then R' = (rComes R i s p.nu cw gv).1 ∧ out = [] ∧ (0 : Int) = 0 else ∃ cv, RPass p cv { (rComes R i s p.nu cw gv).1 with s := { (rComes R i s p.nu cw gv).1.s with passed := (rComes R i s p.nu cw gv).1.s.passed + 1 } } R.wns.length R' out ∧ (0 : Int) = 0) → PK R' out 0) := fun R' out h => by
        rw [← HPK.out]
        unfold RPk
        rw [Hrd.out]
        dsimp only
        rw [Hsp.out]
        dsimp only
        rw [Hsi.out]
        exact ⟨gv, h⟩
      have HR3 := Pk.hid hR3
      clear hR3 hM3 HP HC2 HR2 q2
      obtain ⟨CC, hCC⟩ : ∃ CC, rComes R i s p.nu cw gv = CC := ⟨_, rfl⟩
      rw [hCC] at HPb HR3 ⊢
      have HCC := Pk.hid hCC
      clear hCC
      obtain ⟨R3, b3⟩ := CC
      simp only at HPb HR3
      cases b3 with
      | false =>
        have E : Hid (PK R3 [] 0) := HPb.out _ _ (by rw [if_pos rfl]; exact ⟨rfl, rfl, trivial⟩)
        have HE : Hid (PRel w ρ rb (.slice (some ⟨sg, 0, none⟩) R.sds.length scap) wv R3 [] (.slice none 0 0) w3) := ⟨ρ1, HR3.out, HM3.out, World.ownsRow_nil _ _ _ _, fun b e => by cases e⟩
        go_wp2
        go_ret2
        exact ⟨_, _, _, _, rfl, E.out, HE.out⟩
      | true =>
        obtain ⟨k1, k2, k3, k4⟩ := rComes_keeps R i s p.nu cw gv
        rw [HCC.out] at k1 k2 k3 k4
        simp only at k1 k2 k3 k4
        have hcp := Hc.out R.s.passed (by simp)
        rw [← k4] at hcp
        have E0 : Hid (∀ R' out, RPass p (.slice ca p.cl.length cc) { R3 with s := { R3.s with passed := R3.s.passed + 1 } } R.wns.length R' out → PK R' out 0) := fun R' out h => HPb.out _ _ (by rw [if_neg (by decide)]; exact ⟨_, h, trivial⟩)
        have v9 : w3.cell? ⟨rb, 9, none⟩ = some (.int .i64 R3.s.passed) := HR3.out.k 9 _ rfl
        have vf := HR3.out.fz
        have hw9 : IntKind.i64.wrap (R3.s.passed + 1) = R3.s.passed + 1 := i64_id _ (by omega) (by omega)
        have HL0 : Hid (PLoop w ρ rb s0 (.slice (some ⟨sg, 0, none⟩) R.sds.length scap) wv (.slice ca p.cl.length cc) p { R3 with s := { R3.s with passed := R3.s.passed + 1 } } 0 (.slice none 0 0) (w3.setCell ⟨rb, 9, none⟩ (.int .i64 (R3.s.passed + 1)))) := by
          have c9 : Chg (fun b => b = rb) w3 (w3.setCell ⟨rb, 9, none⟩ (.int .i64 (R3.s.passed + 1))) := (Chg.refl (fun b => b = rb) _).setCell ⟨rb, 9, none⟩ (.inl rfl) _
          have hsz : (w3.setCell ⟨rb, 9, none⟩ (.int .i64 (R3.s.passed + 1))).heap.size = w3.heap.size := World.size_setCell _ _ _
          have r4 := (HR3.out.put (R' := { R3 with s := { R3.s with passed := R3.s.passed + 1 } }) 9 (.int .i64 (R3.s.passed + 1)) rfl rfl rfl).give4 (cv := .slice ca p.cl.length cc) (fun b hb => ⟨(HZc.out b hb).1, by rw [hsz]; exact (HZc.out b hb).2⟩)
          have hcr : ∀ b, (Value.slice ca p.cl.length cc).ownBlock = some b → b ≠ rb := fun b hb e => by have := (HC3.out.lt b hb).1; omega
          have hC4 : OwnInts (w3.setCell ⟨rb, 9, none⟩ (.int .i64 (R3.s.passed + 1))) w.heap.size (.slice ca p.cl.length cc) p.cl := rowA_chg c9 HC3.out (fun b hb e => hcr b hb e)
          refine ⟨_, [], _, RPass.zero, r4, ⟨fun b hb e => ?_, (HM3.out.2.trans c9 (fun b _ e => by rw [e, Hrm.out]; decide))⟩, World.ownsRow_nil _ _ _ _, (fun b e => by cases e), HP3.out.chg c9 (fun e => by omega), ⟨ca, cc, rfl, fun j hj => ?_⟩, ?_, (fun e => by cases e)⟩
          · rw [role_out (fun e' => by have := (HC3.out.lt b e').1; omega)]
            exact HM3.out.1 b hb e
          · obtain ⟨g0, rfl⟩ := rowA_some hC4 (by omega)
            have h1 := hC4.cellAt j (by omega)
            rw [List.getElem?_map, List.getElem?_eq_getElem hj] at h1
            refine ⟨g0, 0, rfl, role_in rfl, ?_⟩
            rw [Nat.zero_add, h1, List.getD_eq_getElem?_getD, List.getElem?_eq_getElem hj]
            rfl
          · rw [role_out (fun e => by have := Hcs.out s0 e; omega)]
            exact Hz1.out
        have hwl : R3.wns.length = R.wns.length := by rw [k2]
        have Hk2 := Pk.hid k2
        clear HPb HR3 HP3 HC3 HM3 HZc k1 k3 k4 k2
        go_wp2
        clear v9 vf
        generalize w3.setCell ⟨rb, 9, none⟩ (.int .i64 (R3.s.passed + 1)) = W4 at *
        obtain ⟨R4, hR4⟩ : ∃ R4, ({ R3 with s := { R3.s with passed := R3.s.passed + 1 } } : Rm) = R4 := ⟨_, rfl⟩
        have Hwn : Hid (R4.wns = R.wns) := by show _ = _; rw [← hR4]; exact Hk2.out
        rw [hR4] at HL0 E0
        clear hR4 hwl
        go_loopw [10, 11] (fun s10 s11 wr => ∃ q : Nat, q ≤ R.wns.length ∧ s11 = .int .i64 q ∧ PLoop w ρ rb s0 (.slice (some ⟨sg, 0, none⟩) R.sds.length scap) wv (.slice ca p.cl.length cc) p R4 q s10 wr) (fun _ s11 _ => R.wns.length - (intOf s11).toNat)
        case atStart => exact ⟨0, Nat.zero_le _, rfl, HL0.out⟩
        case round =>
          obtain ⟨q, hq, rfl, hL⟩ := hrel
          obtain ⟨R', out, ρ', l1, l2, l3, l4, l5, l6, l7, l8, l9⟩ := hL
          obtain ⟨va, vc, rfl⟩ := rowA_shape l4
          have L1 := Pk.hid l1
          have L2 := Pk.hid l2
          have L3 := Pk.hid l3
          have L4 := Pk.hid l4
          have L5 := Pk.hid l5
          have L6 := Pk.hid l6
          have L7 := Pk.hid l7
          have L8 := Pk.hid l8
          have L9 := Pk.hid l9
          have hwl : R'.wns.length = R.wns.length := by rw [l1.keeps.2.2.2.2.1, Hwn.out]
          obtain ⟨wa, wc, hwv⟩ := rowA_shape l2.wr.1
          rw [hwl] at hwv
          subst hwv
          have y19 : wr.cell? ⟨rb, 19, none⟩ = some (.slice wa R.wns.length wc) := l2.k 19 _ rfl
          have hw8 : R.wns.length ≤ 8 := by rw [← hwl]; exact l2.w8
          clear l1 l2 l3 l4 l5 l6 l7 l8 l9 HL0
          by_cases hqw : q < R.wns.length
          · have hqw' : (q : Int) < R.wns.length := by omega
            obtain ⟨x, hx⟩ : ∃ x, R'.wns[q]? = some x := ⟨_, List.getElem?_eq_getElem (by rw [hwl]; exact hqw)⟩
            have Hwl := Pk.hid hwl
            have Hx := Pk.hid hx
            have hxR : R.wns[q]? = some x := by rw [← Hwn.out, ← L1.out.rest q (Nat.le_refl _)]; exact hx
            have hxb := Hw.out x (List.mem_of_getElem? hxR)
            obtain ⟨g, cap', hsl, xs, xf, xl, xr⟩ := L2.out.wntAt hx
            rw [hwl] at hsl
            simp only [Value.slice.injEq, true_and] at hsl
            obtain ⟨rfl, rfl⟩ := hsl
            have HWs := Pk.hid xs
            have Hxf := Pk.hid xf
            have Hxr := Pk.hid xr
            have c1 : wr.cell? ⟨g, q * 11 + 1, none⟩ = some (.int .i64 x.of_) := xs 1 _ rfl
            have q4 : wr.cell? ⟨s0, 4, none⟩ = some (.int .i64 p.so) := L6.out.k 4 _ rfl
            clear hx hxR xs xf xr hwl
            have Hd : Hid (∀ m, RdAt (wr.drewN m) ρ' rb R' (.slice (some ⟨sg, 0, none⟩) R.sds.length scap) (.slice (some ⟨g, 0, none⟩) R.wns.length wc) ∧ RMv w ρ (wr.drewN m) ρ' ∧ (wr.drewN m).ownsRow w.heap.size 9 1 (.slice va out.length vc) out.length (out.map Value.string) ∧ (∀ b, (Value.slice va out.length vc).ownBlock = some b → ρ' b = 0) ∧ PxAt s0 (wr.drewN m) p (.slice ca p.cl.length cc) ∧ IsC (fun b => ρ' b = 4) (wr.drewN m) (.slice ca p.cl.length cc) p.cl ∧ ρ' s0 = 0 ∧ (Value.slice va out.length vc).ownBlock ≠ some s0) := fun m => by
              have hb : Below wr.heap.size wr (wr.drewN m) := below_drewN (Below.refl _ _) m
              exact ⟨L2.out.below hb, L3.out.trans (RMv.below hb), rowA_chg (Chg.ofBelow (T := fun _ => False) hb) L4.out (fun _ _ e => e), L5.out, L6.out.below hb, L7.out.chg (T := fun _ => False) (Chg.ofBelow hb) (fun _ _ e => e), L8.out, L9.out⟩
            by_cases hof : x.of_ = p.so
            · have hofb : (x.of_ != p.so) = false := by simp [hof]
              have Hof := Pk.hid hof
              clear hof
              obtain ⟨aa, ac, hav⟩ : ∃ a c, x.av = .slice a x.all.length c := rowA_shape (L2.out.al q x Hx.out).1.1
              obtain ⟨al, hal⟩ : ∃ al, x.all.length = al := ⟨_, rfl⟩
              have c8 : wr.cell? ⟨g, q * 11 + 8, none⟩ = some (.slice aa al ac) := by
                have h1 := HWs.out 8 _ rfl
                rw [hav, hal] at h1
                exact h1
              have hqR : q < R'.wns.length := (List.getElem?_eq_some_iff.1 Hx.out).1
              have hxa := hxb.1
              have hxf := hxb.2.1
              have hxs := hxb.2.2
              rw [hal] at hav hxa
              have Hal := Pk.hid hal
              have Hav := Pk.hid hav
              have HavR : Hid (∀ b, (Value.slice aa al ac).ownBlock = some b → ρ' b = 1000 + x.id.toNat) := fun b hb => (L2.out.al q x Hx.out).1.2 b (by rw [Hav.out]; exact hb)
              have Hrm' : Hid (ρ' rb = 1) := L2.out.rm
              have HL2' : Hid (RdAt wr ρ' rb R' (.slice (some ⟨sg, 0, none⟩) R.sds.length scap) (.slice (some ⟨g, 0, none⟩) R'.wns.length wc)) := by rw [Hwl.out]; exact L2.out
              have HavT : Hid (∀ b, (Value.slice aa al ac).ownBlock = some b → (ρ' b ≠ 1 ∧ ρ' b ≠ 2 ∧ ρ' b ≠ 3) ∧ (b < wr.heap.size → ρ' b = 1000 + x.id.toNat) ∧ b ≠ s0 ∧ (Value.slice va out.length vc).ownBlock ≠ some b) := fun b hb => by
                have h1 := HavR.out b hb
                have h2 := L8.out
                exact ⟨by omega, fun _ => h1, fun e => by rw [e] at h1; omega, fun e => by have := L5.out b e; omega⟩
              have HP0 : Hid (∀ m, PMd w wr ρ' rb s0 g wc q R' (.slice (some ⟨sg, 0, none⟩) R.sds.length scap) (.slice ca p.cl.length cc) (.slice va out.length vc) x x.shift p out (wr.drewN m)) := fun m => (PMd.start HL2'.out Hx.out L6.out L4.out).below Hrm'.out (below_drewN (Below.refl _ _) m)
              have HA0 : Hid (∀ m, (wr.drewN m).ownsRow 0 152 12 (.slice aa al ac) al (x.all.flatMap cRe)) := fun m => by
                have h1 := (L2.out.al q x Hx.out).1.1
                rw [Hav.out, Hal.out] at h1
                exact rowA_chg (T := fun _ => False) (Chg.ofBelow (below_drewN (Below.refl _ _) m)) h1 (fun _ _ e => e)
              obtain ⟨iS, hiS, hS0, hS1, hS2⟩ := info_parts infoT
              have HiS : Hid (Tryz.prog.info? 9 = some iS ∧ iS.zero = _ ∧ iS.size = 1 ∧ iS.bytes = 16) := ⟨hiS, hS0, hS1, hS2⟩
              obtain ⟨i0, hi0, hz0, hz1, hz2⟩ := info_parts sent_info
              have Hi : Hid (Tryz.prog.info? 152 = some i0 ∧ i0.zero = _ ∧ i0.size = 12 ∧ i0.bytes = 128) := ⟨hi0, hz0, hz1, hz2⟩
              have Hs0t : Hid ((Value.slice va out.length vc).ownBlock ≠ some s0) := L9.out
              clear hal hav hxb hiS hS0 hS1 hS2 hi0 hz0 hz1 hz2
              by_cases hz : al = 0
              · have hzb : ((al : Int) == 0) = true := by simp [hz]
                obtain ⟨sh, hsh⟩ : ∃ sh, x.pl.first - p.nu = sh := ⟨_, rfl⟩
                have Hsh : Hid (rShift x p.nu = sh) := by show _ = _; unfold rShift; rw [if_pos (by rw [Hal.out]; exact hz)]; exact hsh
                have hsw : IntKind.i64.wrap (x.pl.first - p.nu) = sh := by rw [i64_id _ (by omega) (by omega)]; exact hsh
                have hshb : -65535 ≤ sh ∧ sh ≤ 65535 := by omega
                clear hz hsh
                go_wp2
                go_big_quiet (fail)
                have P0 := HP0.out nq
                have A0 := HA0.out nq
                have c8' : (wr.drewN nq).cell? ⟨g, q * 11 + 8, none⟩ = some (.slice aa al ac) := by rw [World.cell?_drewN]; exact c8
                have y19' : (wr.drewN nq).cell? ⟨rb, 19, none⟩ = some (.slice (some ⟨g, 0, none⟩) R.wns.length wc) := by rw [World.cell?_drewN]; exact y19
                clear c8 y19 c1 q4 HWs Hd HP0 HA0
                generalize wr.drewN nq = W0 at *
                have HM0 := Pk.hid P0
                have HA1 := Pk.hid A0
                clear P0 A0
                go_wp2
                have HS0 : Two ⟨g, q * 11 + 6, none⟩ ⟨s0, 2, none⟩ (.int .i64 x.pl.first) (.int .i64 p.nu) W0 := ⟨(HM0.out.wc hqR).1 6 _ rfl, HM0.out.p.k 2 _ rfl⟩
                have k9 : W0.cell? ⟨g, q * 11 + 9, none⟩ = some (.int .i64 x.shift) := (HM0.out.wc hqR).1 9 _ rfl
                have kf := (HM0.out.wc hqR).2.1
                have hg0 : g ≠ s0 := fun e => by have h1 := Hxr.out; have h2 := L8.out; rw [e] at h1; omega
                have hw9 : W0.drew.cell? ⟨g, q * 11 + 9, none⟩ = some (.int .i64 x.shift) := by rw [World.cell?_drew]; exact k9
                refine wp_region_noPanic ?_
                refine wp_region_held_drew (S := Two ⟨g, q * 11 + 6, none⟩ ⟨s0, 2, none⟩ (.int .i64 x.pl.first) (.int .i64 p.nu)) (by kernel_rfl) HS0 (fun hHeld => ?_)
                refine tkH 0 ?_ hHeld ?_ ?_; rotate_left
                · ((intro W hSw; obtain ⟨hS0, hS1⟩ := hSw; go_simp) <;> with_reducible rfl)
                refine tkH 1 ?_ hHeld ?_ ?_; rotate_left
                · ((intro W hSw; obtain ⟨hS0, hS1⟩ := hSw; go_simp) <;> with_reducible rfl)
                refine tkH 2 ?_ hHeld ?_ ?_; rotate_left
                · ((intro W hSw; obtain ⟨hS0, hS1⟩ := hSw; go_simp) <;> with_reducible rfl)
                refine tkH 3 ?_ hHeld ?_ ?_; rotate_left
                · ((intro W hSw; obtain ⟨hS0, hS1⟩ := hSw; go_simp) <;> with_reducible rfl)
                refine tkH 4 ?_ hHeld ?_ ?_; rotate_left
                · ((intro W hSw; obtain ⟨hS0, hS1⟩ := hSw; go_simp) <;> with_reducible rfl)
                refine tkH 5 ?_ hHeld ?_ ?_; rotate_left
                · ((intro W hSw; obtain ⟨hS0, hS1⟩ := hSw; go_simp) <;> with_reducible rfl)
                refine tkH 6 ?_ hHeld ?_ ?_; rotate_left
                · ((intro W hSw; obtain ⟨hS0, hS1⟩ := hSw; go_simp) <;> with_reducible rfl)
                refine tkH 7 ?_ hHeld ?_ ?_; rotate_left
                · ((intro W hSw; obtain ⟨hS0, hS1⟩ := hSw; go_simp) <;> with_reducible rfl)
                refine tkH 8 ?_ hHeld ?_ ?_; rotate_left
                · ((intro W hSw; obtain ⟨hS0, hS1⟩ := hSw; go_simp) <;> with_reducible rfl)
                refine tkH 9 ?_ hHeld ?_ ?_; rotate_left
                · ((intro W hSw; obtain ⟨hS0, hS1⟩ := hSw; go_simp) <;> with_reducible rfl)
                refine tkH 10 ?_ hHeld ?_ ?_; rotate_left
                · ((intro W hSw; obtain ⟨hS0, hS1⟩ := hSw; go_simp) <;> with_reducible rfl)
                refine wpAnyH_ready (rs := [11]) (by kernel_rfl) (by simp) ?_
                refine AllReadyH.cons rfl (fun K hK => ?_) AllReadyH.nil
                go_simp
                have HM5 : Hid (PMd w wr ρ' rb s0 g wc q R' (.slice (some ⟨sg, 0, none⟩) R.sds.length scap) (.slice ca p.cl.length cc) (.slice va out.length vc) x sh p out ((W0.setCell ⟨g, q * 11 + 9, none⟩ (.int .i64 sh)).drew)) := (HM0.out.shift Hrm'.out Hxr.out hqR L8.out L5.out sh).below Hrm'.out (Below.refl _ _).drew
                have HA5 : Hid (((W0.setCell ⟨g, q * 11 + 9, none⟩ (.int .i64 sh)).drew).ownsRow 0 152 12 (.slice aa al ac) al (x.all.flatMap cRe)) := World.ownsRow.drew (rowA_chg ((Chg.refl (fun b => b = g) _).setCell ⟨g, q * 11 + 9, none⟩ (.inl rfl) _) HA1.out (fun b hb e => by have h1 := HavR.out b hb; have h2 := Hxr.out; rw [e] at h1; omega))
                refine hK.out _ _ ⟨(World.cell?_setCell_other _ ⟨g, q * 11 + 9, none⟩ ⟨g, q * 11 + 6, none⟩ _ (by simp)).trans hHeld.1, (World.cell?_setCell_other _ ⟨g, q * 11 + 9, none⟩ ⟨s0, 2, none⟩ _ (by simp)).trans hHeld.2⟩ (fun hHeld => ?_)
                clear hK K
                refine wpAnyH_done (by kernel_rfl) ?_ _
                refine NoPanic.normal ?_
                clear k9 kf hw9 HS0 HM0 HA1 hHeld c8' y19' hsw
                generalize (W0.setCell ⟨g, q * 11 + 9, none⟩ (.int .i64 sh)).drew = W5 at *
                have v0 : W5.cell? ⟨s0, 0, none⟩ = some (.bool p.mrk) := HM5.out.p.k 0 _ rfl
                have v1 : W5.cell? ⟨s0, 1, none⟩ = some (.int .i64 p.ty) := HM5.out.p.k 1 _ rfl
                have v2 : W5.cell? ⟨s0, 2, none⟩ = some (.int .i64 p.nu) := HM5.out.p.k 2 _ rfl
                have v3 : W5.cell? ⟨s0, 3, none⟩ = some (.int .i64 p.ti) := HM5.out.p.k 3 _ rfl
                have v4 : W5.cell? ⟨s0, 4, none⟩ = some (.int .i64 p.so) := HM5.out.p.k 4 _ rfl
                have v5 : W5.cell? ⟨s0, 5, none⟩ = some (.slice ca p.cl.length cc) := HM5.out.p.k 5 _ rfl
                have v6 : W5.cell? ⟨s0, 6, none⟩ = some (.bool p.ex) := HM5.out.p.k 6 _ rfl
                have v7 : W5.cell? ⟨s0, 7, none⟩ = some (.int .i64 p.pr) := HM5.out.p.k 7 _ rfl
                have v8 : W5.cell? ⟨s0, 8, none⟩ = some (.string p.en) := HM5.out.p.k 8 _ rfl
                have v9 : W5.cell? ⟨s0, 9, none⟩ = some (.string p.py) := HM5.out.p.k 9 _ rfl
                have v10 : W5.cell? ⟨s0, 10, none⟩ = some (.int .i64 p.pa) := HM5.out.p.k 10 _ rfl
                have hs1 : wr.heap.size ≤ W5.heap.size := HM5.out.m.c.size
                have hs0l : s0 < W5.heap.size := HM5.out.p.lt
                have hgl5 : g < W5.heap.size := (HM5.out.wc hqR).2.2
                go_wp2
                clear v0 v1 v2 v3 v4 v5 v6 v7 v8 v9 v10
                have HY6 : Hid (PxAt W5.heap.size (W5.alloc (.cells #[.bool p.mrk, .int .i64 p.ty, .int .i64 p.nu, .int .i64 p.ti, .int .i64 p.so, .slice ca p.cl.length cc, .bool p.ex, .int .i64 p.pr, .string p.en, .string p.py, .int .i64 p.pa] 41)) p (.slice ca p.cl.length cc)) := PxAt.new W5 p (.slice ca p.cl.length cc) _
                have HM6 : Hid (PMd w wr ρ' rb s0 g wc q R' (.slice (some ⟨sg, 0, none⟩) R.sds.length scap) (.slice ca p.cl.length cc) (.slice va out.length vc) x sh p out (W5.alloc (.cells #[.bool p.mrk, .int .i64 p.ty, .int .i64 p.nu, .int .i64 p.ti, .int .i64 p.so, .slice ca p.cl.length cc, .bool p.ex, .int .i64 p.pr, .string p.en, .string p.py, .int .i64 p.pa] 41))) := HM5.out.below Hrm'.out ((Below.refl _ _).alloc (Nat.le_refl _) _)
                have Hz1 : Hid (ρ' W5.heap.size = 0) := L2.out.hi _ hs1
                have HA6 : Hid ((W5.alloc (.cells #[.bool p.mrk, .int .i64 p.ty, .int .i64 p.nu, .int .i64 p.ti, .int .i64 p.so, .slice ca p.cl.length cc, .bool p.ex, .int .i64 p.pr, .string p.en, .string p.py, .int .i64 p.pa] 41)).ownsRow 0 152 12 (.slice aa al ac) al (x.all.flatMap cRe)) := World.ownsRow.alloc HA5.out _
                have Hvl : Hid (∀ b, (Value.slice va out.length vc).ownBlock = some b → b < W5.heap.size) := fun b hb => Nat.lt_of_lt_of_le (L4.out.lt b hb).2 hs1
                have hgn : g ≠ W5.heap.size := by omega
                have hsn : s0 ≠ W5.heap.size := by omega
                generalize W5.alloc (.cells #[.bool p.mrk, .int .i64 p.ty, .int .i64 p.nu, .int .i64 p.ti, .int .i64 p.so, .slice ca p.cl.length cc, .bool p.ex, .int .i64 p.pr, .string p.en, .string p.py, .int .i64 p.pa] 41) = W6 at *
                clear HM5 HA5
                generalize W5.heap.size = s1 at *
                have HT1 : Hid (∀ b, b = s1 → (ρ' b ≠ 1 ∧ ρ' b ≠ 2 ∧ ρ' b ≠ 3) ∧ (b < wr.heap.size → ρ' b = 1000 + x.id.toNat) ∧ b ≠ s0 ∧ (Value.slice va out.length vc).ownBlock ≠ some b) := fun b hb => by
                  subst hb
                  have hz := Hz1.out
                  exact ⟨by omega, fun e => by omega, fun e => hsn e.symm, fun e => by have := Hvl.out b e; omega⟩
                have HAN : Hid (∀ b, (Value.slice aa al ac).ownBlock = some b → ¬ b = s1) := fun b hb e => by have h1 := HavR.out b hb; have h2 := Hz1.out; rw [e] at h1; omega
                have hw6 : IntKind.i64.wrap (p.nu + sh) = p.nu + sh := i64_id _ (by omega) (by omega)
                have HS6 : Two ⟨s0, 2, none⟩ ⟨g, q * 11 + 9, none⟩ (.int .i64 p.nu) (.int .i64 sh) W6 := ⟨HM6.out.p.k 2 _ rfl, (HM6.out.wc hqR).1 9 _ rfl⟩
                refine wp_region_noPanic ?_
                refine wp_region_held_drew (S := Two ⟨s0, 2, none⟩ ⟨g, q * 11 + 9, none⟩ (.int .i64 p.nu) (.int .i64 sh)) (by kernel_rfl) HS6 (fun hHeld => ?_)
                refine tkH 0 ?_ hHeld ?_ ?_; rotate_left
                · ((intro W hSw; obtain ⟨hS0, hS1⟩ := hSw; go_simp) <;> with_reducible rfl)
                refine tkH 1 ?_ hHeld ?_ ?_; rotate_left
                · ((intro W hSw; obtain ⟨hS0, hS1⟩ := hSw; go_simp) <;> with_reducible rfl)
                refine tkH 2 ?_ hHeld ?_ ?_; rotate_left
                · ((intro W hSw; obtain ⟨hS0, hS1⟩ := hSw; go_simp) <;> with_reducible rfl)
                refine tkH 3 ?_ hHeld ?_ ?_; rotate_left
                · ((intro W hSw; obtain ⟨hS0, hS1⟩ := hSw; go_simp) <;> with_reducible rfl)
                refine tkH 4 ?_ hHeld ?_ ?_; rotate_left
                · ((intro W hSw; obtain ⟨hS0, hS1⟩ := hSw; go_simp) <;> with_reducible rfl)
                refine tkH 5 ?_ hHeld ?_ ?_; rotate_left
                · ((intro W hSw; obtain ⟨hS0, hS1⟩ := hSw; go_simp) <;> with_reducible rfl)
                refine tkH 6 ?_ hHeld ?_ ?_; rotate_left
                · ((intro W hSw; obtain ⟨hS0, hS1⟩ := hSw; go_simp) <;> with_reducible rfl)
                refine wpAnyH_ready (rs := [7]) (by kernel_rfl) (by simp) ?_
                refine AllReadyH.cons rfl (fun K hK => ?_) AllReadyH.nil
                go_simp
                refine (refRound_any _ _).mono ?_
                rintro e' w4 ⟨rfl, hw4⟩
                rw [hw4]
                clear hw4
                go_simp
                refine hK.out _ _ hHeld (fun hHeld => ?_)
                clear hK K
                try simp only [Act.put]
                try simp only [List.getElem_toArray]
                try simp only [List.getElem_cons_succ]
                try simp only [List.getElem_cons_zero]
                try simp only [List.setIfInBounds_toArray]
                try simp only [List.set_cons_succ]
                try simp only [List.set_cons_zero]
                refine tkH 8 ?_ hHeld ?_ ?_; rotate_left
                · ((intro W hSw; obtain ⟨hS0, hS1⟩ := hSw; go_simp) <;> with_reducible rfl)
                have P6d := HY6.out.below (Below.refl _ _).drew
                have y2 := P6d.k 2 _ rfl
                have yff := P6d.f
                refine wpAnyH_ready (rs := [9]) (by kernel_rfl) (by simp) ?_
                refine AllReadyH.cons rfl (fun K hK => ?_) AllReadyH.nil
                go_simp
                have cs1 : Chg (fun b => b = s1) W6 (W6.setCell ⟨s1, 2, none⟩ (.int .i64 ((p.nu + sh) % 65536))) := (Chg.refl (fun b => b = s1) _).setCell ⟨s1, 2, none⟩ (.inl rfl) _
                refine hK.out _ _ (Two.chg hHeld ((Chg.refl (fun b => b = s1) _).setCell ⟨s1, 2, none⟩ (.inl rfl) _) hsn hgn) (fun hHeld => ?_)
                clear hK K
                refine wpAnyH_done (by kernel_rfl) ?_ _
                refine NoPanic.normal ?_
                have HY7 : Hid (PxAt s1 ((W6.setCell ⟨s1, 2, none⟩ (.int .i64 ((p.nu + sh) % 65536))).drew) ⟨p.mrk, p.ex, p.ty, (p.nu + sh) % 65536, p.ti, p.so, p.pr, p.pa, p.cl, p.en, p.py⟩ (.slice ca p.cl.length cc)) := (HY6.out.set (x' := ⟨p.mrk, p.ex, p.ty, (p.nu + sh) % 65536, p.ti, p.so, p.pr, p.pa, p.cl, p.en, p.py⟩) 2 (.int .i64 ((p.nu + sh) % 65536)) rfl).below (Below.refl _ _).drew
                have HM7 : Hid (PMd w wr ρ' rb s0 g wc q R' (.slice (some ⟨sg, 0, none⟩) R.sds.length scap) (.slice ca p.cl.length cc) (.slice va out.length vc) x sh p out ((W6.setCell ⟨s1, 2, none⟩ (.int .i64 ((p.nu + sh) % 65536))).drew)) := (HM6.out.chg Hrm'.out cs1 HT1.out).below Hrm'.out (Below.refl _ _).drew
                have HA7 : Hid (((W6.setCell ⟨s1, 2, none⟩ (.int .i64 ((p.nu + sh) % 65536))).drew).ownsRow 0 152 12 (.slice aa al ac) al (x.all.flatMap cRe)) := World.ownsRow.drew (rowA_chg cs1 HA6.out HAN.out)
                clear P6d y2 yff cs1 HY6 HM6 HA6 HS6 hHeld
                generalize (W6.setCell ⟨s1, 2, none⟩ (.int .i64 ((p.nu + sh) % 65536))).drew = W7 at *
                generalize hnu : (p.nu + sh) % 65536 = nu' at *
                have Hnu := Pk.hid hnu
                clear hnu
                have u4 : W7.cell? ⟨s1, 4, none⟩ = some (.int .i64 p.so) := HY7.out.k 4 _ rfl
                have uf := HY7.out.f
                have u2 : W7.cell? ⟨g, q * 11 + 2, none⟩ = some (.int .i64 x.pl.source) := (HM7.out.wc hqR).1 2 _ rfl
                have HY8 : Hid (PxAt s1 (W7.setCell ⟨s1, 4, none⟩ (.int .i64 x.pl.source)) ⟨p.mrk, p.ex, p.ty, nu', p.ti, x.pl.source, p.pr, p.pa, p.cl, p.en, p.py⟩ (.slice ca p.cl.length cc)) := HY7.out.set 4 _ rfl
                have HM8 : Hid (PMd w wr ρ' rb s0 g wc q R' (.slice (some ⟨sg, 0, none⟩) R.sds.length scap) (.slice ca p.cl.length cc) (.slice va out.length vc) x sh p out (W7.setCell ⟨s1, 4, none⟩ (.int .i64 x.pl.source))) := HM7.out.chg Hrm'.out ((Chg.refl (fun b => b = s1) _).setCell ⟨s1, 4, none⟩ (.inl rfl) _) HT1.out
                have u5 : (W7.setCell ⟨s1, 4, none⟩ (.int .i64 x.pl.source)).cell? ⟨g, q * 11 + 4, none⟩ = some (.int .i64 x.pl.ty) := (HM8.out.wc hqR).1 4 _ rfl
                have u6 : (W7.setCell ⟨s1, 4, none⟩ (.int .i64 x.pl.source)).cell? ⟨s1, 1, none⟩ = some (.int .i64 p.ty) := HY8.out.k 1 _ rfl
                have HY9 : Hid (PxAt s1 ((W7.setCell ⟨s1, 4, none⟩ (.int .i64 x.pl.source)).setCell ⟨s1, 1, none⟩ (.int .i64 x.pl.ty)) ⟨p.mrk, p.ex, x.pl.ty, nu', p.ti, x.pl.source, p.pr, p.pa, p.cl, p.en, p.py⟩ (.slice ca p.cl.length cc)) := HY8.out.set 1 _ rfl
                have HM9 : Hid (PMd w wr ρ' rb s0 g wc q R' (.slice (some ⟨sg, 0, none⟩) R.sds.length scap) (.slice ca p.cl.length cc) (.slice va out.length vc) x sh p out ((W7.setCell ⟨s1, 4, none⟩ (.int .i64 x.pl.source)).setCell ⟨s1, 1, none⟩ (.int .i64 x.pl.ty))) := HM8.out.chg Hrm'.out ((Chg.refl (fun b => b = s1) _).setCell ⟨s1, 1, none⟩ (.inl rfl) _) HT1.out
                have HA9 : Hid (((W7.setCell ⟨s1, 4, none⟩ (.int .i64 x.pl.source)).setCell ⟨s1, 1, none⟩ (.int .i64 x.pl.ty)).ownsRow 0 152 12 (.slice aa al ac) al (x.all.flatMap cRe)) := rowA_chg ((Chg.refl (fun b => b = s1) _).setCell ⟨s1, 1, none⟩ (.inl rfl) _) (rowA_chg ((Chg.refl (fun b => b = s1) _).setCell ⟨s1, 4, none⟩ (.inl rfl) _) HA7.out HAN.out) HAN.out
                go_simp
                go_wp2
                clear u4 uf u2 u5 u6 HY7 HM7 HY8 HM8 HA7
                generalize (W7.setCell ⟨s1, 4, none⟩ (.int .i64 x.pl.source)).setCell ⟨s1, 1, none⟩ (.int .i64 x.pl.ty) = W9 at *
                have Hz1' : Hid (ρ' s1 = 0) := Hz1.out
                have c9 : W9.cell? ⟨g, q * 11 + 8, none⟩ = some (.slice aa al ac) := by
                  have h1 := (HM9.out.wc hqR).1 8 _ rfl
                  rw [← Hav.out]
                  exact h1
                have HS9 : PxS s1 ⟨p.mrk, p.ex, x.pl.ty, nu', p.ti, x.pl.source, p.pr, p.pa, p.cl, p.en, p.py⟩ (.slice ca p.cl.length cc) W9 := HY9.out.toS
                have c9f := (HM9.out.wc hqR).2.1
                have hg9 : g < W9.heap.size := (HM9.out.wc hqR).2.2
                have hgn9 : g ≠ W9.heap.size := by omega
                have hs9 : wr.heap.size ≤ W9.heap.size := HM9.out.m.c.size
                have hs19 : s1 < W9.heap.size := HY9.out.lt
                refine wp_region_noPanic ?_
                refine wp_region_held_drew (S := PxS s1 ⟨p.mrk, p.ex, x.pl.ty, nu', p.ti, x.pl.source, p.pr, p.pa, p.cl, p.en, p.py⟩ (.slice ca p.cl.length cc)) (by kernel_rfl) HS9 (fun hHeld => ?_)
                refine tkH 0 ?_ hHeld ?_ ?_; rotate_left
                · ((intro W hSw; obtain ⟨hS0, hS1, hS2, hS3, hS4, hS5, hS6, hS7, hS8, hS9, hS10⟩ := hSw; go_simp) <;> with_reducible rfl)
                refine tkH 1 ?_ hHeld ?_ ?_; rotate_left
                · ((intro W hSw; obtain ⟨hS0, hS1, hS2, hS3, hS4, hS5, hS6, hS7, hS8, hS9, hS10⟩ := hSw; go_simp) <;> with_reducible rfl)
                refine tkH 2 ?_ hHeld ?_ ?_; rotate_left
                · ((intro W hSw; obtain ⟨hS0, hS1, hS2, hS3, hS4, hS5, hS6, hS7, hS8, hS9, hS10⟩ := hSw; go_simp) <;> with_reducible rfl)
                refine tkH 3 ?_ hHeld ?_ ?_; rotate_left
                · ((intro W hSw; obtain ⟨hS0, hS1, hS2, hS3, hS4, hS5, hS6, hS7, hS8, hS9, hS10⟩ := hSw; go_simp) <;> with_reducible rfl)
                refine tkH 5 ?_ hHeld ?_ ?_; rotate_left
                · ((intro W hSw; obtain ⟨hS0, hS1, hS2, hS3, hS4, hS5, hS6, hS7, hS8, hS9, hS10⟩ := hSw; go_simp) <;> with_reducible rfl)
                refine tkH 6 ?_ hHeld ?_ ?_; rotate_left
                · ((intro W hSw; obtain ⟨hS0, hS1, hS2, hS3, hS4, hS5, hS6, hS7, hS8, hS9, hS10⟩ := hSw; go_simp) <;> with_reducible rfl)
                refine wpAnyH_ready (rs := [4, 7]) (by kernel_rfl) (by simp) ?_
                refine AllReadyH.cons rfl (fun K hK => ?_) (AllReadyH.cons rfl (fun K hK => ?_) AllReadyH.nil)
                · go_simp
                  refine hK.out _ _ hHeld (fun hHeld => ?_)
                  clear hK K
                  try simp only [Act.put]
                  try simp only [List.getElem_toArray]
                  try simp only [List.getElem_cons_succ]
                  try simp only [List.getElem_cons_zero]
                  try simp only [List.setIfInBounds_toArray]
                  try simp only [List.set_cons_succ]
                  try simp only [List.set_cons_zero]
                  refine wpAnyH_ready (rs := [7]) (by kernel_rfl) (by simp) ?_
                  refine AllReadyH.cons rfl (fun K hK => ?_) AllReadyH.nil
                  go_simp
                  refine hK.out _ _ ((HY9.out.below ((Below.refl _ _).alloc (Nat.le_refl _) _)).toS) (fun hHeld => ?_)
                  clear hK K
                  try simp only [Act.put]
                  try simp only [List.getElem_toArray]
                  try simp only [List.getElem_cons_succ]
                  try simp only [List.getElem_cons_zero]
                  try simp only [List.setIfInBounds_toArray]
                  try simp only [List.set_cons_succ]
                  try simp only [List.set_cons_zero]
                  refine wpAnyH_ready (rs := [8]) (by kernel_rfl) (by simp) ?_
                  refine AllReadyH.cons rfl (fun K hK => ?_) AllReadyH.nil
                  rw [if_pos (by rfl)]
                  refine wp_append_at (.tmp 132) (.tmp 135) 97 rfl 0 152 i0 _ 12 128 Tryz.underlying97 Hi.out.1 Hi.out.2.1 Hi.out.2.2.1 Hi.out.2.2.2 rfl (by decide) (.slice aa al ac) al (x.all.flatMap cRe) (by rfl) (World.ownsRow.drew (World.ownsRow.alloc HA9.out _)) _ 1 1 [.bool p.mrk, .int .i64 x.pl.ty, .int .i64 nu', .int .i64 p.ti, .int .i64 x.pl.source, .slice ca p.cl.length cc, .bool p.ex, .int .i64 p.pr, .string p.en, .string p.py, .int .i64 p.pa, .int .i64 (-1)] (by rfl) rfl ?_ ?_ (by unfold maxLen; omega) (by omega) (Nat.zero_le _) ?_
                  · exact cells_new _ [.bool p.mrk, .int .i64 x.pl.ty, .int .i64 nu', .int .i64 p.ti, .int .i64 x.pl.source, .slice ca p.cl.length cc, .bool p.ex, .int .i64 p.pr, .string p.en, .string p.py, .int .i64 p.pa, .int .i64 (-1)] _
                  · intro u hu
                    simp at hu
                    rcases hu with rfl | rfl | rfl | rfl | rfl | rfl | rfl | rfl | rfl | rfl | rfl | rfl <;> rfl
                  intro v' wa hown' hgrow hob
                  have hca : Chg (fun b => (Value.slice aa al ac).ownBlock = some b) W9 wa := Chg.ofGrown (((World.grownBy_alloc _ _ _).trans (World.grownBy_drewX _ _)).trans hgrow)
                  obtain ⟨a3, c3, rfl⟩ := rowA_shape hown'
                  have hPa : PMd w wr ρ' rb s0 g wc q R' (.slice (some ⟨sg, 0, none⟩) R.sds.length scap) (.slice ca p.cl.length cc) (.slice va out.length vc) x sh p out wa := HM9.out.chg Hrm'.out hca HavT.out
                  have hYa : PxAt s1 wa ⟨p.mrk, p.ex, x.pl.ty, nu', p.ti, x.pl.source, p.pr, p.pa, p.cl, p.en, p.py⟩ (.slice ca p.cl.length cc) := HY9.out.chg hca (fun e => by have h1 := HavR.out s1 e; have h2 := Hz1'.out; omega)
                  obtain ⟨wcs, wfs, wgl⟩ := hPa.wc hqR
                  have z8 : wa.cell? ⟨g, q * 11 + 8, none⟩ = some (.slice aa al ac) := by
                    have h1 := wcs 8 _ rfl
                    rw [← Hav.out]
                    exact h1
                  have HD : Hid (∃ ρ2, RdAt (wa.setCell ⟨g, q * 11 + 8, none⟩ (.slice a3 (al + 1) c3)) ρ2 rb { R' with wns := R'.wns.set q (rPassW x p (.slice ca p.cl.length cc) (.slice a3 (al + 1) c3)) } (.slice (some ⟨sg, 0, none⟩) R.sds.length scap) (.slice (some ⟨g, 0, none⟩) R'.wns.length wc) ∧ RMv wr ρ' (wa.setCell ⟨g, q * 11 + 8, none⟩ (.slice a3 (al + 1) c3)) ρ2 ∧ (wa.setCell ⟨g, q * 11 + 8, none⟩ (.slice a3 (al + 1) c3)).ownsRow w.heap.size 9 1 (.slice va out.length vc) out.length (out.map Value.string) ∧ (∀ b, (Value.slice va out.length vc).ownBlock = some b → ρ2 b = 0) ∧ PxAt s0 (wa.setCell ⟨g, q * 11 + 8, none⟩ (.slice a3 (al + 1) c3)) p (.slice ca p.cl.length cc) ∧ IsC (fun b => ρ2 b = 4) (wa.setCell ⟨g, q * 11 + 8, none⟩ (.slice a3 (al + 1) c3)) (.slice ca p.cl.length cc) p.cl ∧ ρ2 s0 = 0 ∧ PxAt s1 (wa.setCell ⟨g, q * 11 + 8, none⟩ (.slice a3 (al + 1) c3)) ⟨p.mrk, p.ex, x.pl.ty, nu', p.ti, x.pl.source, p.pr, p.pa, p.cl, p.en, p.py⟩ (.slice ca p.cl.length cc) ∧ ρ2 s1 = 0) := by
                    refine hPa.done HL2'.out Hx.out Hsh.out L8.out L6.out.lt (fun b hb => ⟨L5.out b hb, (L4.out.lt b hb).2⟩) L7.out ?_ (fun b hb => ?_) hYa hs1 (fun e => ?_)
                    · rw [Hal.out, List.flatMap_append]
                      have e : ([(⟨rPassX x p, (.slice ca p.cl.length cc), -1⟩ : Re)] : List Re).flatMap cRe = [.bool p.mrk, .int .i64 x.pl.ty, .int .i64 nu', .int .i64 p.ti, .int .i64 x.pl.source, .slice ca p.cl.length cc, .bool p.ex, .int .i64 p.pr, .string p.en, .string p.py, .int .i64 p.pa, .int .i64 (-1)] := by
                        rw [← Hnu.out, ← Hsh.out]
                        simp [cRe, cellsP, rPassX]
                      rw [e]
                      exact hown'
                    · rcases hob with o | o
                      · exact .inl (HavR.out b (o ▸ hb))
                      · refine .inr ?_
                        rw [o, Option.some.injEq] at hb
                        rw [← hb]
                        simp
                        omega
                    · rcases hob with o | o
                      · have h1 := HavR.out s1 (o ▸ e); have h2 := Hz1'.out; omega
                      · rw [o, Option.some.injEq] at e
                        simp at e
                        omega
                  refine hK.out _ _ hYa.toS (fun hHeld => ?_)
                  clear hK K hown' hgrow hob hca hPa
                  try simp only [Act.put]
                  try simp only [List.getElem_toArray]
                  try simp only [List.getElem_cons_succ]
                  try simp only [List.getElem_cons_zero]
                  try simp only [List.setIfInBounds_toArray]
                  try simp only [List.set_cons_succ]
                  try simp only [List.set_cons_zero]
                  refine tkH 9 ?_ hHeld ?_ ?_; rotate_left
                  · ((intro W hSw; go_simp) <;> with_reducible rfl)
                  refine tkH 10 ?_ hHeld ?_ ?_; rotate_left
                  · ((intro W hSw; go_simp) <;> with_reducible rfl)
                  refine wpAnyH_ready (rs := [11]) (by kernel_rfl) (by simp) ?_
                  refine AllReadyH.cons rfl (fun K hK => ?_) AllReadyH.nil
                  go_simp
                  refine hK.out _ _ (by obtain ⟨_, _, _, _, _, _, _, _, d, _⟩ := HD.out; exact d.toS) (fun hHeld => ?_)
                  clear hK K
                  refine wpAnyH_done (by kernel_rfl) ?_ _
                  refine NoPanic.normal ?_
                  clear z8 wcs wfs hYa hHeld wgl
                  generalize wa.setCell ⟨g, q * 11 + 8, none⟩ (.slice a3 (al + 1) c3) = Wb at *
                  obtain ⟨ρ2, d1, d2, d3, d4, d5, d6, d7, d8, d9⟩ := HD.out
                  have D1 := Pk.hid d1
                  have D2 := Pk.hid d2
                  have D3 := Pk.hid d3
                  have D4 := Pk.hid d4
                  have D5 := Pk.hid d5
                  have D6 := Pk.hid d6
                  have D7 := Pk.hid d7
                  have b0 : Wb.cell? ⟨s1, 0, none⟩ = some (.bool p.mrk) := d8.k 0 _ rfl
                  have b1 : Wb.cell? ⟨s1, 1, none⟩ = some (.int .i64 x.pl.ty) := d8.k 1 _ rfl
                  have b2 : Wb.cell? ⟨s1, 2, none⟩ = some (.int .i64 nu') := d8.k 2 _ rfl
                  have b3 : Wb.cell? ⟨s1, 3, none⟩ = some (.int .i64 p.ti) := d8.k 3 _ rfl
                  have b4 : Wb.cell? ⟨s1, 4, none⟩ = some (.int .i64 x.pl.source) := d8.k 4 _ rfl
                  have b5 : Wb.cell? ⟨s1, 5, none⟩ = some (.slice ca p.cl.length cc) := d8.k 5 _ rfl
                  have b6 : Wb.cell? ⟨s1, 6, none⟩ = some (.bool p.ex) := d8.k 6 _ rfl
                  have b7 : Wb.cell? ⟨s1, 7, none⟩ = some (.int .i64 p.pr) := d8.k 7 _ rfl
                  have b8 : Wb.cell? ⟨s1, 8, none⟩ = some (.string p.en) := d8.k 8 _ rfl
                  have b9 : Wb.cell? ⟨s1, 9, none⟩ = some (.string p.py) := d8.k 9 _ rfl
                  have b10 : Wb.cell? ⟨s1, 10, none⟩ = some (.int .i64 p.pa) := d8.k 10 _ rfl
                  have hszb : w.heap.size ≤ Wb.heap.size := Nat.le_trans L3.out.2.size d2.2.size
                  clear d1 d2 d3 d4 d5 d6 d7 d8 d9 HD HM9 HY9 HA9
                  go_wp2_with fail
                  refine (refTell_any p.mrk p.ex x.pl.ty nu' p.ti x.pl.source p.pr p.pa (.slice ca p.cl.length cc) p.cl p.en p.py _ _ (Nat.le_refl _) D6.out.isInts (by omega) (by omega) (by omega)).mono ?_
                  rintro e' wc2 ⟨rfl, hbt⟩
                  have HT : Hid ((tellX (rPassX x p)).1 = (tellR p.mrk p.ex x.pl.ty nu' p.ti x.pl.source p.pr p.pa p.cl p.en p.py).1) := by
                    show _ = _
                    rw [← Hnu.out, ← Hsh.out]
                    rfl
                  have HN : Hid (RPass p (.slice ca p.cl.length cc) R4 (q + 1) { R' with wns := R'.wns.set q (rPassW x p (.slice ca p.cl.length cc) (.slice a3 (al + 1) c3)) } (out ++ [(tellR p.mrk p.ex x.pl.ty nu' p.ti x.pl.source p.pr p.pa p.cl p.en p.py).1])) := by
                    rw [← HT.out]
                    exact L1.out.pass _ Hx.out Hof.out
                  generalize tellR p.mrk p.ex x.pl.ty nu' p.ti x.pl.source p.pr p.pa p.cl p.en p.py = TR at *
                  obtain ⟨t1, t2⟩ := TR
                  simp only at HN
                  have G1 : Hid (RdAt wc2 ρ2 rb { R' with wns := R'.wns.set q (rPassW x p (.slice ca p.cl.length cc) (.slice a3 (al + 1) c3)) } (.slice (some ⟨sg, 0, none⟩) R.sds.length scap) (.slice (some ⟨g, 0, none⟩) R'.wns.length wc)) := D1.out.below hbt
                  have G2 : Hid (RMv wr ρ' wc2 ρ2) := D2.out.trans (RMv.below hbt)
                  have G3 : Hid (wc2.ownsRow w.heap.size 9 1 (.slice va out.length vc) out.length (out.map Value.string)) := rowA_chg (T := fun _ => False) (Chg.ofBelow hbt) D3.out (fun _ _ e => e)
                  have G5 : Hid (PxAt s0 wc2 p (.slice ca p.cl.length cc)) := D5.out.below hbt
                  have G6 : Hid (IsC (fun b => ρ2 b = 4) wc2 (.slice ca p.cl.length cc) p.cl) := D6.out.chg (T := fun _ => False) (Chg.ofBelow hbt) (fun _ _ e => e)
                  have hszc : w.heap.size ≤ wc2.heap.size := Nat.le_trans hszb hbt.size
                  have hol := L1.out.keeps.2.2.2.2.2
                  clear hbt b0 b1 b2 b3 b4 b5 b6 b7 b8 b9 b10 D1 D2 D3 D5 D6 HT
                  go_wp2_with (at_builtin; (
                    refine wpList_append_at rfl (.tmp 144) (.tmp 146) 32 rfl w.heap.size 9 iS _ 1 16 Tryz.underlying32 HiS.out rfl (by decide) _ out.length (out.map Value.string) rfl (World.ownsRow.alloc G3.out _) _ 1 1 [.string t1] rfl rfl (cell_one_at _ _ rfl _ _) ?_ (by unfold maxLen; omega) (by omega) (by simp; omega) ?_
                    · intro u hu; simp at hu; subst hu; rfl
                    intro v' wz hown' hgrow hob
                    refine stop_here ?_))
                  refine hid_in ?_
                  have cz : Chg (fun y => (Value.slice va out.length vc).ownBlock = some y) wc2 wz := (Chg.ofBelow ((Below.refl _ _).alloc (Nat.le_refl _) _)).trans (Chg.ofGrown hgrow) (fun _ _ e => e)
                  have HL : Hid (PLoop w ρ rb s0 (.slice (some ⟨sg, 0, none⟩) R.sds.length scap) (.slice (some ⟨g, 0, none⟩) R.wns.length wc) (.slice ca p.cl.length cc) p R4 (q + 1) v' wz) := by
                    have g1 := G1.out.chg cz (fun b e => D4.out b e)
                    rw [Hwl.out] at g1
                    refine ⟨_, _, ρ2, HN.out, g1, ?_, by rw [List.length_append, List.map_append]; exact hown', fun b hb => ?_, G5.out.chg cz (fun e => ?_), G6.out.chg cz (fun b hb e => ?_), D7.out, fun e => ?_⟩
                    · have h1 := L3.out.trans G2.out
                      exact ⟨h1.1, h1.2.trans cz (fun b hb e => absurd (G3.out.lt b e).1 (by omega))⟩
                    · rcases hob with o | o
                      · exact D4.out b (o ▸ hb)
                      · rw [o, Option.some.injEq] at hb
                        rw [← hb]
                        exact G1.out.hi _ (by simp)
                    · have h1 := L5.out s0 e
                      have h2 := (L4.out.lt s0 e).1
                      exact absurd e Hs0t.out
                    · have h1 := D4.out b e
                      omega
                    · rcases hob with o | o
                      · exact Hs0t.out (o ▸ e)
                      · rw [o, Option.some.injEq] at e
                        have h1 := G5.out.lt
                        simp at e
                        omega
                  obtain ⟨a9, c9, rfl⟩ := rowA_shape hown'
                  clear hown' hgrow hob cz
                  go_wp2
                  go_roundw
                  case rel => exact ⟨q + 1, by omega, by go_num, HL.out⟩
                  case measure => simp [intOf]; omega
                · go_simp
                  refine hK.out _ _ ((HY9.out.below ((Below.refl _ _).alloc (Nat.le_refl _) _)).toS) (fun hHeld => ?_)
                  clear hK K
                  try simp only [Act.put]
                  try simp only [List.getElem_toArray]
                  try simp only [List.getElem_cons_succ]
                  try simp only [List.getElem_cons_zero]
                  try simp only [List.setIfInBounds_toArray]
                  try simp only [List.set_cons_succ]
                  try simp only [List.set_cons_zero]
                  refine wpAnyH_ready (rs := [4]) (by kernel_rfl) (by simp) ?_
                  refine AllReadyH.cons rfl (fun K hK => ?_) AllReadyH.nil
                  go_simp
                  refine hK.out _ _ hHeld (fun hHeld => ?_)
                  clear hK K
                  try simp only [Act.put]
                  try simp only [List.getElem_toArray]
                  try simp only [List.getElem_cons_succ]
                  try simp only [List.getElem_cons_zero]
                  try simp only [List.setIfInBounds_toArray]
                  try simp only [List.set_cons_succ]
                  try simp only [List.set_cons_zero]
                  refine wpAnyH_ready (rs := [8]) (by kernel_rfl) (by simp) ?_
                  refine AllReadyH.cons rfl (fun K hK => ?_) AllReadyH.nil
                  rw [if_pos (by rfl)]
                  refine wp_append_at (.tmp 132) (.tmp 135) 97 rfl 0 152 i0 _ 12 128 Tryz.underlying97 Hi.out.1 Hi.out.2.1 Hi.out.2.2.1 Hi.out.2.2.2 rfl (by decide) (.slice aa al ac) al (x.all.flatMap cRe) (by rfl) (World.ownsRow.drew (World.ownsRow.alloc HA9.out _)) _ 1 1 [.bool p.mrk, .int .i64 x.pl.ty, .int .i64 nu', .int .i64 p.ti, .int .i64 x.pl.source, .slice ca p.cl.length cc, .bool p.ex, .int .i64 p.pr, .string p.en, .string p.py, .int .i64 p.pa, .int .i64 (-1)] (by rfl) rfl ?_ ?_ (by unfold maxLen; omega) (by omega) (Nat.zero_le _) ?_
                  · exact cells_new _ [.bool p.mrk, .int .i64 x.pl.ty, .int .i64 nu', .int .i64 p.ti, .int .i64 x.pl.source, .slice ca p.cl.length cc, .bool p.ex, .int .i64 p.pr, .string p.en, .string p.py, .int .i64 p.pa, .int .i64 (-1)] _
                  · intro u hu
                    simp at hu
                    rcases hu with rfl | rfl | rfl | rfl | rfl | rfl | rfl | rfl | rfl | rfl | rfl | rfl <;> rfl
                  intro v' wa hown' hgrow hob
                  have hca : Chg (fun b => (Value.slice aa al ac).ownBlock = some b) W9 wa := Chg.ofGrown (((World.grownBy_alloc _ _ _).trans (World.grownBy_drewX _ _)).trans hgrow)
                  obtain ⟨a3, c3, rfl⟩ := rowA_shape hown'
                  have hPa : PMd w wr ρ' rb s0 g wc q R' (.slice (some ⟨sg, 0, none⟩) R.sds.length scap) (.slice ca p.cl.length cc) (.slice va out.length vc) x sh p out wa := HM9.out.chg Hrm'.out hca HavT.out
                  have hYa : PxAt s1 wa ⟨p.mrk, p.ex, x.pl.ty, nu', p.ti, x.pl.source, p.pr, p.pa, p.cl, p.en, p.py⟩ (.slice ca p.cl.length cc) := HY9.out.chg hca (fun e => by have h1 := HavR.out s1 e; have h2 := Hz1'.out; omega)
                  obtain ⟨wcs, wfs, wgl⟩ := hPa.wc hqR
                  have z8 : wa.cell? ⟨g, q * 11 + 8, none⟩ = some (.slice aa al ac) := by
                    have h1 := wcs 8 _ rfl
                    rw [← Hav.out]
                    exact h1
                  have HD : Hid (∃ ρ2, RdAt (wa.setCell ⟨g, q * 11 + 8, none⟩ (.slice a3 (al + 1) c3)) ρ2 rb { R' with wns := R'.wns.set q (rPassW x p (.slice ca p.cl.length cc) (.slice a3 (al + 1) c3)) } (.slice (some ⟨sg, 0, none⟩) R.sds.length scap) (.slice (some ⟨g, 0, none⟩) R'.wns.length wc) ∧ RMv wr ρ' (wa.setCell ⟨g, q * 11 + 8, none⟩ (.slice a3 (al + 1) c3)) ρ2 ∧ (wa.setCell ⟨g, q * 11 + 8, none⟩ (.slice a3 (al + 1) c3)).ownsRow w.heap.size 9 1 (.slice va out.length vc) out.length (out.map Value.string) ∧ (∀ b, (Value.slice va out.length vc).ownBlock = some b → ρ2 b = 0) ∧ PxAt s0 (wa.setCell ⟨g, q * 11 + 8, none⟩ (.slice a3 (al + 1) c3)) p (.slice ca p.cl.length cc) ∧ IsC (fun b => ρ2 b = 4) (wa.setCell ⟨g, q * 11 + 8, none⟩ (.slice a3 (al + 1) c3)) (.slice ca p.cl.length cc) p.cl ∧ ρ2 s0 = 0 ∧ PxAt s1 (wa.setCell ⟨g, q * 11 + 8, none⟩ (.slice a3 (al + 1) c3)) ⟨p.mrk, p.ex, x.pl.ty, nu', p.ti, x.pl.source, p.pr, p.pa, p.cl, p.en, p.py⟩ (.slice ca p.cl.length cc) ∧ ρ2 s1 = 0) := by
                    refine hPa.done HL2'.out Hx.out Hsh.out L8.out L6.out.lt (fun b hb => ⟨L5.out b hb, (L4.out.lt b hb).2⟩) L7.out ?_ (fun b hb => ?_) hYa hs1 (fun e => ?_)
                    · rw [Hal.out, List.flatMap_append]
                      have e : ([(⟨rPassX x p, (.slice ca p.cl.length cc), -1⟩ : Re)] : List Re).flatMap cRe = [.bool p.mrk, .int .i64 x.pl.ty, .int .i64 nu', .int .i64 p.ti, .int .i64 x.pl.source, .slice ca p.cl.length cc, .bool p.ex, .int .i64 p.pr, .string p.en, .string p.py, .int .i64 p.pa, .int .i64 (-1)] := by
                        rw [← Hnu.out, ← Hsh.out]
                        simp [cRe, cellsP, rPassX]
                      rw [e]
                      exact hown'
                    · rcases hob with o | o
                      · exact .inl (HavR.out b (o ▸ hb))
                      · refine .inr ?_
                        rw [o, Option.some.injEq] at hb
                        rw [← hb]
                        simp
                        omega
                    · rcases hob with o | o
                      · have h1 := HavR.out s1 (o ▸ e); have h2 := Hz1'.out; omega
                      · rw [o, Option.some.injEq] at e
                        simp at e
                        omega
                  refine hK.out _ _ hYa.toS (fun hHeld => ?_)
                  clear hK K hown' hgrow hob hca hPa
                  try simp only [Act.put]
                  try simp only [List.getElem_toArray]
                  try simp only [List.getElem_cons_succ]
                  try simp only [List.getElem_cons_zero]
                  try simp only [List.setIfInBounds_toArray]
                  try simp only [List.set_cons_succ]
                  try simp only [List.set_cons_zero]
                  refine tkH 9 ?_ hHeld ?_ ?_; rotate_left
                  · ((intro W hSw; go_simp) <;> with_reducible rfl)
                  refine tkH 10 ?_ hHeld ?_ ?_; rotate_left
                  · ((intro W hSw; go_simp) <;> with_reducible rfl)
                  refine wpAnyH_ready (rs := [11]) (by kernel_rfl) (by simp) ?_
                  refine AllReadyH.cons rfl (fun K hK => ?_) AllReadyH.nil
                  go_simp
                  refine hK.out _ _ (by obtain ⟨_, _, _, _, _, _, _, _, d, _⟩ := HD.out; exact d.toS) (fun hHeld => ?_)
                  clear hK K
                  refine wpAnyH_done (by kernel_rfl) ?_ _
                  refine NoPanic.normal ?_
                  clear z8 wcs wfs hYa hHeld wgl
                  generalize wa.setCell ⟨g, q * 11 + 8, none⟩ (.slice a3 (al + 1) c3) = Wb at *
                  obtain ⟨ρ2, d1, d2, d3, d4, d5, d6, d7, d8, d9⟩ := HD.out
                  have D1 := Pk.hid d1
                  have D2 := Pk.hid d2
                  have D3 := Pk.hid d3
                  have D4 := Pk.hid d4
                  have D5 := Pk.hid d5
                  have D6 := Pk.hid d6
                  have D7 := Pk.hid d7
                  have b0 : Wb.cell? ⟨s1, 0, none⟩ = some (.bool p.mrk) := d8.k 0 _ rfl
                  have b1 : Wb.cell? ⟨s1, 1, none⟩ = some (.int .i64 x.pl.ty) := d8.k 1 _ rfl
                  have b2 : Wb.cell? ⟨s1, 2, none⟩ = some (.int .i64 nu') := d8.k 2 _ rfl
                  have b3 : Wb.cell? ⟨s1, 3, none⟩ = some (.int .i64 p.ti) := d8.k 3 _ rfl
                  have b4 : Wb.cell? ⟨s1, 4, none⟩ = some (.int .i64 x.pl.source) := d8.k 4 _ rfl
                  have b5 : Wb.cell? ⟨s1, 5, none⟩ = some (.slice ca p.cl.length cc) := d8.k 5 _ rfl
                  have b6 : Wb.cell? ⟨s1, 6, none⟩ = some (.bool p.ex) := d8.k 6 _ rfl
                  have b7 : Wb.cell? ⟨s1, 7, none⟩ = some (.int .i64 p.pr) := d8.k 7 _ rfl
                  have b8 : Wb.cell? ⟨s1, 8, none⟩ = some (.string p.en) := d8.k 8 _ rfl
                  have b9 : Wb.cell? ⟨s1, 9, none⟩ = some (.string p.py) := d8.k 9 _ rfl
                  have b10 : Wb.cell? ⟨s1, 10, none⟩ = some (.int .i64 p.pa) := d8.k 10 _ rfl
                  have hszb : w.heap.size ≤ Wb.heap.size := Nat.le_trans L3.out.2.size d2.2.size
                  clear d1 d2 d3 d4 d5 d6 d7 d8 d9 HD HM9 HY9 HA9
                  go_wp2_with fail
                  refine (refTell_any p.mrk p.ex x.pl.ty nu' p.ti x.pl.source p.pr p.pa (.slice ca p.cl.length cc) p.cl p.en p.py _ _ (Nat.le_refl _) D6.out.isInts (by omega) (by omega) (by omega)).mono ?_
                  rintro e' wc2 ⟨rfl, hbt⟩
                  have HT : Hid ((tellX (rPassX x p)).1 = (tellR p.mrk p.ex x.pl.ty nu' p.ti x.pl.source p.pr p.pa p.cl p.en p.py).1) := by
                    show _ = _
                    rw [← Hnu.out, ← Hsh.out]
                    rfl
                  have HN : Hid (RPass p (.slice ca p.cl.length cc) R4 (q + 1) { R' with wns := R'.wns.set q (rPassW x p (.slice ca p.cl.length cc) (.slice a3 (al + 1) c3)) } (out ++ [(tellR p.mrk p.ex x.pl.ty nu' p.ti x.pl.source p.pr p.pa p.cl p.en p.py).1])) := by
                    rw [← HT.out]
                    exact L1.out.pass _ Hx.out Hof.out
                  generalize tellR p.mrk p.ex x.pl.ty nu' p.ti x.pl.source p.pr p.pa p.cl p.en p.py = TR at *
                  obtain ⟨t1, t2⟩ := TR
                  simp only at HN
                  have G1 : Hid (RdAt wc2 ρ2 rb { R' with wns := R'.wns.set q (rPassW x p (.slice ca p.cl.length cc) (.slice a3 (al + 1) c3)) } (.slice (some ⟨sg, 0, none⟩) R.sds.length scap) (.slice (some ⟨g, 0, none⟩) R'.wns.length wc)) := D1.out.below hbt
                  have G2 : Hid (RMv wr ρ' wc2 ρ2) := D2.out.trans (RMv.below hbt)
                  have G3 : Hid (wc2.ownsRow w.heap.size 9 1 (.slice va out.length vc) out.length (out.map Value.string)) := rowA_chg (T := fun _ => False) (Chg.ofBelow hbt) D3.out (fun _ _ e => e)
                  have G5 : Hid (PxAt s0 wc2 p (.slice ca p.cl.length cc)) := D5.out.below hbt
                  have G6 : Hid (IsC (fun b => ρ2 b = 4) wc2 (.slice ca p.cl.length cc) p.cl) := D6.out.chg (T := fun _ => False) (Chg.ofBelow hbt) (fun _ _ e => e)
                  have hszc : w.heap.size ≤ wc2.heap.size := Nat.le_trans hszb hbt.size
                  have hol := L1.out.keeps.2.2.2.2.2
                  clear hbt b0 b1 b2 b3 b4 b5 b6 b7 b8 b9 b10 D1 D2 D3 D5 D6 HT
                  go_wp2_with (at_builtin; (
                    refine wpList_append_at rfl (.tmp 144) (.tmp 146) 32 rfl w.heap.size 9 iS _ 1 16 Tryz.underlying32 HiS.out rfl (by decide) _ out.length (out.map Value.string) rfl (World.ownsRow.alloc G3.out _) _ 1 1 [.string t1] rfl rfl (cell_one_at _ _ rfl _ _) ?_ (by unfold maxLen; omega) (by omega) (by simp; omega) ?_
                    · intro u hu; simp at hu; subst hu; rfl
                    intro v' wz hown' hgrow hob
                    refine stop_here ?_))
                  refine hid_in ?_
                  have cz : Chg (fun y => (Value.slice va out.length vc).ownBlock = some y) wc2 wz := (Chg.ofBelow ((Below.refl _ _).alloc (Nat.le_refl _) _)).trans (Chg.ofGrown hgrow) (fun _ _ e => e)
                  have HL : Hid (PLoop w ρ rb s0 (.slice (some ⟨sg, 0, none⟩) R.sds.length scap) (.slice (some ⟨g, 0, none⟩) R.wns.length wc) (.slice ca p.cl.length cc) p R4 (q + 1) v' wz) := by
                    have g1 := G1.out.chg cz (fun b e => D4.out b e)
                    rw [Hwl.out] at g1
                    refine ⟨_, _, ρ2, HN.out, g1, ?_, by rw [List.length_append, List.map_append]; exact hown', fun b hb => ?_, G5.out.chg cz (fun e => ?_), G6.out.chg cz (fun b hb e => ?_), D7.out, fun e => ?_⟩
                    · have h1 := L3.out.trans G2.out
                      exact ⟨h1.1, h1.2.trans cz (fun b hb e => absurd (G3.out.lt b e).1 (by omega))⟩
                    · rcases hob with o | o
                      · exact D4.out b (o ▸ hb)
                      · rw [o, Option.some.injEq] at hb
                        rw [← hb]
                        exact G1.out.hi _ (by simp)
                    · have h1 := L5.out s0 e
                      have h2 := (L4.out.lt s0 e).1
                      exact absurd e Hs0t.out
                    · have h1 := D4.out b e
                      omega
                    · rcases hob with o | o
                      · exact Hs0t.out (o ▸ e)
                      · rw [o, Option.some.injEq] at e
                        have h1 := G5.out.lt
                        simp at e
                        omega
                  obtain ⟨a9, c9, rfl⟩ := rowA_shape hown'
                  clear hown' hgrow hob cz
                  go_wp2
                  go_roundw
                  case rel => exact ⟨q + 1, by omega, by go_num, HL.out⟩
                  case measure => simp [intOf]; omega
              · have hzb : ((al : Int) == 0) = false := by rw [beq_eq_false_iff_ne]; omega
                obtain ⟨sh, hsh⟩ : ∃ sh, x.shift = sh := ⟨_, rfl⟩
                have Hsh : Hid (rShift x p.nu = sh) := by show _ = _; unfold rShift; rw [if_neg (by rw [Hal.out]; exact hz)]; exact hsh
                have hshb : -65535 ≤ sh ∧ sh ≤ 65535 := by rw [← hsh]; exact hxs
                clear hz
                rw [hsh] at HP0
                clear hsh
                go_wp2
                go_big_quiet (fail)
                have P0 := HP0.out nq
                have A0 := HA0.out nq
                have c8' : (wr.drewN nq).cell? ⟨g, q * 11 + 8, none⟩ = some (.slice aa al ac) := by rw [World.cell?_drewN]; exact c8
                have y19' : (wr.drewN nq).cell? ⟨rb, 19, none⟩ = some (.slice (some ⟨g, 0, none⟩) R.wns.length wc) := by rw [World.cell?_drewN]; exact y19
                clear c8 y19 c1 q4 HWs Hd HP0 HA0
                generalize wr.drewN nq = W5 at *
                have HM5 := Pk.hid P0
                have HA5 := Pk.hid A0
                clear P0 A0
                have v0 : W5.cell? ⟨s0, 0, none⟩ = some (.bool p.mrk) := HM5.out.p.k 0 _ rfl
                have v1 : W5.cell? ⟨s0, 1, none⟩ = some (.int .i64 p.ty) := HM5.out.p.k 1 _ rfl
                have v2 : W5.cell? ⟨s0, 2, none⟩ = some (.int .i64 p.nu) := HM5.out.p.k 2 _ rfl
                have v3 : W5.cell? ⟨s0, 3, none⟩ = some (.int .i64 p.ti) := HM5.out.p.k 3 _ rfl
                have v4 : W5.cell? ⟨s0, 4, none⟩ = some (.int .i64 p.so) := HM5.out.p.k 4 _ rfl
                have v5 : W5.cell? ⟨s0, 5, none⟩ = some (.slice ca p.cl.length cc) := HM5.out.p.k 5 _ rfl
                have v6 : W5.cell? ⟨s0, 6, none⟩ = some (.bool p.ex) := HM5.out.p.k 6 _ rfl
                have v7 : W5.cell? ⟨s0, 7, none⟩ = some (.int .i64 p.pr) := HM5.out.p.k 7 _ rfl
                have v8 : W5.cell? ⟨s0, 8, none⟩ = some (.string p.en) := HM5.out.p.k 8 _ rfl
                have v9 : W5.cell? ⟨s0, 9, none⟩ = some (.string p.py) := HM5.out.p.k 9 _ rfl
                have v10 : W5.cell? ⟨s0, 10, none⟩ = some (.int .i64 p.pa) := HM5.out.p.k 10 _ rfl
                have hs1 : wr.heap.size ≤ W5.heap.size := HM5.out.m.c.size
                have hs0l : s0 < W5.heap.size := HM5.out.p.lt
                have hgl5 : g < W5.heap.size := (HM5.out.wc hqR).2.2
                go_wp2
                clear v0 v1 v2 v3 v4 v5 v6 v7 v8 v9 v10
                have HY6 : Hid (PxAt W5.heap.size (W5.alloc (.cells #[.bool p.mrk, .int .i64 p.ty, .int .i64 p.nu, .int .i64 p.ti, .int .i64 p.so, .slice ca p.cl.length cc, .bool p.ex, .int .i64 p.pr, .string p.en, .string p.py, .int .i64 p.pa] 41)) p (.slice ca p.cl.length cc)) := PxAt.new W5 p (.slice ca p.cl.length cc) _
                have HM6 : Hid (PMd w wr ρ' rb s0 g wc q R' (.slice (some ⟨sg, 0, none⟩) R.sds.length scap) (.slice ca p.cl.length cc) (.slice va out.length vc) x sh p out (W5.alloc (.cells #[.bool p.mrk, .int .i64 p.ty, .int .i64 p.nu, .int .i64 p.ti, .int .i64 p.so, .slice ca p.cl.length cc, .bool p.ex, .int .i64 p.pr, .string p.en, .string p.py, .int .i64 p.pa] 41))) := HM5.out.below Hrm'.out ((Below.refl _ _).alloc (Nat.le_refl _) _)
                have Hz1 : Hid (ρ' W5.heap.size = 0) := L2.out.hi _ hs1
                have HA6 : Hid ((W5.alloc (.cells #[.bool p.mrk, .int .i64 p.ty, .int .i64 p.nu, .int .i64 p.ti, .int .i64 p.so, .slice ca p.cl.length cc, .bool p.ex, .int .i64 p.pr, .string p.en, .string p.py, .int .i64 p.pa] 41)).ownsRow 0 152 12 (.slice aa al ac) al (x.all.flatMap cRe)) := World.ownsRow.alloc HA5.out _
                have Hvl : Hid (∀ b, (Value.slice va out.length vc).ownBlock = some b → b < W5.heap.size) := fun b hb => Nat.lt_of_lt_of_le (L4.out.lt b hb).2 hs1
                have hgn : g ≠ W5.heap.size := by omega
                have hsn : s0 ≠ W5.heap.size := by omega
                generalize W5.alloc (.cells #[.bool p.mrk, .int .i64 p.ty, .int .i64 p.nu, .int .i64 p.ti, .int .i64 p.so, .slice ca p.cl.length cc, .bool p.ex, .int .i64 p.pr, .string p.en, .string p.py, .int .i64 p.pa] 41) = W6 at *
                clear HM5 HA5
                generalize W5.heap.size = s1 at *
                have HT1 : Hid (∀ b, b = s1 → (ρ' b ≠ 1 ∧ ρ' b ≠ 2 ∧ ρ' b ≠ 3) ∧ (b < wr.heap.size → ρ' b = 1000 + x.id.toNat) ∧ b ≠ s0 ∧ (Value.slice va out.length vc).ownBlock ≠ some b) := fun b hb => by
                  subst hb
                  have hz := Hz1.out
                  exact ⟨by omega, fun e => by omega, fun e => hsn e.symm, fun e => by have := Hvl.out b e; omega⟩
                have HAN : Hid (∀ b, (Value.slice aa al ac).ownBlock = some b → ¬ b = s1) := fun b hb e => by have h1 := HavR.out b hb; have h2 := Hz1.out; rw [e] at h1; omega
                have hw6 : IntKind.i64.wrap (p.nu + sh) = p.nu + sh := i64_id _ (by omega) (by omega)
                have HS6 : Two ⟨s0, 2, none⟩ ⟨g, q * 11 + 9, none⟩ (.int .i64 p.nu) (.int .i64 sh) W6 := ⟨HM6.out.p.k 2 _ rfl, (HM6.out.wc hqR).1 9 _ rfl⟩
                refine wp_region_noPanic ?_
                refine wp_region_held_drew (S := Two ⟨s0, 2, none⟩ ⟨g, q * 11 + 9, none⟩ (.int .i64 p.nu) (.int .i64 sh)) (by kernel_rfl) HS6 (fun hHeld => ?_)
                refine tkH 0 ?_ hHeld ?_ ?_; rotate_left
                · ((intro W hSw; obtain ⟨hS0, hS1⟩ := hSw; go_simp) <;> with_reducible rfl)
                refine tkH 1 ?_ hHeld ?_ ?_; rotate_left
                · ((intro W hSw; obtain ⟨hS0, hS1⟩ := hSw; go_simp) <;> with_reducible rfl)
                refine tkH 2 ?_ hHeld ?_ ?_; rotate_left
                · ((intro W hSw; obtain ⟨hS0, hS1⟩ := hSw; go_simp) <;> with_reducible rfl)
                refine tkH 3 ?_ hHeld ?_ ?_; rotate_left
                · ((intro W hSw; obtain ⟨hS0, hS1⟩ := hSw; go_simp) <;> with_reducible rfl)
                refine tkH 4 ?_ hHeld ?_ ?_; rotate_left
                · ((intro W hSw; obtain ⟨hS0, hS1⟩ := hSw; go_simp) <;> with_reducible rfl)
                refine tkH 5 ?_ hHeld ?_ ?_; rotate_left
                · ((intro W hSw; obtain ⟨hS0, hS1⟩ := hSw; go_simp) <;> with_reducible rfl)
                refine tkH 6 ?_ hHeld ?_ ?_; rotate_left
                · ((intro W hSw; obtain ⟨hS0, hS1⟩ := hSw; go_simp) <;> with_reducible rfl)
                refine wpAnyH_ready (rs := [7]) (by kernel_rfl) (by simp) ?_
                refine AllReadyH.cons rfl (fun K hK => ?_) AllReadyH.nil
                go_simp
                refine (refRound_any _ _).mono ?_
                rintro e' w4 ⟨rfl, hw4⟩
                rw [hw4]
                clear hw4
                go_simp
                refine hK.out _ _ hHeld (fun hHeld => ?_)
                clear hK K
                try simp only [Act.put]
                try simp only [List.getElem_toArray]
                try simp only [List.getElem_cons_succ]
                try simp only [List.getElem_cons_zero]
                try simp only [List.setIfInBounds_toArray]
                try simp only [List.set_cons_succ]
                try simp only [List.set_cons_zero]
                refine tkH 8 ?_ hHeld ?_ ?_; rotate_left
                · ((intro W hSw; obtain ⟨hS0, hS1⟩ := hSw; go_simp) <;> with_reducible rfl)
                have P6d := HY6.out.below (Below.refl _ _).drew
                have y2 := P6d.k 2 _ rfl
                have yff := P6d.f
                refine wpAnyH_ready (rs := [9]) (by kernel_rfl) (by simp) ?_
                refine AllReadyH.cons rfl (fun K hK => ?_) AllReadyH.nil
                go_simp
                have cs1 : Chg (fun b => b = s1) W6 (W6.setCell ⟨s1, 2, none⟩ (.int .i64 ((p.nu + sh) % 65536))) := (Chg.refl (fun b => b = s1) _).setCell ⟨s1, 2, none⟩ (.inl rfl) _
                refine hK.out _ _ (Two.chg hHeld ((Chg.refl (fun b => b = s1) _).setCell ⟨s1, 2, none⟩ (.inl rfl) _) hsn hgn) (fun hHeld => ?_)
                clear hK K
                refine wpAnyH_done (by kernel_rfl) ?_ _
                refine NoPanic.normal ?_
                have HY7 : Hid (PxAt s1 ((W6.setCell ⟨s1, 2, none⟩ (.int .i64 ((p.nu + sh) % 65536))).drew) ⟨p.mrk, p.ex, p.ty, (p.nu + sh) % 65536, p.ti, p.so, p.pr, p.pa, p.cl, p.en, p.py⟩ (.slice ca p.cl.length cc)) := (HY6.out.set (x' := ⟨p.mrk, p.ex, p.ty, (p.nu + sh) % 65536, p.ti, p.so, p.pr, p.pa, p.cl, p.en, p.py⟩) 2 (.int .i64 ((p.nu + sh) % 65536)) rfl).below (Below.refl _ _).drew
                have HM7 : Hid (PMd w wr ρ' rb s0 g wc q R' (.slice (some ⟨sg, 0, none⟩) R.sds.length scap) (.slice ca p.cl.length cc) (.slice va out.length vc) x sh p out ((W6.setCell ⟨s1, 2, none⟩ (.int .i64 ((p.nu + sh) % 65536))).drew)) := (HM6.out.chg Hrm'.out cs1 HT1.out).below Hrm'.out (Below.refl _ _).drew
                have HA7 : Hid (((W6.setCell ⟨s1, 2, none⟩ (.int .i64 ((p.nu + sh) % 65536))).drew).ownsRow 0 152 12 (.slice aa al ac) al (x.all.flatMap cRe)) := World.ownsRow.drew (rowA_chg cs1 HA6.out HAN.out)
                clear P6d y2 yff cs1 HY6 HM6 HA6 HS6 hHeld
                generalize (W6.setCell ⟨s1, 2, none⟩ (.int .i64 ((p.nu + sh) % 65536))).drew = W7 at *
                generalize hnu : (p.nu + sh) % 65536 = nu' at *
                have Hnu := Pk.hid hnu
                clear hnu
                have u4 : W7.cell? ⟨s1, 4, none⟩ = some (.int .i64 p.so) := HY7.out.k 4 _ rfl
                have uf := HY7.out.f
                have u2 : W7.cell? ⟨g, q * 11 + 2, none⟩ = some (.int .i64 x.pl.source) := (HM7.out.wc hqR).1 2 _ rfl
                have HY8 : Hid (PxAt s1 (W7.setCell ⟨s1, 4, none⟩ (.int .i64 x.pl.source)) ⟨p.mrk, p.ex, p.ty, nu', p.ti, x.pl.source, p.pr, p.pa, p.cl, p.en, p.py⟩ (.slice ca p.cl.length cc)) := HY7.out.set 4 _ rfl
                have HM8 : Hid (PMd w wr ρ' rb s0 g wc q R' (.slice (some ⟨sg, 0, none⟩) R.sds.length scap) (.slice ca p.cl.length cc) (.slice va out.length vc) x sh p out (W7.setCell ⟨s1, 4, none⟩ (.int .i64 x.pl.source))) := HM7.out.chg Hrm'.out ((Chg.refl (fun b => b = s1) _).setCell ⟨s1, 4, none⟩ (.inl rfl) _) HT1.out
                have u5 : (W7.setCell ⟨s1, 4, none⟩ (.int .i64 x.pl.source)).cell? ⟨g, q * 11 + 4, none⟩ = some (.int .i64 x.pl.ty) := (HM8.out.wc hqR).1 4 _ rfl
                have u6 : (W7.setCell ⟨s1, 4, none⟩ (.int .i64 x.pl.source)).cell? ⟨s1, 1, none⟩ = some (.int .i64 p.ty) := HY8.out.k 1 _ rfl
                have HY9 : Hid (PxAt s1 ((W7.setCell ⟨s1, 4, none⟩ (.int .i64 x.pl.source)).setCell ⟨s1, 1, none⟩ (.int .i64 x.pl.ty)) ⟨p.mrk, p.ex, x.pl.ty, nu', p.ti, x.pl.source, p.pr, p.pa, p.cl, p.en, p.py⟩ (.slice ca p.cl.length cc)) := HY8.out.set 1 _ rfl
                have HM9 : Hid (PMd w wr ρ' rb s0 g wc q R' (.slice (some ⟨sg, 0, none⟩) R.sds.length scap) (.slice ca p.cl.length cc) (.slice va out.length vc) x sh p out ((W7.setCell ⟨s1, 4, none⟩ (.int .i64 x.pl.source)).setCell ⟨s1, 1, none⟩ (.int .i64 x.pl.ty))) := HM8.out.chg Hrm'.out ((Chg.refl (fun b => b = s1) _).setCell ⟨s1, 1, none⟩ (.inl rfl) _) HT1.out
                have HA9 : Hid (((W7.setCell ⟨s1, 4, none⟩ (.int .i64 x.pl.source)).setCell ⟨s1, 1, none⟩ (.int .i64 x.pl.ty)).ownsRow 0 152 12 (.slice aa al ac) al (x.all.flatMap cRe)) := rowA_chg ((Chg.refl (fun b => b = s1) _).setCell ⟨s1, 1, none⟩ (.inl rfl) _) (rowA_chg ((Chg.refl (fun b => b = s1) _).setCell ⟨s1, 4, none⟩ (.inl rfl) _) HA7.out HAN.out) HAN.out
                go_simp
                go_wp2
                clear u4 uf u2 u5 u6 HY7 HM7 HY8 HM8 HA7
                generalize (W7.setCell ⟨s1, 4, none⟩ (.int .i64 x.pl.source)).setCell ⟨s1, 1, none⟩ (.int .i64 x.pl.ty) = W9 at *
                have Hz1' : Hid (ρ' s1 = 0) := Hz1.out
                have c9 : W9.cell? ⟨g, q * 11 + 8, none⟩ = some (.slice aa al ac) := by
                  have h1 := (HM9.out.wc hqR).1 8 _ rfl
                  rw [← Hav.out]
                  exact h1
                have HS9 : PxS s1 ⟨p.mrk, p.ex, x.pl.ty, nu', p.ti, x.pl.source, p.pr, p.pa, p.cl, p.en, p.py⟩ (.slice ca p.cl.length cc) W9 := HY9.out.toS
                have c9f := (HM9.out.wc hqR).2.1
                have hg9 : g < W9.heap.size := (HM9.out.wc hqR).2.2
                have hgn9 : g ≠ W9.heap.size := by omega
                have hs9 : wr.heap.size ≤ W9.heap.size := HM9.out.m.c.size
                have hs19 : s1 < W9.heap.size := HY9.out.lt
                refine wp_region_noPanic ?_
                refine wp_region_held_drew (S := PxS s1 ⟨p.mrk, p.ex, x.pl.ty, nu', p.ti, x.pl.source, p.pr, p.pa, p.cl, p.en, p.py⟩ (.slice ca p.cl.length cc)) (by kernel_rfl) HS9 (fun hHeld => ?_)
                refine tkH 0 ?_ hHeld ?_ ?_; rotate_left
                · ((intro W hSw; obtain ⟨hS0, hS1, hS2, hS3, hS4, hS5, hS6, hS7, hS8, hS9, hS10⟩ := hSw; go_simp) <;> with_reducible rfl)
                refine tkH 1 ?_ hHeld ?_ ?_; rotate_left
                · ((intro W hSw; obtain ⟨hS0, hS1, hS2, hS3, hS4, hS5, hS6, hS7, hS8, hS9, hS10⟩ := hSw; go_simp) <;> with_reducible rfl)
                refine tkH 2 ?_ hHeld ?_ ?_; rotate_left
                · ((intro W hSw; obtain ⟨hS0, hS1, hS2, hS3, hS4, hS5, hS6, hS7, hS8, hS9, hS10⟩ := hSw; go_simp) <;> with_reducible rfl)
                refine tkH 3 ?_ hHeld ?_ ?_; rotate_left
                · ((intro W hSw; obtain ⟨hS0, hS1, hS2, hS3, hS4, hS5, hS6, hS7, hS8, hS9, hS10⟩ := hSw; go_simp) <;> with_reducible rfl)
                refine tkH 5 ?_ hHeld ?_ ?_; rotate_left
                · ((intro W hSw; obtain ⟨hS0, hS1, hS2, hS3, hS4, hS5, hS6, hS7, hS8, hS9, hS10⟩ := hSw; go_simp) <;> with_reducible rfl)
                refine tkH 6 ?_ hHeld ?_ ?_; rotate_left
                · ((intro W hSw; obtain ⟨hS0, hS1, hS2, hS3, hS4, hS5, hS6, hS7, hS8, hS9, hS10⟩ := hSw; go_simp) <;> with_reducible rfl)
                refine wpAnyH_ready (rs := [4, 7]) (by kernel_rfl) (by simp) ?_
                refine AllReadyH.cons rfl (fun K hK => ?_) (AllReadyH.cons rfl (fun K hK => ?_) AllReadyH.nil)
                · go_simp
                  refine hK.out _ _ hHeld (fun hHeld => ?_)
                  clear hK K
                  try simp only [Act.put]
                  try simp only [List.getElem_toArray]
                  try simp only [List.getElem_cons_succ]
                  try simp only [List.getElem_cons_zero]
                  try simp only [List.setIfInBounds_toArray]
                  try simp only [List.set_cons_succ]
                  try simp only [List.set_cons_zero]
                  refine wpAnyH_ready (rs := [7]) (by kernel_rfl) (by simp) ?_
                  refine AllReadyH.cons rfl (fun K hK => ?_) AllReadyH.nil
                  go_simp
                  refine hK.out _ _ ((HY9.out.below ((Below.refl _ _).alloc (Nat.le_refl _) _)).toS) (fun hHeld => ?_)
                  clear hK K
                  try simp only [Act.put]
                  try simp only [List.getElem_toArray]
                  try simp only [List.getElem_cons_succ]
                  try simp only [List.getElem_cons_zero]
                  try simp only [List.setIfInBounds_toArray]
                  try simp only [List.set_cons_succ]
                  try simp only [List.set_cons_zero]
                  refine wpAnyH_ready (rs := [8]) (by kernel_rfl) (by simp) ?_
                  refine AllReadyH.cons rfl (fun K hK => ?_) AllReadyH.nil
                  rw [if_pos (by rfl)]
                  refine wp_append_at (.tmp 132) (.tmp 135) 97 rfl 0 152 i0 _ 12 128 Tryz.underlying97 Hi.out.1 Hi.out.2.1 Hi.out.2.2.1 Hi.out.2.2.2 rfl (by decide) (.slice aa al ac) al (x.all.flatMap cRe) (by rfl) (World.ownsRow.drew (World.ownsRow.alloc HA9.out _)) _ 1 1 [.bool p.mrk, .int .i64 x.pl.ty, .int .i64 nu', .int .i64 p.ti, .int .i64 x.pl.source, .slice ca p.cl.length cc, .bool p.ex, .int .i64 p.pr, .string p.en, .string p.py, .int .i64 p.pa, .int .i64 (-1)] (by rfl) rfl ?_ ?_ (by unfold maxLen; omega) (by omega) (Nat.zero_le _) ?_
                  · exact cells_new _ [.bool p.mrk, .int .i64 x.pl.ty, .int .i64 nu', .int .i64 p.ti, .int .i64 x.pl.source, .slice ca p.cl.length cc, .bool p.ex, .int .i64 p.pr, .string p.en, .string p.py, .int .i64 p.pa, .int .i64 (-1)] _
                  · intro u hu
                    simp at hu
                    rcases hu with rfl | rfl | rfl | rfl | rfl | rfl | rfl | rfl | rfl | rfl | rfl | rfl <;> rfl
                  intro v' wa hown' hgrow hob
                  have hca : Chg (fun b => (Value.slice aa al ac).ownBlock = some b) W9 wa := Chg.ofGrown (((World.grownBy_alloc _ _ _).trans (World.grownBy_drewX _ _)).trans hgrow)
                  obtain ⟨a3, c3, rfl⟩ := rowA_shape hown'
                  have hPa : PMd w wr ρ' rb s0 g wc q R' (.slice (some ⟨sg, 0, none⟩) R.sds.length scap) (.slice ca p.cl.length cc) (.slice va out.length vc) x sh p out wa := HM9.out.chg Hrm'.out hca HavT.out
                  have hYa : PxAt s1 wa ⟨p.mrk, p.ex, x.pl.ty, nu', p.ti, x.pl.source, p.pr, p.pa, p.cl, p.en, p.py⟩ (.slice ca p.cl.length cc) := HY9.out.chg hca (fun e => by have h1 := HavR.out s1 e; have h2 := Hz1'.out; omega)
                  obtain ⟨wcs, wfs, wgl⟩ := hPa.wc hqR
                  have z8 : wa.cell? ⟨g, q * 11 + 8, none⟩ = some (.slice aa al ac) := by
                    have h1 := wcs 8 _ rfl
                    rw [← Hav.out]
                    exact h1
                  have HD : Hid (∃ ρ2, RdAt (wa.setCell ⟨g, q * 11 + 8, none⟩ (.slice a3 (al + 1) c3)) ρ2 rb { R' with wns := R'.wns.set q (rPassW x p (.slice ca p.cl.length cc) (.slice a3 (al + 1) c3)) } (.slice (some ⟨sg, 0, none⟩) R.sds.length scap) (.slice (some ⟨g, 0, none⟩) R'.wns.length wc) ∧ RMv wr ρ' (wa.setCell ⟨g, q * 11 + 8, none⟩ (.slice a3 (al + 1) c3)) ρ2 ∧ (wa.setCell ⟨g, q * 11 + 8, none⟩ (.slice a3 (al + 1) c3)).ownsRow w.heap.size 9 1 (.slice va out.length vc) out.length (out.map Value.string) ∧ (∀ b, (Value.slice va out.length vc).ownBlock = some b → ρ2 b = 0) ∧ PxAt s0 (wa.setCell ⟨g, q * 11 + 8, none⟩ (.slice a3 (al + 1) c3)) p (.slice ca p.cl.length cc) ∧ IsC (fun b => ρ2 b = 4) (wa.setCell ⟨g, q * 11 + 8, none⟩ (.slice a3 (al + 1) c3)) (.slice ca p.cl.length cc) p.cl ∧ ρ2 s0 = 0 ∧ PxAt s1 (wa.setCell ⟨g, q * 11 + 8, none⟩ (.slice a3 (al + 1) c3)) ⟨p.mrk, p.ex, x.pl.ty, nu', p.ti, x.pl.source, p.pr, p.pa, p.cl, p.en, p.py⟩ (.slice ca p.cl.length cc) ∧ ρ2 s1 = 0) := by
                    refine hPa.done HL2'.out Hx.out Hsh.out L8.out L6.out.lt (fun b hb => ⟨L5.out b hb, (L4.out.lt b hb).2⟩) L7.out ?_ (fun b hb => ?_) hYa hs1 (fun e => ?_)
                    · rw [Hal.out, List.flatMap_append]
                      have e : ([(⟨rPassX x p, (.slice ca p.cl.length cc), -1⟩ : Re)] : List Re).flatMap cRe = [.bool p.mrk, .int .i64 x.pl.ty, .int .i64 nu', .int .i64 p.ti, .int .i64 x.pl.source, .slice ca p.cl.length cc, .bool p.ex, .int .i64 p.pr, .string p.en, .string p.py, .int .i64 p.pa, .int .i64 (-1)] := by
                        rw [← Hnu.out, ← Hsh.out]
                        simp [cRe, cellsP, rPassX]
                      rw [e]
                      exact hown'
                    · rcases hob with o | o
                      · exact .inl (HavR.out b (o ▸ hb))
                      · refine .inr ?_
                        rw [o, Option.some.injEq] at hb
                        rw [← hb]
                        simp
                        omega
                    · rcases hob with o | o
                      · have h1 := HavR.out s1 (o ▸ e); have h2 := Hz1'.out; omega
                      · rw [o, Option.some.injEq] at e
                        simp at e
                        omega
                  refine hK.out _ _ hYa.toS (fun hHeld => ?_)
                  clear hK K hown' hgrow hob hca hPa
                  try simp only [Act.put]
                  try simp only [List.getElem_toArray]
                  try simp only [List.getElem_cons_succ]
                  try simp only [List.getElem_cons_zero]
                  try simp only [List.setIfInBounds_toArray]
                  try simp only [List.set_cons_succ]
                  try simp only [List.set_cons_zero]
                  refine tkH 9 ?_ hHeld ?_ ?_; rotate_left
                  · ((intro W hSw; go_simp) <;> with_reducible rfl)
                  refine tkH 10 ?_ hHeld ?_ ?_; rotate_left
                  · ((intro W hSw; go_simp) <;> with_reducible rfl)
                  refine wpAnyH_ready (rs := [11]) (by kernel_rfl) (by simp) ?_
                  refine AllReadyH.cons rfl (fun K hK => ?_) AllReadyH.nil
                  go_simp
                  refine hK.out _ _ (by obtain ⟨_, _, _, _, _, _, _, _, d, _⟩ := HD.out; exact d.toS) (fun hHeld => ?_)
                  clear hK K
                  refine wpAnyH_done (by kernel_rfl) ?_ _
                  refine NoPanic.normal ?_
                  clear z8 wcs wfs hYa hHeld wgl
                  generalize wa.setCell ⟨g, q * 11 + 8, none⟩ (.slice a3 (al + 1) c3) = Wb at *
                  obtain ⟨ρ2, d1, d2, d3, d4, d5, d6, d7, d8, d9⟩ := HD.out
                  have D1 := Pk.hid d1
                  have D2 := Pk.hid d2
                  have D3 := Pk.hid d3
                  have D4 := Pk.hid d4
                  have D5 := Pk.hid d5
                  have D6 := Pk.hid d6
                  have D7 := Pk.hid d7
                  have b0 : Wb.cell? ⟨s1, 0, none⟩ = some (.bool p.mrk) := d8.k 0 _ rfl
                  have b1 : Wb.cell? ⟨s1, 1, none⟩ = some (.int .i64 x.pl.ty) := d8.k 1 _ rfl
                  have b2 : Wb.cell? ⟨s1, 2, none⟩ = some (.int .i64 nu') := d8.k 2 _ rfl
                  have b3 : Wb.cell? ⟨s1, 3, none⟩ = some (.int .i64 p.ti) := d8.k 3 _ rfl
                  have b4 : Wb.cell? ⟨s1, 4, none⟩ = some (.int .i64 x.pl.source) := d8.k 4 _ rfl
                  have b5 : Wb.cell? ⟨s1, 5, none⟩ = some (.slice ca p.cl.length cc) := d8.k 5 _ rfl
                  have b6 : Wb.cell? ⟨s1, 6, none⟩ = some (.bool p.ex) := d8.k 6 _ rfl
                  have b7 : Wb.cell? ⟨s1, 7, none⟩ = some (.int .i64 p.pr) := d8.k 7 _ rfl
                  have b8 : Wb.cell? ⟨s1, 8, none⟩ = some (.string p.en) := d8.k 8 _ rfl
                  have b9 : Wb.cell? ⟨s1, 9, none⟩ = some (.string p.py) := d8.k 9 _ rfl
                  have b10 : Wb.cell? ⟨s1, 10, none⟩ = some (.int .i64 p.pa) := d8.k 10 _ rfl
                  have hszb : w.heap.size ≤ Wb.heap.size := Nat.le_trans L3.out.2.size d2.2.size
                  clear d1 d2 d3 d4 d5 d6 d7 d8 d9 HD HM9 HY9 HA9
                  go_wp2_with fail
                  refine (refTell_any p.mrk p.ex x.pl.ty nu' p.ti x.pl.source p.pr p.pa (.slice ca p.cl.length cc) p.cl p.en p.py _ _ (Nat.le_refl _) D6.out.isInts (by omega) (by omega) (by omega)).mono ?_
                  rintro e' wc2 ⟨rfl, hbt⟩
                  have HT : Hid ((tellX (rPassX x p)).1 = (tellR p.mrk p.ex x.pl.ty nu' p.ti x.pl.source p.pr p.pa p.cl p.en p.py).1) := by
                    show _ = _
                    rw [← Hnu.out, ← Hsh.out]
                    rfl
                  have HN : Hid (RPass p (.slice ca p.cl.length cc) R4 (q + 1) { R' with wns := R'.wns.set q (rPassW x p (.slice ca p.cl.length cc) (.slice a3 (al + 1) c3)) } (out ++ [(tellR p.mrk p.ex x.pl.ty nu' p.ti x.pl.source p.pr p.pa p.cl p.en p.py).1])) := by
                    rw [← HT.out]
                    exact L1.out.pass _ Hx.out Hof.out
                  generalize tellR p.mrk p.ex x.pl.ty nu' p.ti x.pl.source p.pr p.pa p.cl p.en p.py = TR at *
                  obtain ⟨t1, t2⟩ := TR
                  simp only at HN
                  have G1 : Hid (RdAt wc2 ρ2 rb { R' with wns := R'.wns.set q (rPassW x p (.slice ca p.cl.length cc) (.slice a3 (al + 1) c3)) } (.slice (some ⟨sg, 0, none⟩) R.sds.length scap) (.slice (some ⟨g, 0, none⟩) R'.wns.length wc)) := D1.out.below hbt
                  have G2 : Hid (RMv wr ρ' wc2 ρ2) := D2.out.trans (RMv.below hbt)
                  have G3 : Hid (wc2.ownsRow w.heap.size 9 1 (.slice va out.length vc) out.length (out.map Value.string)) := rowA_chg (T := fun _ => False) (Chg.ofBelow hbt) D3.out (fun _ _ e => e)
                  have G5 : Hid (PxAt s0 wc2 p (.slice ca p.cl.length cc)) := D5.out.below hbt
                  have G6 : Hid (IsC (fun b => ρ2 b = 4) wc2 (.slice ca p.cl.length cc) p.cl) := D6.out.chg (T := fun _ => False) (Chg.ofBelow hbt) (fun _ _ e => e)
                  have hszc : w.heap.size ≤ wc2.heap.size := Nat.le_trans hszb hbt.size
                  have hol := L1.out.keeps.2.2.2.2.2
                  clear hbt b0 b1 b2 b3 b4 b5 b6 b7 b8 b9 b10 D1 D2 D3 D5 D6 HT
                  go_wp2_with (at_builtin; (
                    refine wpList_append_at rfl (.tmp 144) (.tmp 146) 32 rfl w.heap.size 9 iS _ 1 16 Tryz.underlying32 HiS.out rfl (by decide) _ out.length (out.map Value.string) rfl (World.ownsRow.alloc G3.out _) _ 1 1 [.string t1] rfl rfl (cell_one_at _ _ rfl _ _) ?_ (by unfold maxLen; omega) (by omega) (by simp; omega) ?_
                    · intro u hu; simp at hu; subst hu; rfl
                    intro v' wz hown' hgrow hob
                    refine stop_here ?_))
                  refine hid_in ?_
                  have cz : Chg (fun y => (Value.slice va out.length vc).ownBlock = some y) wc2 wz := (Chg.ofBelow ((Below.refl _ _).alloc (Nat.le_refl _) _)).trans (Chg.ofGrown hgrow) (fun _ _ e => e)
                  have HL : Hid (PLoop w ρ rb s0 (.slice (some ⟨sg, 0, none⟩) R.sds.length scap) (.slice (some ⟨g, 0, none⟩) R.wns.length wc) (.slice ca p.cl.length cc) p R4 (q + 1) v' wz) := by
                    have g1 := G1.out.chg cz (fun b e => D4.out b e)
                    rw [Hwl.out] at g1
                    refine ⟨_, _, ρ2, HN.out, g1, ?_, by rw [List.length_append, List.map_append]; exact hown', fun b hb => ?_, G5.out.chg cz (fun e => ?_), G6.out.chg cz (fun b hb e => ?_), D7.out, fun e => ?_⟩
                    · have h1 := L3.out.trans G2.out
                      exact ⟨h1.1, h1.2.trans cz (fun b hb e => absurd (G3.out.lt b e).1 (by omega))⟩
                    · rcases hob with o | o
                      · exact D4.out b (o ▸ hb)
                      · rw [o, Option.some.injEq] at hb
                        rw [← hb]
                        exact G1.out.hi _ (by simp)
                    · have h1 := L5.out s0 e
                      have h2 := (L4.out.lt s0 e).1
                      exact absurd e Hs0t.out
                    · have h1 := D4.out b e
                      omega
                    · rcases hob with o | o
                      · exact Hs0t.out (o ▸ e)
                      · rw [o, Option.some.injEq] at e
                        have h1 := G5.out.lt
                        simp at e
                        omega
                  obtain ⟨a9, c9, rfl⟩ := rowA_shape hown'
                  clear hown' hgrow hob cz
                  go_wp2
                  go_roundw
                  case rel => exact ⟨q + 1, by omega, by go_num, HL.out⟩
                  case measure => simp [intOf]; omega
                · go_simp
                  refine hK.out _ _ ((HY9.out.below ((Below.refl _ _).alloc (Nat.le_refl _) _)).toS) (fun hHeld => ?_)
                  clear hK K
                  try simp only [Act.put]
                  try simp only [List.getElem_toArray]
                  try simp only [List.getElem_cons_succ]
                  try simp only [List.getElem_cons_zero]
                  try simp only [List.setIfInBounds_toArray]
                  try simp only [List.set_cons_succ]
                  try simp only [List.set_cons_zero]
                  refine wpAnyH_ready (rs := [4]) (by kernel_rfl) (by simp) ?_
                  refine AllReadyH.cons rfl (fun K hK => ?_) AllReadyH.nil
                  go_simp
                  refine hK.out _ _ hHeld (fun hHeld => ?_)
                  clear hK K
                  try simp only [Act.put]
                  try simp only [List.getElem_toArray]
                  try simp only [List.getElem_cons_succ]
                  try simp only [List.getElem_cons_zero]
                  try simp only [List.setIfInBounds_toArray]
                  try simp only [List.set_cons_succ]
                  try simp only [List.set_cons_zero]
                  refine wpAnyH_ready (rs := [8]) (by kernel_rfl) (by simp) ?_
                  refine AllReadyH.cons rfl (fun K hK => ?_) AllReadyH.nil
                  rw [if_pos (by rfl)]
                  refine wp_append_at (.tmp 132) (.tmp 135) 97 rfl 0 152 i0 _ 12 128 Tryz.underlying97 Hi.out.1 Hi.out.2.1 Hi.out.2.2.1 Hi.out.2.2.2 rfl (by decide) (.slice aa al ac) al (x.all.flatMap cRe) (by rfl) (World.ownsRow.drew (World.ownsRow.alloc HA9.out _)) _ 1 1 [.bool p.mrk, .int .i64 x.pl.ty, .int .i64 nu', .int .i64 p.ti, .int .i64 x.pl.source, .slice ca p.cl.length cc, .bool p.ex, .int .i64 p.pr, .string p.en, .string p.py, .int .i64 p.pa, .int .i64 (-1)] (by rfl) rfl ?_ ?_ (by unfold maxLen; omega) (by omega) (Nat.zero_le _) ?_
                  · exact cells_new _ [.bool p.mrk, .int .i64 x.pl.ty, .int .i64 nu', .int .i64 p.ti, .int .i64 x.pl.source, .slice ca p.cl.length cc, .bool p.ex, .int .i64 p.pr, .string p.en, .string p.py, .int .i64 p.pa, .int .i64 (-1)] _
                  · intro u hu
                    simp at hu
                    rcases hu with rfl | rfl | rfl | rfl | rfl | rfl | rfl | rfl | rfl | rfl | rfl | rfl <;> rfl
                  intro v' wa hown' hgrow hob
                  have hca : Chg (fun b => (Value.slice aa al ac).ownBlock = some b) W9 wa := Chg.ofGrown (((World.grownBy_alloc _ _ _).trans (World.grownBy_drewX _ _)).trans hgrow)
                  obtain ⟨a3, c3, rfl⟩ := rowA_shape hown'
                  have hPa : PMd w wr ρ' rb s0 g wc q R' (.slice (some ⟨sg, 0, none⟩) R.sds.length scap) (.slice ca p.cl.length cc) (.slice va out.length vc) x sh p out wa := HM9.out.chg Hrm'.out hca HavT.out
                  have hYa : PxAt s1 wa ⟨p.mrk, p.ex, x.pl.ty, nu', p.ti, x.pl.source, p.pr, p.pa, p.cl, p.en, p.py⟩ (.slice ca p.cl.length cc) := HY9.out.chg hca (fun e => by have h1 := HavR.out s1 e; have h2 := Hz1'.out; omega)
                  obtain ⟨wcs, wfs, wgl⟩ := hPa.wc hqR
                  have z8 : wa.cell? ⟨g, q * 11 + 8, none⟩ = some (.slice aa al ac) := by
                    have h1 := wcs 8 _ rfl
                    rw [← Hav.out]
                    exact h1
                  have HD : Hid (∃ ρ2, RdAt (wa.setCell ⟨g, q * 11 + 8, none⟩ (.slice a3 (al + 1) c3)) ρ2 rb { R' with wns := R'.wns.set q (rPassW x p (.slice ca p.cl.length cc) (.slice a3 (al + 1) c3)) } (.slice (some ⟨sg, 0, none⟩) R.sds.length scap) (.slice (some ⟨g, 0, none⟩) R'.wns.length wc) ∧ RMv wr ρ' (wa.setCell ⟨g, q * 11 + 8, none⟩ (.slice a3 (al + 1) c3)) ρ2 ∧ (wa.setCell ⟨g, q * 11 + 8, none⟩ (.slice a3 (al + 1) c3)).ownsRow w.heap.size 9 1 (.slice va out.length vc) out.length (out.map Value.string) ∧ (∀ b, (Value.slice va out.length vc).ownBlock = some b → ρ2 b = 0) ∧ PxAt s0 (wa.setCell ⟨g, q * 11 + 8, none⟩ (.slice a3 (al + 1) c3)) p (.slice ca p.cl.length cc) ∧ IsC (fun b => ρ2 b = 4) (wa.setCell ⟨g, q * 11 + 8, none⟩ (.slice a3 (al + 1) c3)) (.slice ca p.cl.length cc) p.cl ∧ ρ2 s0 = 0 ∧ PxAt s1 (wa.setCell ⟨g, q * 11 + 8, none⟩ (.slice a3 (al + 1) c3)) ⟨p.mrk, p.ex, x.pl.ty, nu', p.ti, x.pl.source, p.pr, p.pa, p.cl, p.en, p.py⟩ (.slice ca p.cl.length cc) ∧ ρ2 s1 = 0) := by
                    refine hPa.done HL2'.out Hx.out Hsh.out L8.out L6.out.lt (fun b hb => ⟨L5.out b hb, (L4.out.lt b hb).2⟩) L7.out ?_ (fun b hb => ?_) hYa hs1 (fun e => ?_)
                    · rw [Hal.out, List.flatMap_append]
                      have e : ([(⟨rPassX x p, (.slice ca p.cl.length cc), -1⟩ : Re)] : List Re).flatMap cRe = [.bool p.mrk, .int .i64 x.pl.ty, .int .i64 nu', .int .i64 p.ti, .int .i64 x.pl.source, .slice ca p.cl.length cc, .bool p.ex, .int .i64 p.pr, .string p.en, .string p.py, .int .i64 p.pa, .int .i64 (-1)] := by
                        rw [← Hnu.out, ← Hsh.out]
                        simp [cRe, cellsP, rPassX]
                      rw [e]
                      exact hown'
                    · rcases hob with o | o
                      · exact .inl (HavR.out b (o ▸ hb))
                      · refine .inr ?_
                        rw [o, Option.some.injEq] at hb
                        rw [← hb]
                        simp
                        omega
                    · rcases hob with o | o
                      · have h1 := HavR.out s1 (o ▸ e); have h2 := Hz1'.out; omega
                      · rw [o, Option.some.injEq] at e
                        simp at e
                        omega
                  refine hK.out _ _ hYa.toS (fun hHeld => ?_)
                  clear hK K hown' hgrow hob hca hPa
                  try simp only [Act.put]
                  try simp only [List.getElem_toArray]
                  try simp only [List.getElem_cons_succ]
                  try simp only [List.getElem_cons_zero]
                  try simp only [List.setIfInBounds_toArray]
                  try simp only [List.set_cons_succ]
                  try simp only [List.set_cons_zero]
                  refine tkH 9 ?_ hHeld ?_ ?_; rotate_left
                  · ((intro W hSw; go_simp) <;> with_reducible rfl)
                  refine tkH 10 ?_ hHeld ?_ ?_; rotate_left
                  · ((intro W hSw; go_simp) <;> with_reducible rfl)
                  refine wpAnyH_ready (rs := [11]) (by kernel_rfl) (by simp) ?_
                  refine AllReadyH.cons rfl (fun K hK => ?_) AllReadyH.nil
                  go_simp
                  refine hK.out _ _ (by obtain ⟨_, _, _, _, _, _, _, _, d, _⟩ := HD.out; exact d.toS) (fun hHeld => ?_)
                  clear hK K
                  refine wpAnyH_done (by kernel_rfl) ?_ _
                  refine NoPanic.normal ?_
                  clear z8 wcs wfs hYa hHeld wgl
                  generalize wa.setCell ⟨g, q * 11 + 8, none⟩ (.slice a3 (al + 1) c3) = Wb at *
                  obtain ⟨ρ2, d1, d2, d3, d4, d5, d6, d7, d8, d9⟩ := HD.out
                  have D1 := Pk.hid d1
                  have D2 := Pk.hid d2
                  have D3 := Pk.hid d3
                  have D4 := Pk.hid d4
                  have D5 := Pk.hid d5
                  have D6 := Pk.hid d6
                  have D7 := Pk.hid d7
                  have b0 : Wb.cell? ⟨s1, 0, none⟩ = some (.bool p.mrk) := d8.k 0 _ rfl
                  have b1 : Wb.cell? ⟨s1, 1, none⟩ = some (.int .i64 x.pl.ty) := d8.k 1 _ rfl
                  have b2 : Wb.cell? ⟨s1, 2, none⟩ = some (.int .i64 nu') := d8.k 2 _ rfl
                  have b3 : Wb.cell? ⟨s1, 3, none⟩ = some (.int .i64 p.ti) := d8.k 3 _ rfl
                  have b4 : Wb.cell? ⟨s1, 4, none⟩ = some (.int .i64 x.pl.source) := d8.k 4 _ rfl
                  have b5 : Wb.cell? ⟨s1, 5, none⟩ = some (.slice ca p.cl.length cc) := d8.k 5 _ rfl
                  have b6 : Wb.cell? ⟨s1, 6, none⟩ = some (.bool p.ex) := d8.k 6 _ rfl
                  have b7 : Wb.cell? ⟨s1, 7, none⟩ = some (.int .i64 p.pr) := d8.k 7 _ rfl
                  have b8 : Wb.cell? ⟨s1, 8, none⟩ = some (.string p.en) := d8.k 8 _ rfl
                  have b9 : Wb.cell? ⟨s1, 9, none⟩ = some (.string p.py) := d8.k 9 _ rfl
                  have b10 : Wb.cell? ⟨s1, 10, none⟩ = some (.int .i64 p.pa) := d8.k 10 _ rfl
                  have hszb : w.heap.size ≤ Wb.heap.size := Nat.le_trans L3.out.2.size d2.2.size
                  clear d1 d2 d3 d4 d5 d6 d7 d8 d9 HD HM9 HY9 HA9
                  go_wp2_with fail
                  refine (refTell_any p.mrk p.ex x.pl.ty nu' p.ti x.pl.source p.pr p.pa (.slice ca p.cl.length cc) p.cl p.en p.py _ _ (Nat.le_refl _) D6.out.isInts (by omega) (by omega) (by omega)).mono ?_
                  rintro e' wc2 ⟨rfl, hbt⟩
                  have HT : Hid ((tellX (rPassX x p)).1 = (tellR p.mrk p.ex x.pl.ty nu' p.ti x.pl.source p.pr p.pa p.cl p.en p.py).1) := by
                    show _ = _
                    rw [← Hnu.out, ← Hsh.out]
                    rfl
                  have HN : Hid (RPass p (.slice ca p.cl.length cc) R4 (q + 1) { R' with wns := R'.wns.set q (rPassW x p (.slice ca p.cl.length cc) (.slice a3 (al + 1) c3)) } (out ++ [(tellR p.mrk p.ex x.pl.ty nu' p.ti x.pl.source p.pr p.pa p.cl p.en p.py).1])) := by
                    rw [← HT.out]
                    exact L1.out.pass _ Hx.out Hof.out
                  generalize tellR p.mrk p.ex x.pl.ty nu' p.ti x.pl.source p.pr p.pa p.cl p.en p.py = TR at *
                  obtain ⟨t1, t2⟩ := TR
                  simp only at HN
                  have G1 : Hid (RdAt wc2 ρ2 rb { R' with wns := R'.wns.set q (rPassW x p (.slice ca p.cl.length cc) (.slice a3 (al + 1) c3)) } (.slice (some ⟨sg, 0, none⟩) R.sds.length scap) (.slice (some ⟨g, 0, none⟩) R'.wns.length wc)) := D1.out.below hbt
                  have G2 : Hid (RMv wr ρ' wc2 ρ2) := D2.out.trans (RMv.below hbt)
                  have G3 : Hid (wc2.ownsRow w.heap.size 9 1 (.slice va out.length vc) out.length (out.map Value.string)) := rowA_chg (T := fun _ => False) (Chg.ofBelow hbt) D3.out (fun _ _ e => e)
                  have G5 : Hid (PxAt s0 wc2 p (.slice ca p.cl.length cc)) := D5.out.below hbt
                  have G6 : Hid (IsC (fun b => ρ2 b = 4) wc2 (.slice ca p.cl.length cc) p.cl) := D6.out.chg (T := fun _ => False) (Chg.ofBelow hbt) (fun _ _ e => e)
                  have hszc : w.heap.size ≤ wc2.heap.size := Nat.le_trans hszb hbt.size
                  have hol := L1.out.keeps.2.2.2.2.2
                  clear hbt b0 b1 b2 b3 b4 b5 b6 b7 b8 b9 b10 D1 D2 D3 D5 D6 HT
                  go_wp2_with (at_builtin; (
                    refine wpList_append_at rfl (.tmp 144) (.tmp 146) 32 rfl w.heap.size 9 iS _ 1 16 Tryz.underlying32 HiS.out rfl (by decide) _ out.length (out.map Value.string) rfl (World.ownsRow.alloc G3.out _) _ 1 1 [.string t1] rfl rfl (cell_one_at _ _ rfl _ _) ?_ (by unfold maxLen; omega) (by omega) (by simp; omega) ?_
                    · intro u hu; simp at hu; subst hu; rfl
                    intro v' wz hown' hgrow hob
                    refine stop_here ?_))
                  refine hid_in ?_
                  have cz : Chg (fun y => (Value.slice va out.length vc).ownBlock = some y) wc2 wz := (Chg.ofBelow ((Below.refl _ _).alloc (Nat.le_refl _) _)).trans (Chg.ofGrown hgrow) (fun _ _ e => e)
                  have HL : Hid (PLoop w ρ rb s0 (.slice (some ⟨sg, 0, none⟩) R.sds.length scap) (.slice (some ⟨g, 0, none⟩) R.wns.length wc) (.slice ca p.cl.length cc) p R4 (q + 1) v' wz) := by
                    have g1 := G1.out.chg cz (fun b e => D4.out b e)
                    rw [Hwl.out] at g1
                    refine ⟨_, _, ρ2, HN.out, g1, ?_, by rw [List.length_append, List.map_append]; exact hown', fun b hb => ?_, G5.out.chg cz (fun e => ?_), G6.out.chg cz (fun b hb e => ?_), D7.out, fun e => ?_⟩
                    · have h1 := L3.out.trans G2.out
                      exact ⟨h1.1, h1.2.trans cz (fun b hb e => absurd (G3.out.lt b e).1 (by omega))⟩
                    · rcases hob with o | o
                      · exact D4.out b (o ▸ hb)
                      · rw [o, Option.some.injEq] at hb
                        rw [← hb]
                        exact G1.out.hi _ (by simp)
                    · have h1 := L5.out s0 e
                      have h2 := (L4.out.lt s0 e).1
                      exact absurd e Hs0t.out
                    · have h1 := D4.out b e
                      omega
                    · rcases hob with o | o
                      · exact Hs0t.out (o ▸ e)
                      · rw [o, Option.some.injEq] at e
                        have h1 := G5.out.lt
                        simp at e
                        omega
                  obtain ⟨a9, c9, rfl⟩ := rowA_shape hown'
                  clear hown' hgrow hob cz
                  go_wp2
                  go_roundw
                  case rel => exact ⟨q + 1, by omega, by go_num, HL.out⟩
                  case measure => simp [intOf]; omega
            · have hofb : (x.of_ != p.so) = true := by simp [hof]
              have HN : Hid (RPass p (.slice ca p.cl.length cc) R4 (q + 1) R' out) := L1.out.skip Hx.out hof
              clear hof
              go_wp2
              go_big_quiet (fail)
              go_wp2
              go_roundw
              case rel => exact ⟨q + 1, by omega, by go_num, ⟨R', out, ρ', HN.out, Hd.out _⟩⟩
              case measure => simp [intOf]; omega
          · have hqw' : ¬ (q : Int) < R.wns.length := by omega
            have hqe : q = R.wns.length := by omega
            have E : Hid (PK R' out 0) := E0.out _ _ (by rw [← hqe]; exact L1.out)
            have HE : Hid (PRel w ρ rb (.slice (some ⟨sg, 0, none⟩) R.sds.length scap) (.slice wa R.wns.length wc) R' out (.slice va out.length vc) wr) := ⟨ρ', L2.out, L3.out, L4.out, L5.out⟩
            clear hqe
            go_wp2
            go_ret2
            exact ⟨_, _, _, _, rfl, E.out, HE.out⟩

end Go.Proofs.YtdjhhnolcafkiaaGreat

/- menderlaw.sameNumbers: are two lists the same? -/
namespace Go.Proofs.YtdjhhnolcafkiaaGreat
open Go.RowKit Pk

theorem take_eq_succ {l1 l2 : List Int} {k : Nat} (h : l1.take k = l2.take k) (h1 : k < l1.length) (h2 : k < l2.length) (e : l1.getD k 0 = l2.getD k 0) : l1.take (k + 1) = l2.take (k + 1) := by
  rw [List.take_succ_eq_append_getElem h1, List.take_succ_eq_append_getElem h2, h]
  simp only [List.getD, List.getElem?_eq_getElem h1, List.getElem?_eq_getElem h2, Option.getD_some] at e
  rw [e]

set_option maxHeartbeats 1000000 in
theorem sameNumbers_any (B : Nat) (v1 v2 : Value) (l1 l2 : List Int) (w : World) (h1 : IsInts B w v1 l1) (h2 : IsInts B w v2 l2) (hl1 : l1.length ≤ 17592186044416) (_hl2 : l2.length ≤ 17592186044416) :
    Calls Tryz.prog 27 #[v1, v2] w fun e w' => e = .returned (.bool (decide (l1 = l2))) ∧ ∃ n, w' = w.drewN n := by
  obtain ⟨a1, c1, rfl, hc1⟩ := h1
  obtain ⟨a2, c2, rfl, hc2⟩ := h2
  have Hc1 : Hid (∀ j, j < l1.length → ∃ b off, a1 = some ⟨b, off, none⟩ ∧ b < B ∧ w.cell? ⟨b, off + j, none⟩ = some (.int .i64 (l1.getD j 0))) := hc1
  have Hc2 : Hid (∀ j, j < l2.length → ∃ b off, a2 = some ⟨b, off, none⟩ ∧ b < B ∧ w.cell? ⟨b, off + j, none⟩ = some (.int .i64 (l2.getD j 0))) := hc2
  clear hc1 hc2
  by_cases hll : l1.length = l2.length
  · have hne : ((l1.length : Int) != (l2.length : Int)) = false := by simp [hll]
    have Hll : Hid (l1.length = l2.length) := hll
    have hle : l2.length ≤ l1.length := by omega
    have hle' : l1.length ≤ l2.length := by omega
    clear hll
    go_enter Tryz.func27, Tryz.ntmps27
    go_wp2
    go_loopw [5] (fun i wr => ∃ k : Nat, k ≤ l1.length ∧ i = .int .i64 k ∧ l1.take k = l2.take k ∧ ∃ n, wr = w.drewN n) (fun i _ => l1.length - (intOf i).toNat)
    case atStart => exact ⟨0, Nat.zero_le _, rfl, by simp, 0, rfl⟩
    case round =>
      obtain ⟨k, hk, rfl, htk, n, rfl⟩ := hrel
      have Htk : Hid (l1.take k = l2.take k) := htk
      clear htk
      by_cases hlt : k < l1.length
      · obtain ⟨b1, o1, rfl, hb1, hx1⟩ := Hc1.out k hlt
        obtain ⟨b2, o2, rfl, hb2, hx2⟩ := Hc2.out k (by omega)
        obtain ⟨q1, hq1⟩ : ∃ q, l1.getD k 0 = q := ⟨_, rfl⟩
        obtain ⟨q2, hq2⟩ : ∃ q, l2.getD k 0 = q := ⟨_, rfl⟩
        rw [hq1] at hx1
        rw [hq2] at hx2
        have Hq1 : Hid (l1.getD k 0 = q1) := hq1
        have Hq2 : Hid (l2.getD k 0 = q2) := hq2
        clear hq1 hq2
        have hlt' : (k : Int) < l1.length := by omega
        have hlt2 : (k : Int) < l2.length := by omega
        by_cases hq : q1 = q2
        · have hqb : (q1 != q2) = false := by simp [hq]
          have Hq : Hid (q1 = q2) := hq
          clear hq
          go_wp2
          go_quiet (fail)
          go_wp2
          go_roundw
          case rel => exact ⟨k + 1, by omega, by go_num, take_eq_succ Htk.out hlt (by omega) (by rw [Hq1.out, Hq2.out, Hq.out]), _, rfl⟩
          case measure => simp [intOf]; omega
        · have hqb : (q1 != q2) = true := by simp [hq]
          have Hq : Hid (q1 ≠ q2) := hq
          clear hq
          go_wp2
          go_quiet (fail)
          go_wp2
          go_ret
          refine ⟨ret_bool (decide_eq_false ?_).symm, _, World.drewN_drewN _ _ _⟩
          intro e
          exact Hq.out (by rw [← Hq1.out, ← Hq2.out, e])
      · have hlt' : ¬ (k : Int) < l1.length := by omega
        go_wp2
        go_ret
        refine ⟨ret_bool (decide_eq_true ?_).symm, _, rfl⟩
        have h := Htk.out
        rwa [List.take_of_length_le (by omega), List.take_of_length_le (by omega)] at h
  · have hne : ((l1.length : Int) != (l2.length : Int)) = true := by simp; omega
    have Hll : Hid (l1.length ≠ l2.length) := hll
    clear hll
    go_enter Tryz.func27, Tryz.ntmps27
    go_wp2
    go_ret
    exact ⟨ret_bool (decide_eq_false (fun e => Hll.out (by rw [e]))).symm, 0, rfl⟩

end Go.Proofs.YtdjhhnolcafkiaaGreat
