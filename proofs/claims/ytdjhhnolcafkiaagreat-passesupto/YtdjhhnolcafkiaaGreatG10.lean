/- Packet. -/
import Derived.Test.YtdjhhnolcafkiaaGreatG01
import Derived.Test.YtdjhhnolcafkiaaGreatG08
import Derived.Test.YtdjhhnolcafkiaaGreatG05
import Derived.Test.YtdjhhnolcafkiaaGreatG02
import Derived.Test.YtdjhhnolcafkiaaGreatG06
namespace Go.Proofs.YtdjhhnolcafkiaaGreat
open Go.RowKit
namespace Pk
def TkS (mb B : Nat) (n now window : Int) (W : World) : Prop := W.cell? ⟨B, 2, none⟩ = some (.int .i64 n) ∧ W.cell? ⟨mb, 7, none⟩ = some (.int .i64 now) ∧ W.cell? ⟨mb, 1, none⟩ = some (.int .i64 window)
theorem MOk.cnt1 {M : Md} (h : MOk M) {c : Int} (hc : c ∈ [M.s.passed, M.s.late, M.s.doubled, M.s.wrong, M.s.unknown, M.s.again, M.s.refused, M.s.asked, M.s.givenUp]) : IntKind.i64.wrap (c + 1) = c + 1 := i64_id _ (by have := h.cnt c hc; omega) (by have := h.cnt c hc; omega)
theorem addsF_len (now : Int) : ∀ (c n : Nat) (l : List Gp), (addsF now c n l).length ≤ l.length + c
  | 0, _, l => Nat.le_refl _
  | c + 1, n, l => by
    have h := addsF_len now c ((n + 1) % 65536) (rmF Gp.n n l ++ [⟨n, now, 0⟩])
    have h2 := rmF_length Gp.n n l
    rw [addsF]
    rw [List.length_append, List.length_singleton] at h
    omega
theorem takeF_gu (s : Sd) (n : Nat) (now : Int) (window : Nat) (hl : s.gaps.length ≤ 90000) (hw : window ≤ 1000) : (takeF s n now window).2.2 ≤ 100000 := by
  unfold takeF
  split
  · exact Nat.zero_le _
  · split
    · show guN _ _ _ ≤ _
      refine Nat.le_trans (guN_le _ _ _) ?_
      unfold gapsOn
      split
      · have := addsF_len now (stepsTo n s.newest - 1) ((s.newest + 1) % 65536) s.gaps
        omega
      · omega
    · exact Nat.zero_le _
theorem row_mono {W : World} {b b' e k n : Nat} {v : Value} {xs : List Value} (h : W.ownsRow b e k v n xs) (hb : b' ≤ b) : W.ownsRow b' e k v n xs := by
  obtain ⟨h1, h2 | ⟨g, cap, cur, rfl, hg, r⟩⟩ := h
  · exact ⟨h1, .inl h2⟩
  · exact ⟨h1, .inr ⟨g, cap, cur, rfl, Nat.le_trans hb hg, r⟩⟩
/-- a sender turned: lists of contributors stay -/
theorem IsC.snd {W W' : World} {ρ : Nat → Nat} {mb : Nat} {M : Md} {sv wv : Value} {SB WB : List (Nat × Value)} {i : Nat} {q : Nat × Value} {sd : Sd} {v' cv : Value} {cl : List Int} (h : MdAt W ρ mb M sv wv SB WB) (h1 : SB[i]? = some q) (h2 : M.sds[i]? = some sd) (hi : IsC (fun b => ρ b = 4) W cv cl) (hU : SdUp W W' q.1 q.2 v') :
    IsC (fun b => (if v'.ownBlock = some b then 11 + 2 * i else ρ b) = 4) W' cv cl := by
  obtain ⟨_, hr1, hr2⟩ := h.sa i q sd h1 h2
  have cU : ∀ b, (b = q.1 ∨ q.2.ownBlock = some b) → ρ b ≠ 4 := fun b hb => by
    rcases hb with e | e
    · rw [e, hr1]; omega
    · rw [hr2 b e]; omega
  refine (hi.chg hU.chg (fun b hb e => cU b e hb)).mono (fun b _ e => ?_)
  rw [if_neg (fun e' => ?_)]
  · exact e
  · rcases hU.own b e' with e2 | e2
    · exact cU b (.inr e2) e
    · have := h.hi b e2
      omega
theorem TkS.chg {T : Nat → Prop} {W W' : World} {mb B : Nat} {n now window : Int} (h : TkS mb B n now window W) (hc : Chg T W W') (h1 : ¬ T mb) (h2 : ¬ T B) : TkS mb B n now window W' := ⟨hc.cell h.1 h2, hc.cell h.2.1 h1, hc.cell h.2.2 h1⟩
end Pk
open Pk

set_option maxRecDepth 20000 in
set_option maxHeartbeats 1000000 in
theorem packet_any (ρ : Nat → Nat) (mb : Nat) (M : Md) (sv wv : Value) (SB WB : List (Nat × Value)) (t : ByteArray) (w : World) (h : MdAt w ρ mb M sv wv SB WB) (ok : MOk M) (ht : t.size ≤ maxLen) :
    Calls Tryz.prog 46 #[.pointer (some ⟨mb, 0, none⟩), .string t] w fun e w' => ∃ cv tv, e = .returned (.tuple #[tv, .int .i64 (packetM M t cv).2.2]) ∧ MovedT w w' ρ mb (packetM M t cv).1 tv (packetM M t cv).2.1 := by
  have H := Pk.hid h
  have Hok := Pk.hid ok
  have hlt := h.lt
  clear h ok
  cases hR : readP t with
  | none =>
    have HP : Hid (packetM M t (.slice none 0 0) = ({ M with s := { M.s with wrong := M.s.wrong + 1 } }, [], 1)) := by show _ = _; unfold packetM; rw [hR]
    go_enter Tryz.func46, Tryz.ntmps46
    go_wp2_with fail
    refine (orNone_any mb _).mono ?_
    rintro e w1 ⟨rfl, hw1⟩
    rw [hw1]
    clear hw1
    go_wp2_with fail
    refine (readPacket_any t _ ht).mono ?_
    rintro e w1 ⟨hb1, hr⟩
    rw [hR] at hr
    have he : e = .returned wrongV := hr
    unfold wrongV at he
    subst he
    clear hr hR
    have H1 : Hid (MdAt w1 ρ mb M sv wv SB WB) := H.out.below hb1
    have Hb1 := Pk.hid hb1
    have y12 : w1.cell? ⟨mb, 12, none⟩ = some (.int .i64 M.s.wrong) := H1.out.k 12 _ rfl
    have yf : ∀ o, w1.frozen? ⟨mb, o, none⟩ = false := H1.out.fz
    have hs1 := H1.out.lt
    have hne : mb ≠ w1.heap.size := by omega
    have hw := Hok.out.cnt1 (c := M.s.wrong) (by simp)
    clear hb1
    go_wp2
    go_ret2
    refine ⟨.slice none 0 0, .slice none 0 0, ?_, ?_⟩
    · rw [HP.out]; rfl
    · rw [HP.out]
      have hm := H1.out.put (M' := { M with s := { M.s with wrong := M.s.wrong + 1 } }) 12 (.int .i64 (M.s.wrong + 1)) (by omega) rfl rfl rfl
      exact MovedT.none (hm.1.below ((Below.refl _ _).alloc (Nat.le_refl _) _)) ((Mv.below Hb1.out).trans (hm.2.trans (Mv.below ((Below.refl _ _).alloc (Nat.le_refl _) _))))
  | some p =>
    obtain ⟨hnu, hcl, hen, hpy⟩ := read_facts t p hR
    obtain ⟨mk, ex, ty, nu, ti, so, pr, pa, cl, en, py⟩ := p
    simp only at hnu hcl hen hpy
    obtain ⟨n, rfl⟩ := Int.eq_ofNat_of_zero_le hnu.1
    have hn16 : n < 65536 := by omega
    go_enter Tryz.func46, Tryz.ntmps46
    go_wp2_with fail
    refine (orNone_any mb _).mono ?_
    rintro e w1 ⟨rfl, hw1⟩
    rw [hw1]
    clear hw1
    go_wp2_with fail
    refine (readPacket_any t _ ht).mono ?_
    rintro e w1 ⟨hb1, hr⟩
    rw [hR] at hr
    obtain ⟨cv, he, hown⟩ : ∃ v, e = .returned (okV ⟨mk, ex, ty, (n : Nat), ti, so, pr, pa, cl, en, py⟩ v) ∧ OwnInts w1 w.heap.size v cl := hr
    obtain ⟨acv, ccv, rfl⟩ := hown.shape
    unfold okV at he
    subst he
    have HR := Pk.hid hR
    clear hR hnu
    obtain ⟨ρ1, hM1, hic, hrB, hrC⟩ := (H.out.below hb1).give hown (fun b hb => H.out.hi b hb)
    have HV1 : Hid (Mv w ρ w1 ρ1) := ⟨fun b hb e => (hrB b hb).trans e, Chg.ofBelow hb1⟩
    have hs1 : mb < w1.heap.size := hM1.lt
    have hne : mb ≠ w1.heap.size := by omega
    have HM2 : Hid (MdAt (w1.alloc (.cells #[.bool mk, .int .i64 ty, .int .i64 (n : Nat), .int .i64 ti, .int .i64 so, .slice acv cl.length ccv, .bool ex, .int .i64 pr, .string en, .string py, .int .i64 pa] 41)) ρ1 mb M sv wv SB WB) := hM1.below ((Below.refl _ _).alloc (Nat.le_refl _) _)
    have HI2 : Hid (IsC (fun b => ρ1 b = 4) (w1.alloc (.cells #[.bool mk, .int .i64 ty, .int .i64 (n : Nat), .int .i64 ti, .int .i64 so, .slice acv cl.length ccv, .bool ex, .int .i64 pr, .string en, .string py, .int .i64 pa] 41)) (.slice acv cl.length ccv) cl) := hic.chg (T := fun _ => False) (Chg.ofBelow ((Below.refl _ _).alloc (Nat.le_refl _) _)) (fun _ _ e => e)
    have HV2 : Hid (Mv w ρ (w1.alloc (.cells #[.bool mk, .int .i64 ty, .int .i64 (n : Nat), .int .i64 ti, .int .i64 so, .slice acv cl.length ccv, .bool ex, .int .i64 pr, .string en, .string py, .int .i64 pa] 41)) ρ1) := HV1.out.trans (Mv.below ((Below.refl _ _).alloc (Nat.le_refl _) _))
    have HB2 : Hid (PbAt w1.heap.size ⟨mk, ex, ty, (n : Nat), ti, so, pr, pa, cl, en, py⟩ (.slice acv cl.length ccv) (w1.alloc (.cells #[.bool mk, .int .i64 ty, .int .i64 (n : Nat), .int .i64 ti, .int .i64 so, .slice acv cl.length ccv, .bool ex, .int .i64 pr, .string en, .string py, .int .i64 pa] 41))) := ⟨cell_new _ _ _ 0, cell_new _ _ _ 1, cell_new _ _ _ 2, cell_new _ _ _ 3, cell_new _ _ _ 4, cell_new _ _ _ 5, cell_new _ _ _ 6, cell_new _ _ _ 7, cell_new _ _ _ 8, cell_new _ _ _ 9, cell_new _ _ _ 10⟩
    have hrb : ρ1 w1.heap.size = 0 := hM1.hi _ (Nat.le_refl _)
    have hws : w.heap.size ≤ w1.heap.size := hb1.size
    clear hM1 hic hrB hrC HV1 hown hb1
    go_wp2_with fail
    generalize w1.alloc (.cells #[.bool mk, .int .i64 ty, .int .i64 (n : Nat), .int .i64 ti, .int .i64 so, .slice acv cl.length ccv, .bool ex, .int .i64 pr, .string en, .string py, .int .i64 pa] 41) = W at *
    generalize w1.heap.size = B at *
    refine (sender_any ρ1 mb M sv wv SB WB so _ HM2.out).mono ?_
    rintro e w2 ⟨hw2, ⟨hno, rfl⟩ | ⟨i, q, sd, hi, h1, h2, h3, rfl⟩⟩
    · rw [hw2]
      clear hw2
      have HP : Hid (packetM M t (.slice none 0 0) = ({ M with s := { M.s with unknown := M.s.unknown + 1 } }, [], 4)) := by show _ = _; unfold packetM; rw [HR.out]; simp only; rw [hno]
      clear hno
      have y13 : W.cell? ⟨mb, 13, none⟩ = some (.int .i64 M.s.unknown) := HM2.out.k 13 _ rfl
      have yf : ∀ o, W.frozen? ⟨mb, o, none⟩ = false := HM2.out.fz
      have hw := Hok.out.cnt1 (c := M.s.unknown) (by simp)
      go_wp2
      go_ret2
      refine ⟨.slice none 0 0, .slice none 0 0, ?_, ?_⟩
      · rw [HP.out]; rfl
      · rw [HP.out]
        have hm := HM2.out.put (M' := { M with s := { M.s with unknown := M.s.unknown + 1 } }) 13 (.int .i64 (M.s.unknown + 1)) (by omega) rfl rfl rfl
        exact MovedT.none hm.1 (HV2.out.trans hm.2)
    · rw [hw2]
      clear hw2
      obtain ⟨hSd, hr1, hr2⟩ := HM2.out.sa i q sd h1 h2
      obtain ⟨ok16, oknew, oklen⟩ := Hok.out.snd sd (List.mem_of_getElem? h2)
      have hcfg := of_decide_eq_true Hok.out.cfg
      obtain ⟨wi, hwi⟩ := Int.eq_ofNat_of_zero_le (show 0 ≤ M.c.window by omega)
      obtain ⟨ri, hri⟩ := Int.eq_ofNat_of_zero_le (show 0 ≤ M.c.ring by omega)
      have hwi2 : wi ≤ 1000 := by omega
      have hri2 : ri ≤ 1000 := by omega
      have Hwi := Pk.hid hwi
      have Hri := Pk.hid hri
      have HP0 : Hid (∀ cv, packetM M t cv = if (takeF sd n M.s.now wi).2.1 = 1 then ({ tookM M i sd n with s := { (tookM M i sd n).s with late := (tookM M i sd n).s.late + 1 } }, [], 0) else if (takeF sd n M.s.now wi).2.1 = 2 then ({ tookM M i sd n with s := { (tookM M i sd n).s with doubled := (tookM M i sd n).s.doubled + 1 } }, [], 0) else (passTo { tookM M i sd n with s := { (tookM M i sd n).s with passed := (tookM M i sd n).s.passed + 1 } } ⟨mk, ex, ty, (n : Nat), ti, so, pr, pa, cl, en, py⟩ cv ri M.wns.length, textsTo M ⟨mk, ex, ty, (n : Nat), ti, so, pr, pa, cl, en, py⟩ M.wns.length, 0)) := by
        intro cv
        unfold packetM
        rw [HR.out]
        simp only
        rw [hi]
        simp only
        rw [h2]
        simp only
        rw [hwi, hri]
        rfl
      have Htook : Hid (tookM M i sd n = { M with sds := M.sds.set i (takeF sd n M.s.now wi).1, s := { M.s with givenUp := M.s.givenUp + (takeF sd n M.s.now wi).2.2 } }) := by
        show _ = _
        unfold tookM
        rw [hwi]
        rfl
      have hgu := takeF_gu sd n M.s.now wi oklen hwi2
      have e1 := u16_id n hn16
      have HS : Hid (TkS mb B n M.s.now wi W) := ⟨HB2.out.q2, HM2.out.k 7 _ rfl, by have := HM2.out.k 1 _ rfl; rw [this]; exact congrArg (fun z => some (Value.int .i64 z)) hwi⟩
      have cU : ∀ b, (b = q.1 ∨ q.2.ownBlock = some b) → ρ1 b ≠ 0 ∧ ρ1 b ≠ 1 := fun b hb => by
        rcases hb with e | e
        · rw [e, hr1]; omega
        · rw [hr2 b e]; omega
      have HU := Pk.hid cU
      have HSd : Hid (SdAt W.drew (q.1 + 1) q.1 q.2 sd) := hSd.below (Below.refl _ _).drew
      have H1 := Pk.hid h1
      have H2 := Pk.hid h2
      have hmr : ρ1 mb = 1 := HM2.out.rm
      clear cU hr1 hr2 hSd h1 h2 h3 hi hcfg hwi hri
      unfold ptr
      go_wp2
      refine wp_region_noPanic ?_
      refine wp_region_held_drew (S := TkS mb B n M.s.now wi) (by kernel_rfl) HS.out (fun hHeld => ?_)
      refine tkH 0 ?_ hHeld ?_ ?_; rotate_left
      · ((intro W hSw; obtain ⟨hS0, hS1, hS2⟩ := hSw; go_simp) <;> with_reducible rfl)
      refine tkH 1 ?_ hHeld ?_ ?_; rotate_left
      · ((intro W hSw; obtain ⟨hS0, hS1, hS2⟩ := hSw; go_simp) <;> with_reducible rfl)
      refine tkH 2 ?_ hHeld ?_ ?_; rotate_left
      · ((intro W hSw; obtain ⟨hS0, hS1, hS2⟩ := hSw; go_simp) <;> with_reducible rfl)
      refine tkH 3 ?_ hHeld ?_ ?_; rotate_left
      · ((intro W hSw; obtain ⟨hS0, hS1, hS2⟩ := hSw; go_simp) <;> with_reducible rfl)
      refine tkH 4 ?_ hHeld ?_ ?_; rotate_left
      · ((intro W hSw; obtain ⟨hS0, hS1, hS2⟩ := hSw; go_simp) <;> with_reducible rfl)
      refine tkH 5 ?_ hHeld ?_ ?_; rotate_left
      · ((intro W hSw; obtain ⟨hS0, hS1, hS2⟩ := hSw; go_simp) <;> with_reducible rfl)
      refine tkH 6 ?_ hHeld ?_ ?_; rotate_left
      · ((intro W hSw; obtain ⟨hS0, hS1, hS2⟩ := hSw; go_simp) <;> with_reducible rfl)
      refine tkH 7 ?_ hHeld ?_ ?_; rotate_left
      · ((intro W hSw; obtain ⟨hS0, hS1, hS2⟩ := hSw; go_simp) <;> with_reducible rfl)
      refine tkH 8 ?_ hHeld ?_ ?_; rotate_left
      · ((intro W hSw; obtain ⟨hS0, hS1, hS2⟩ := hSw; go_simp) <;> with_reducible rfl)
      refine tkH 9 ?_ hHeld ?_ ?_; rotate_left
      · ((intro W hSw; obtain ⟨hS0, hS1, hS2⟩ := hSw; go_simp) <;> with_reducible rfl)
      refine tkH 10 ?_ hHeld ?_ ?_; rotate_left
      · ((intro W hSw; obtain ⟨hS0, hS1, hS2⟩ := hSw; go_simp) <;> with_reducible rfl)
      refine tkH 11 ?_ hHeld ?_ ?_; rotate_left
      · ((intro W hSw; obtain ⟨hS0, hS1, hS2⟩ := hSw; go_simp) <;> with_reducible rfl)
      refine tkH 12 ?_ hHeld ?_ ?_; rotate_left
      · ((intro W hSw; obtain ⟨hS0, hS1, hS2⟩ := hSw; go_simp) <;> with_reducible rfl)
      refine tkH 13 ?_ hHeld ?_ ?_; rotate_left
      · ((intro W hSw; obtain ⟨hS0, hS1, hS2⟩ := hSw; go_simp) <;> with_reducible rfl)
      refine wpAnyH_ready (rs := [14]) (by kernel_rfl) (by simp) ?_
      refine AllReadyH.cons rfl (fun K hK => ?_) AllReadyH.nil
      go_simp
      refine (take_any (q.1 + 1) q.1 q.2 sd n wi M.s.now _ HSd.out ok16 oknew hn16 oklen hwi2 HSd.out.lt).mono ?_
      rintro e w3 ⟨rfl, v3, hS3, hU3⟩
      have hSS : TkS mb B n M.s.now wi w3 := TkS.chg hHeld hU3.chg (fun e => (HU.out _ e).2 hmr) (fun e => (HU.out _ e).1 hrb)
      have HUd : Hid (SdUp W w3 q.1 q.2 v3) := SdUp.before (Below.refl _ _).drew hU3
      have HS3 := Pk.hid hS3
      clear hS3 hU3
      generalize (takeF sd n M.s.now wi).2.1 = f at *
      generalize (takeF sd n M.s.now wi).2.2 = gu at *
      generalize (takeF sd n M.s.now wi).1 = sd' at *
      obtain ⟨ρ3, hM3, hV3, hI3⟩ : ∃ ρ3 : Nat → Nat, MdAt w3 ρ3 mb { M with sds := M.sds.set i sd' } sv wv (SB.set i (q.1, v3)) WB ∧ Mv w ρ w3 ρ3 ∧ IsC (fun b => ρ3 b = 4) w3 (.slice acv cl.length ccv) cl := by
        have hsnd := HM2.out.snd H1.out H2.out HS3.out HUd.out
        exact ⟨_, hsnd.1, HV2.out.trans ⟨hsnd.2.1, hsnd.2.2⟩, IsC.snd HM2.out H1.out H2.out HI2.out HUd.out⟩
      have HM3 := Pk.hid hM3
      have HV3 := Pk.hid hV3
      have HI3 := Pk.hid hI3
      have HB3 : Hid (PbAt B ⟨mk, ex, ty, (n : Nat), ti, so, pr, pa, cl, en, py⟩ (.slice acv cl.length ccv) w3) := HB2.out.chg HUd.out.chg (fun e => (HU.out _ e).1 hrb)
      clear hM3 hV3 hI3
      go_simp
      refine hK.out _ _ hSS (fun hHeld => ?_)
      clear hK K
      try simp only [Act.put]
      try simp only [List.getElem_toArray]
      try simp only [List.getElem_cons_succ]
      try simp only [List.getElem_cons_zero]
      try simp only [List.setIfInBounds_toArray]
      try simp only [List.set_cons_succ]
      try simp only [List.set_cons_zero]
      refine tkH 15 ?_ hHeld ?_ ?_; rotate_left
      · ((intro W hSw; obtain ⟨hS0, hS1, hS2⟩ := hSw; go_simp) <;> with_reducible rfl)
      refine tkH 16 ?_ hHeld ?_ ?_; rotate_left
      · ((intro W hSw; obtain ⟨hS0, hS1, hS2⟩ := hSw; go_simp) <;> with_reducible rfl)
      refine tkH 17 ?_ hHeld ?_ ?_; rotate_left
      · ((intro W hSw; obtain ⟨hS0, hS1, hS2⟩ := hSw; go_simp) <;> with_reducible rfl)
      refine wpAnyH_ready (rs := [18]) (by kernel_rfl) (by simp) ?_
      refine AllReadyH.cons rfl (fun K hK => ?_) AllReadyH.nil
      go_simp
      refine hK.out _ _ hHeld (fun hHeld => ?_)
      clear hK K
      try simp only [Act.put]
      try simp only [List.getElem_toArray]
      try simp only [List.getElem_cons_succ]
      try simp only [List.getElem_cons_zero]
      try simp only [List.setIfInBounds_toArray]
      try simp only [List.set_cons_succ]
      try simp only [List.set_cons_zero]
      refine wpAnyH_ready (rs := [19]) (by kernel_rfl) (by simp) ?_
      refine AllReadyH.cons rfl (fun K hK => ?_) AllReadyH.nil
      go_simp
      refine hK.out _ _ hHeld (fun hHeld => ?_)
      clear hK K
      try simp only [Act.put]
      try simp only [List.getElem_toArray]
      try simp only [List.getElem_cons_succ]
      try simp only [List.getElem_cons_zero]
      try simp only [List.setIfInBounds_toArray]
      try simp only [List.set_cons_succ]
      try simp only [List.set_cons_zero]
      refine wpAnyH_done (by kernel_rfl) ?_ _
      refine NoPanic.normal ?_
      clear hHeld hSS HS e1
      have y17 : w3.cell? ⟨mb, 17, none⟩ = some (.int .i64 M.s.givenUp) := HM3.out.k 17 _ rfl
      have yf : ∀ o, w3.frozen? ⟨mb, o, none⟩ = false := HM3.out.fz
      have hwg : IntKind.i64.wrap (M.s.givenUp + (gu : Int)) = M.s.givenUp + gu := i64_id _ (by have := Hok.out.cnt M.s.givenUp (by simp); omega) (by have := Hok.out.cnt M.s.givenUp (by simp); omega)
      by_cases hf1 : f = 1
      · subst hf1
        have HP : Hid (packetM M t (.slice none 0 0) = ({ M with sds := M.sds.set i sd', s := { M.s with givenUp := M.s.givenUp + gu, late := M.s.late + 1 } }, [], 0)) := by
          show _ = _
          rw [HP0.out, if_pos rfl, Htook.out]
        have y : w3.cell? ⟨mb, 10, none⟩ = some (.int .i64 M.s.late) := HM3.out.k 10 _ rfl
        have hw := Hok.out.cnt1 (c := M.s.late) (by simp)
        go_wp2
        go_ret2
        refine ⟨.slice none 0 0, .slice none 0 0, ?_, ?_⟩
        · rw [HP.out]; rfl
        · rw [HP.out]
          have hm := HM3.out.put (M' := { M with sds := M.sds.set i sd', s := { M.s with givenUp := M.s.givenUp + gu } }) 17 (.int .i64 (M.s.givenUp + gu)) (by omega) rfl rfl rfl
          have hm2 := hm.1.put (M' := { M with sds := M.sds.set i sd', s := { M.s with givenUp := M.s.givenUp + gu, late := M.s.late + 1 } }) 10 (.int .i64 (M.s.late + 1)) (by omega) rfl rfl rfl
          exact MovedT.none hm2.1 (HV3.out.trans (hm.2.trans hm2.2))
      by_cases hf2 : f = 2
      · subst hf2
        have HP : Hid (packetM M t (.slice none 0 0) = ({ M with sds := M.sds.set i sd', s := { M.s with givenUp := M.s.givenUp + gu, doubled := M.s.doubled + 1 } }, [], 0)) := by
          show _ = _
          rw [HP0.out, if_neg (by decide), if_pos rfl, Htook.out]
        have y : w3.cell? ⟨mb, 11, none⟩ = some (.int .i64 M.s.doubled) := HM3.out.k 11 _ rfl
        have hw := Hok.out.cnt1 (c := M.s.doubled) (by simp)
        go_wp2
        go_ret2
        refine ⟨.slice none 0 0, .slice none 0 0, ?_, ?_⟩
        · rw [HP.out]; rfl
        · rw [HP.out]
          have hm := HM3.out.put (M' := { M with sds := M.sds.set i sd', s := { M.s with givenUp := M.s.givenUp + gu } }) 17 (.int .i64 (M.s.givenUp + gu)) (by omega) rfl rfl rfl
          have hm2 := hm.1.put (M' := { M with sds := M.sds.set i sd', s := { M.s with givenUp := M.s.givenUp + gu, doubled := M.s.doubled + 1 } }) 11 (.int .i64 (M.s.doubled + 1)) (by omega) rfl rfl rfl
          exact MovedT.none hm2.1 (HV3.out.trans (hm.2.trans hm2.2))
      have g1 : ((f : Int) == 1) = false := by rw [beq_eq_false_iff_ne]; omega
      have g2 : ((f : Int) == 2) = false := by rw [beq_eq_false_iff_ne]; omega
      have HP : Hid (∀ cv, packetM M t cv = (passTo { M with sds := M.sds.set i sd', s := { M.s with givenUp := M.s.givenUp + gu, passed := M.s.passed + 1 } } ⟨mk, ex, ty, (n : Nat), ti, so, pr, pa, cl, en, py⟩ cv ri M.wns.length, textsTo M ⟨mk, ex, ty, (n : Nat), ti, so, pr, pa, cl, en, py⟩ M.wns.length, 0)) := by
        intro cv
        rw [HP0.out, if_neg hf1, if_neg hf2, Htook.out]
      have y9 : w3.cell? ⟨mb, 9, none⟩ = some (.int .i64 M.s.passed) := HM3.out.k 9 _ rfl
      have hw := Hok.out.cnt1 (c := M.s.passed) (by simp)
      have b0 := HB3.out.q0
      have b1 := HB3.out.q1
      have b2 := HB3.out.q2
      have b3 := HB3.out.q3
      have b4 := HB3.out.q4
      have b5 := HB3.out.q5
      have b6 := HB3.out.q6
      have b7 := HB3.out.q7
      have b8 := HB3.out.q8
      have b9 := HB3.out.q9
      have b10 := HB3.out.q10
      have hm := HM3.out.put (M' := { M with sds := M.sds.set i sd', s := { M.s with givenUp := M.s.givenUp + gu } }) 17 (.int .i64 (M.s.givenUp + gu)) (by omega) rfl rfl rfl
      have hm2 := hm.1.put (M' := { M with sds := M.sds.set i sd', s := { M.s with givenUp := M.s.givenUp + gu, passed := M.s.passed + 1 } }) 9 (.int .i64 (M.s.passed + 1)) (by omega) rfl rfl rfl
      have HM5 : Hid (MdAt ((w3.setCell ⟨mb, 17, none⟩ (.int .i64 (M.s.givenUp + gu))).setCell ⟨mb, 9, none⟩ (.int .i64 (M.s.passed + 1))) ρ3 mb { M with sds := M.sds.set i sd', s := { M.s with givenUp := M.s.givenUp + gu, passed := M.s.passed + 1 } } sv wv (SB.set i (q.1, v3)) WB) := hm2.1
      have HV5 : Hid (Mv w ρ ((w3.setCell ⟨mb, 17, none⟩ (.int .i64 (M.s.givenUp + gu))).setCell ⟨mb, 9, none⟩ (.int .i64 (M.s.passed + 1))) ρ3) := HV3.out.trans (hm.2.trans hm2.2)
      have hcc : Chg (fun b => b = mb) w3 ((w3.setCell ⟨mb, 17, none⟩ (.int .i64 (M.s.givenUp + gu))).setCell ⟨mb, 9, none⟩ (.int .i64 (M.s.passed + 1))) := ((Chg.refl (fun b => b = mb) _).setCell ⟨mb, 17, none⟩ (.inl rfl) _).setCell ⟨mb, 9, none⟩ (.inl rfl) _
      have HI5 : Hid (IsC (fun b => ρ3 b = 4) ((w3.setCell ⟨mb, 17, none⟩ (.int .i64 (M.s.givenUp + gu))).setCell ⟨mb, 9, none⟩ (.int .i64 (M.s.passed + 1))) (.slice acv cl.length ccv) cl) := HI3.out.chg hcc (fun b hb e => by rw [e, HM3.out.rm] at hb; cases hb)
      have hw8 := Hok.out.w8
      have Hwnt : Hid (∀ x ∈ M.wns, WOk x) := Hok.out.wnt
      clear hm hm2 hcc
      go_wp2_with fail
      refine (passOn_any ρ3 mb { M with sds := M.sds.set i sd', s := { M.s with givenUp := M.s.givenUp + gu, passed := M.s.passed + 1 } } sv wv (SB.set i (q.1, v3)) WB mk ex ty ti so pr pa n cl en py (.slice acv cl.length ccv) ri _ HM5.out HI5.out Hri.out hri2 hn16 hw8 Hwnt.out (by omega) (by omega) (by omega)).mono ?_
      rintro e w6 ⟨ρ6, WB6, ov, rfl, hrel⟩
      obtain ⟨ao6, co6, rfl⟩ := rowA_shape hrel.row
      have HT : Hid (MovedT w w6 ρ mb (packetM M t (.slice acv cl.length ccv)).1 (.slice ao6 (textsTo M ⟨mk, ex, ty, (n : Nat), ti, so, pr, pa, cl, en, py⟩ M.wns.length).length co6) (packetM M t (.slice acv cl.length ccv)).2.1) := by
        show MovedT _ _ _ _ _ _ _
        rw [HP.out]
        refine ⟨ρ6, sv, wv, _, WB6, hrel.md, HV5.out.trans ⟨hrel.z, hrel.chg⟩, row_mono hrel.row ?_, hrel.r0⟩
        have := HV5.out.2.size
        omega
      have Hp2 : Hid ((packetM M t (.slice acv cl.length ccv)).2.2 = 0) := by show _ = _; rw [HP.out]
      clear hrel
      have htl : textsTo { M with sds := M.sds.set i sd', s := { M.s with givenUp := M.s.givenUp + gu, passed := M.s.passed + 1 } } ⟨mk, ex, ty, (n : Nat), ti, so, pr, pa, cl, en, py⟩ ({ M with sds := M.sds.set i sd', s := { M.s with givenUp := M.s.givenUp + gu, passed := M.s.passed + 1 } } : Md).wns.length = textsTo M ⟨mk, ex, ty, (n : Nat), ti, so, pr, pa, cl, en, py⟩ M.wns.length := rfl
      rw [htl]
      clear htl
      generalize (textsTo M ⟨mk, ex, ty, (n : Nat), ti, so, pr, pa, cl, en, py⟩ M.wns.length).length = tl at *
      go_wp2
      go_ret2
      refine ⟨.slice acv cl.length ccv, .slice ao6 tl co6, ?_, HT.out⟩
      rw [Hp2.out]
      rfl

end Go.Proofs.YtdjhhnolcafkiaaGreat

/- Look and Missing. -/
namespace Go.Proofs.YtdjhhnolcafkiaaGreat
open Go.RowKit
namespace Pk
def sttA (s : Stt) : Array Value := #[.int .i64 s.now, .int .i64 s.tokens, .int .i64 s.passed, .int .i64 s.late, .int .i64 s.doubled, .int .i64 s.wrong, .int .i64 s.unknown, .int .i64 s.again, .int .i64 s.refused, .int .i64 s.asked, .int .i64 s.givenUp]
def names (l : List Gp) : List Int := l.map fun g => (g.n : Int)
theorem cell_one_at (B : Nat) (w : World) (hB : B = w.heap.size) (v : Value) (t : TypeId) : ∀ j u, [v][j]? = some u → (w.alloc (.cells #[v] t)).cell? ((⟨B, 0, none⟩ : Addr).add j) = some u := by
  subst hB
  exact cell_one_new _ _ _
theorem names_take (l : List Gp) (k : Nat) (h : k < l.length) : names (l.take (k + 1)) = names (l.take k) ++ [((l[k]).n : Int)] := by
  unfold names
  rw [List.take_succ_eq_append_getElem h, List.map_append]
  rfl
theorem names_len (l : List Gp) (k : Nat) (h : k ≤ l.length) : (names (l.take k)).length = k := by
  unfold names
  rw [List.length_map, List.length_take]
  omega
end Pk
open Pk

set_option maxRecDepth 20000 in
set_option maxHeartbeats 1000000 in
theorem look_any (ρ : Nat → Nat) (mb : Nat) (M : Md) (sv wv : Value) (SB WB : List (Nat × Value)) (w : World) (h : MdAt w ρ mb M sv wv SB WB) :
    Calls Tryz.prog 11 #[.pointer (some ⟨mb, 0, none⟩)] w fun e w' => e = .returned (.agg (sttA M.s)) ∧ Below w.heap.size w w' := by
  have hlt := h.lt
  obtain ⟨c, s, sds, wns, last⟩ := M
  obtain ⟨t0, t1, t2, t3, t4, t5, t6, t7, t8, t9, t10⟩ := s
  have y0 : w.cell? ⟨mb, 7, none⟩ = some (.int .i64 t0) := h.k 7 _ rfl
  have y1 : w.cell? ⟨mb, 8, none⟩ = some (.int .i64 t1) := h.k 8 _ rfl
  have y2 : w.cell? ⟨mb, 9, none⟩ = some (.int .i64 t2) := h.k 9 _ rfl
  have y3 : w.cell? ⟨mb, 10, none⟩ = some (.int .i64 t3) := h.k 10 _ rfl
  have y4 : w.cell? ⟨mb, 11, none⟩ = some (.int .i64 t4) := h.k 11 _ rfl
  have y5 : w.cell? ⟨mb, 12, none⟩ = some (.int .i64 t5) := h.k 12 _ rfl
  have y6 : w.cell? ⟨mb, 13, none⟩ = some (.int .i64 t6) := h.k 13 _ rfl
  have y7 : w.cell? ⟨mb, 14, none⟩ = some (.int .i64 t7) := h.k 14 _ rfl
  have y8 : w.cell? ⟨mb, 15, none⟩ = some (.int .i64 t8) := h.k 15 _ rfl
  have y9 : w.cell? ⟨mb, 16, none⟩ = some (.int .i64 t9) := h.k 16 _ rfl
  have y10 : w.cell? ⟨mb, 17, none⟩ = some (.int .i64 t10) := h.k 17 _ rfl
  clear h
  go_enter Tryz.func11, Tryz.ntmps11
  go_wp2_with fail
  refine (orNone_any mb _).mono ?_
  rintro e w1 ⟨rfl, hw1⟩
  rw [hw1]
  clear hw1 w1
  go_wp2
  refine bodyPost_ret (v := .agg #[.int .i64 t0, .int .i64 t1, .int .i64 t2, .int .i64 t3, .int .i64 t4, .int .i64 t5, .int .i64 t6, .int .i64 t7, .int .i64 t8, .int .i64 t9, .int .i64 t10]) (by simp [results, Tryz.results11, go_sem]) rfl ⟨rfl, (Below.refl _ _).alloc (Nat.le_refl _) _⟩

set_option maxRecDepth 20000 in
set_option maxHeartbeats 2000000 in
theorem missingS_any (base sb : Nat) (v : Value) (s : Sd) (w : World) (h : SdAt w base sb v s) (h16 : In16G s.gaps) (hn : s.gaps.length ≤ 99000) :
    Calls Tryz.prog 61 #[.pointer (some ⟨sb, 0, none⟩)] w fun e w' => ∃ v', e = .returned v' ∧ OwnInts w' w.heap.size v' (names s.gaps) ∧ Below w.heap.size w w' := by
  obtain ⟨ao, cap, rfl⟩ := rowA_shape h.row
  have H := Pk.hid h
  have H16 := Pk.hid h16
  have y2 := h.c2
  obtain ⟨n, hnn⟩ : ∃ n, s.gaps.length = n := ⟨_, rfl⟩
  have Hnn := Pk.hid hnn
  rw [hnn] at y2 hn
  have hinfo : (Tryz.prog.info? 3).map (fun i => (i.zero, i.size, i.bytes)) = some (some (.int .i64 0), 1, 8) := by kernel_rfl
  obtain ⟨i0, hi, hz0, hz1, hz2⟩ := info_parts hinfo
  have Hi : Hid (Tryz.prog.info? 3 = some i0 ∧ i0.zero = some (.int .i64 0) ∧ i0.size = 1 ∧ i0.bytes = 8) := ⟨hi, hz0, hz1, hz2⟩
  have Hb0 : Hid (i0.bytes * n ≤ 281474976710656) := by show _ ≤ _; rw [hz2]; omega
  have hsb := h.lt
  clear h h16 hnn hi hz0 hz1 hz2 hinfo
  go_enter Tryz.func61, Tryz.ntmps61
  go_wp2_with (at_make; refine wpList_make_own _ rfl (.const (.int .i64 0)) (.tmp 11) 34 rfl w.heap.size 3 i0 (.int .i64 0) 1 Tryz.underlying34 Hi.out.1 Hi.out.2.1 Hi.out.2.2.1 .i64 .i64 _ n rfl rfl rfl Hb0.out (by unfold maxLen; omega) (Nat.le_refl _) ?_; intro w1 hown1 hg1; refine stop_here ?_)
  refine hid_in ?_
  have HB1 : Hid (Below w.heap.size w w1) := (Chg.ofGrown hg1).below (Nat.le_refl _) (fun x e => by cases e)
  have HO1 := Pk.hid hown1
  have y2' : w1.cell? ⟨sb, 2, none⟩ = some (.slice ao n cap) := (HB1.out.cell (p := ⟨sb, 2, none⟩) hsb).trans y2
  clear hown1 hg1 y2
  go_wp2
  clear y2'
  go_loopw [3, 19] (fun v i wr => ∃ k : Nat, k ≤ n ∧ i = .int .i64 k ∧ OwnInts wr w.heap.size v (names (s.gaps.take k)) ∧ Below w.heap.size w wr) (fun _ i _ => n - (intOf i).toNat)
  case atStart => exact ⟨0, Nat.zero_le _, rfl, HO1.out, HB1.out⟩
  case round =>
    obtain ⟨k, hk, rfl, hown, hb⟩ := hrel
    have Hb := Pk.hid hb
    have hlk : (names (s.gaps.take k)).length = k := names_len _ _ (by rw [Hnn.out]; exact hk)
    have h0 : wr.ownsRow _ _ _ _ _ _ := hown
    rw [hlk] at h0
    have Hown := Pk.hid h0
    have hsz := hb.size
    clear hown h0 hlk hb
    by_cases hlt : k < n
    · have hlt' : (k : Int) < n := by omega
      have hkl : k < s.gaps.length := by rw [Hnn.out]; exact hlt
      obtain ⟨g, rfl⟩ := rowA_some H.out.row (by omega)
      have hgl := (H.out.row.lt g rfl).2
      have dd : ∀ j (hj : j < 3), wr.cell? ⟨g, k * 3 + j, none⟩ = (cellsG (s.gaps[k]))[j]? := fun j hj => by
        have h := H.out.row.cellAt (k * 3 + j) (by rw [Hnn.out]; omega)
        rw [flat_at cellsG_len s.gaps k j hkl hj] at h
        exact (Hb.out.cell (p := ⟨g, k * 3 + j, none⟩) hgl).trans h
      have d0 := dd 0 (by omega)
      have d1 := dd 1 (by omega)
      have d2 := dd 2 (by omega)
      clear dd
      have Htk := names_take s.gaps k hkl
      have hlk1 : Hid ((names (s.gaps.take (k + 1))).length = k + 1) := names_len _ _ (by omega)
      have hx16 := H16.out (s.gaps[k]) (List.getElem_mem hkl)
      obtain ⟨gk, hgk⟩ : ∃ gk, s.gaps[k] = gk := ⟨_, rfl⟩
      rw [hgk] at d0 d1 d2 Htk hx16
      clear hgk
      obtain ⟨xn, xl, xt⟩ := gk
      simp only [cellsG, List.getElem?_cons_zero, List.getElem?_cons_succ, Nat.add_zero] at d0 d1 d2 Htk hx16
      have hxw : IntKind.i64.wrap (xn : Int) = (xn : Int) := wrapI64 _ (by omega) (by omega)
      have HTk := Pk.hid Htk
      clear Htk
      go_wp2_with (at_builtin; (refine wpList_append_own _ rfl (.tmp 23) (.tmp 27) 34 rfl w.heap.size 3 i0 (.int .i64 0) 1 8 Tryz.underlying34 Hi.out.1 Hi.out.2.1 Hi.out.2.2.1 Hi.out.2.2.2 rfl (by decide) _ k ((names (s.gaps.take k)).map (Value.int .i64)) rfl (World.ownsRow.alloc (World.ownsRow.alloc Hown.out _) _) _ 1 1 [.int .i64 xn] rfl rfl (cell_one_at _ _ (by simp) _ _) ?_ ?_ ?_ ?_ ?_; (intro u hu; simp at hu; subst hu; rfl); (unfold maxLen; omega); omega; (simp; omega); intro v' w2 hown' hgrow _; refine stop_here ?_))
      refine hid_in ?_
      have R1 : Hid (OwnInts w2 w.heap.size v' (names (s.gaps.take (k + 1)))) := by
        show w2.ownsRow _ _ _ _ _ _
        rw [hlk1.out, HTk.out, List.map_append]
        exact hown'
      have R2 : Hid (Below w.heap.size w w2) := ((Hb.out.alloc Hb.out.size _).alloc (by simp; omega) _).grown hgrow (by simp; omega) (fun g hg => (World.ownsRow.lt Hown.out g hg).1)
      clear hown' hgrow d0 d1 d2
      go_wp2
      go_roundw
      case rel => exact ⟨k + 1, by omega, by go_num, R1.out, R2.out⟩
      case measure => simp [intOf]; omega
    · have hlt' : ¬ (k : Int) < n := by omega
      have h := Hown.out
      have e : k = n := by omega
      have e2 : s.gaps.take n = s.gaps := List.take_of_length_le (by rw [Hnn.out]; exact Nat.le_refl _)
      have e3 : n = (names s.gaps).length := by unfold names; rw [List.length_map, Hnn.out]
      rw [e, e2, e3] at h
      have R := Pk.hid h
      clear h e2 e3
      go_wp2
      go_ret
      exact ⟨_, rfl, R.out, Hb.out⟩

set_option maxHeartbeats 1000000 in
theorem missing_any (ρ : Nat → Nat) (mb : Nat) (M : Md) (sv wv : Value) (SB WB : List (Nat × Value)) (source : Int) (w : World) (h : MdAt w ρ mb M sv wv SB WB) (hl : ∀ s ∈ M.sds, In16G s.gaps ∧ s.gaps.length ≤ 99000) :
    Calls Tryz.prog 25 #[.pointer (some ⟨mb, 0, none⟩), .int .i64 source] w fun e w' => Below w.heap.size w w' ∧
      ((sndPos M source = none ∧ e = .returned (.tuple #[.slice none 0 0, .int .i64 4])) ∨ ∃ i s v, sndPos M source = some i ∧ M.sds[i]? = some s ∧ e = .returned (.tuple #[v, .int .i64 0]) ∧ OwnInts w' w.heap.size v (names s.gaps)) := by
  have H := Pk.hid h
  have Hl := Pk.hid hl
  clear h hl
  go_enter Tryz.func25, Tryz.ntmps25
  go_wp2_with fail
  refine (orNone_any mb _).mono ?_
  rintro e w1 ⟨rfl, hw1⟩
  rw [hw1]
  clear hw1 w1
  go_wp2_with fail
  refine (sender_any ρ mb M sv wv SB WB source _ H.out).mono ?_
  rintro e w1 ⟨hw1, ⟨hp, rfl⟩ | ⟨i, p, s, hp, hSB, hs, -, rfl⟩⟩
  · rw [hw1]
    have Hp := Pk.hid hp
    clear hw1 hp w1
    go_wp2
    go_ret2
    exact ⟨Below.refl _ _, .inl ⟨Hp.out, rfl⟩⟩
  · rw [hw1]
    have Hp : Hid (sndPos M source = some i ∧ M.sds[i]? = some s) := ⟨hp, hs⟩
    have HS : Hid (SdAt w (p.1 + 1) p.1 p.2 s) := (H.out.sa i p s hSB hs).1
    have Hn : Hid (In16G s.gaps ∧ s.gaps.length ≤ 99000) := Hl.out s (List.mem_of_getElem? hs)
    clear hw1 hp hs hSB w1
    unfold ptr
    go_wp2_with fail
    refine (missingS_any _ _ _ s _ HS.out Hn.out.1 Hn.out.2).mono ?_
    rintro e w2 ⟨v, rfl, ho, hb⟩
    have HO := Pk.hid ho
    have HB := Pk.hid hb
    obtain ⟨a, c, rfl⟩ := ho.shape
    clear ho hb
    go_wp2
    go_ret2
    exact ⟨HB.out, .inr ⟨i, s, _, Hp.out.1, Hp.out.2, rfl, HO.out⟩⟩

end Go.Proofs.YtdjhhnolcafkiaaGreat

/- The document's mender: amid a packet's going to a want. -/
namespace Go.Proofs.YtdjhhnolcafkiaaGreat
open Go.RowKit
namespace Pk
structure PMd (w0 w : World) (ρ : Nat → Nat) (rb s0 g cap q : Nat) (R : Rm) (sv cv tv : Value) (x : Rw) (sh : Int) (p : PP) (out : List ByteArray) (W : World) : Prop where
  m : RMid w ρ rb { R with wns := R.wns.set q { x with shift := sh } } sv (.slice (some ⟨g, 0, none⟩) R.wns.length cap) (fun b => ρ b = 1000 + x.id.toNat ∨ ρ b = 1 ∨ ρ b = 3) W
  p : PxAt s0 W p cv
  o : W.ownsRow w0.heap.size 9 1 tv out.length (out.map Value.string)
/-- a packet's eleven cells -/
def PxS (s : Nat) (y : PP) (cv : Value) (W : World) : Prop := W.cell? ⟨s, 0, none⟩ = some (.bool y.mrk) ∧ W.cell? ⟨s, 1, none⟩ = some (.int .i64 y.ty) ∧ W.cell? ⟨s, 2, none⟩ = some (.int .i64 y.nu) ∧ W.cell? ⟨s, 3, none⟩ = some (.int .i64 y.ti) ∧ W.cell? ⟨s, 4, none⟩ = some (.int .i64 y.so) ∧ W.cell? ⟨s, 5, none⟩ = some cv ∧ W.cell? ⟨s, 6, none⟩ = some (.bool y.ex) ∧ W.cell? ⟨s, 7, none⟩ = some (.int .i64 y.pr) ∧ W.cell? ⟨s, 8, none⟩ = some (.string y.en) ∧ W.cell? ⟨s, 9, none⟩ = some (.string y.py) ∧ W.cell? ⟨s, 10, none⟩ = some (.int .i64 y.pa)
theorem PxAt.toS {s : Nat} {y : PP} {cv : Value} {W : World} (h : PxAt s W y cv) : PxS s y cv W := ⟨h.k 0 _ rfl, h.k 1 _ rfl, h.k 2 _ rfl, h.k 3 _ rfl, h.k 4 _ rfl, h.k 5 _ rfl, h.k 6 _ rfl, h.k 7 _ rfl, h.k 8 _ rfl, h.k 9 _ rfl, h.k 10 _ rfl⟩
theorem sent_info : (Tryz.prog.info? 152).map (fun i => (i.zero, i.size, i.bytes)) = some (some (.agg #[.bool false, .int .i64 0, .int .i64 0, .int .i64 0, .int .i64 0, .slice none 0 0, .bool false, .int .i64 0, .string ⟨#[]⟩, .string ⟨#[]⟩, .int .i64 0, .int .i64 0]), 12, 128) := by kernel_rfl
section
variable {w0 w W W' : World} {ρ : Nat → Nat} {rb s0 g cap q : Nat} {R : Rm} {sv cv tv : Value} {x : Rw} {sh : Int} {p : PP} {out : List ByteArray}
theorem PMd.chg {T : Nat → Prop} (h : PMd w0 w ρ rb s0 g cap q R sv cv tv x sh p out W) (hrm : ρ rb = 1) (hc : Chg T W W') (hT : ∀ b, T b → (ρ b ≠ 1 ∧ ρ b ≠ 2 ∧ ρ b ≠ 3) ∧ (b < w.heap.size → ρ b = 1000 + x.id.toNat) ∧ b ≠ s0 ∧ tv.ownBlock ≠ some b) : PMd w0 w ρ rb s0 g cap q R sv cv tv x sh p out W' :=
  ⟨h.m.chg hrm hc (fun b hb => (hT b hb).1) (fun b hl hb => .inl ((hT b hb).2.1 hl)), h.p.chg hc (fun e => (hT _ e).2.2.1 rfl), rowA_chg hc h.o (fun b hb e => (hT b e).2.2.2 hb)⟩
theorem PMd.below (h : PMd w0 w ρ rb s0 g cap q R sv cv tv x sh p out W) (hrm : ρ rb = 1) (hb : Below W.heap.size W W') : PMd w0 w ρ rb s0 g cap q R sv cv tv x sh p out W' := h.chg (T := fun _ => False) hrm (Chg.ofBelow hb) (fun _ e => e.elim)
theorem PMd.wc (h : PMd w0 w ρ rb s0 g cap q R sv cv tv x sh p out W) (hq : q < R.wns.length) : (∀ j u, (cRw { x with shift := sh })[j]? = some u → W.cell? ⟨g, q * 11 + j, none⟩ = some u) ∧ (∀ o, W.frozen? ⟨g, o, none⟩ = false) ∧ g < W.heap.size := by
  have hr := h.m.wr.1
  simp only [List.length_set] at hr
  refine ⟨fun j u hj => ?_, fun o => hr.frozenAt o, (hr.lt g rfl).2⟩
  have h11 : j < 11 := by have := (List.getElem?_eq_some_iff.1 hj).1; rw [cRw_len] at this; exact this
  rw [hr.cellAt (q * 11 + j) (by omega), flat_at cRw_len _ q j (by simpa using hq) h11, List.getElem_set_self]
  exact hj
theorem PMd.start (h : RdAt w ρ rb R sv (.slice (some ⟨g, 0, none⟩) R.wns.length cap)) (hx : R.wns[q]? = some x) (hp : PxAt s0 w p cv) (ho : w.ownsRow w0.heap.size 9 1 tv out.length (out.map Value.string)) : PMd w0 w ρ rb s0 g cap q R sv cv tv x x.shift p out w := by
  refine ⟨?_, hp, ho⟩
  have hq := (List.getElem?_eq_some_iff.1 hx).1
  have hxe := (List.getElem?_eq_some_iff.1 hx).2
  have e : R.wns.set q { x with shift := x.shift } = R.wns := by
    show R.wns.set q x = R.wns
    rw [← hxe]
    exact List.set_getElem_self hq
  rw [e]
  exact h.mid _
theorem PMd.shift (h : PMd w0 w ρ rb s0 g cap q R sv cv tv x sh p out W) (hrm : ρ rb = 1) (hg : ρ g = 3) (hq : q < R.wns.length) (h0 : ρ s0 = 0) (ht : ∀ b, tv.ownBlock = some b → ρ b = 0) (sh' : Int) : PMd w0 w ρ rb s0 g cap q R sv cv tv x sh' p out (W.setCell ⟨g, q * 11 + 9, none⟩ (.int .i64 sh')) := by
  have hc : Chg (fun b => b = g) W (W.setCell ⟨g, q * 11 + 9, none⟩ (.int .i64 sh')) := (Chg.refl (fun b => b = g) _).setCell ⟨g, q * 11 + 9, none⟩ (.inl rfl) _
  have hset := h.m.setW (i := q) (g := g) (cap := cap) hrm (by simp only [List.length_set]) (.inl (.inr (.inr hg))) (by simp only [List.length_set]; exact hq) 9 (by omega) (.int .i64 sh') { x with shift := sh' } (by simp only [List.getElem_set_self]; rfl)
  simp only [List.set_set] at hset
  exact ⟨hset, h.p.chg hc (fun e => by rw [e, hg] at h0; cases h0), rowA_chg hc h.o (fun b hb e => by have := ht b hb; rw [e, hg] at this; cases this)⟩
/-- the list of what went has grown and is stored -/
theorem PMd.done {av' : Value} {s1 : Nat} {y : PP} (h : PMd w0 w ρ rb s0 g cap q R sv cv tv x sh p out W) (h0 : RdAt w ρ rb R sv (.slice (some ⟨g, 0, none⟩) R.wns.length cap)) (hx : R.wns[q]? = some x) (hsh : rShift x p.nu = sh) (hs0 : ρ s0 = 0) (hs0l : s0 < w.heap.size) (ht : ∀ b, tv.ownBlock = some b → ρ b = 0 ∧ b < w.heap.size) (hcv : IsC (fun b => ρ b = 4) w cv p.cl)
    (hr : W.ownsRow 0 152 12 av' (x.all.length + 1) ((x.all ++ [(⟨rPassX x p, cv, -1⟩ : Re)]).flatMap cRe)) (ho : ∀ b, av'.ownBlock = some b → ρ b = 1000 + x.id.toNat ∨ w.heap.size ≤ b) (hy : PxAt s1 W y cv) (hs1 : w.heap.size ≤ s1) (hav : av'.ownBlock ≠ some s1) :
    ∃ ρ2, RdAt (W.setCell ⟨g, q * 11 + 8, none⟩ av') ρ2 rb { R with wns := R.wns.set q (rPassW x p cv av') } sv (.slice (some ⟨g, 0, none⟩) R.wns.length cap) ∧ RMv w ρ (W.setCell ⟨g, q * 11 + 8, none⟩ av') ρ2 ∧ (W.setCell ⟨g, q * 11 + 8, none⟩ av').ownsRow w0.heap.size 9 1 tv out.length (out.map Value.string) ∧ (∀ b, tv.ownBlock = some b → ρ2 b = 0) ∧ PxAt s0 (W.setCell ⟨g, q * 11 + 8, none⟩ av') p cv ∧ IsC (fun b => ρ2 b = 4) (W.setCell ⟨g, q * 11 + 8, none⟩ av') cv p.cl ∧ ρ2 s0 = 0 ∧ PxAt s1 (W.setCell ⟨g, q * 11 + 8, none⟩ av') y cv ∧ ρ2 s1 = 0 := by
  subst hsh
  have hg3 : ρ g = 3 := h0.wr.2 g rfl
  have hgl : g < w.heap.size := (h0.wr.1.lt g rfl).2
  have hc : Chg (fun b => b = g) W (W.setCell ⟨g, q * 11 + 8, none⟩ av') := (Chg.refl (fun b => b = g) _).setCell ⟨g, q * 11 + 8, none⟩ (.inl rfl) _
  obtain ⟨a1, a2⟩ := h0.pass hx h.m hr ho hcv
  refine ⟨_, a1, a2, rowA_chg hc h.o (fun b hb e => by have := (ht b hb).1; rw [e, hg3] at this; cases this), fun b hb => a2.1 b (ht b hb).2 (ht b hb).1, h.p.chg hc (fun e => by rw [e, hg3] at hs0; cases hs0), ?_, a2.1 s0 hs0l hs0, hy.chg hc (fun e => by omega), ?_⟩
  · have hC2 := (hcv.mono (C' := fun b => ρ b = 4 ∧ b < w.heap.size) (fun b hb e => ⟨e, hb⟩)).chg h.m.c (fun b hb e => by
      have := hb.1
      rcases e with e | e | e <;> omega)
    refine (hC2.chg hc (fun b hb e => by rw [e, hg3] at hb; omega)).mono (fun b _ e => ?_)
    rw [role_out (fun e' => by
      have := e.1
      rcases ho b e' with o | o <;> omega)]
    exact e.1
  · rw [role_out hav]
    exact h0.hi s1 hs1
end
end Pk
end Go.Proofs.YtdjhhnolcafkiaaGreat

/- The three boxes of the document's reader of packets: what is told, what is none, what is gathered. -/
namespace Go.Proofs.YtdjhhnolcafkiaaGreat
open Go.RowKit
namespace Pk

structure RS (w W : World) (x0 x1 x2 x3 x4 x5 x6 x7 x8 x9 x10 : Value) : Prop where
  bel : Below w.heap.size w W
  siz : w.heap.size + 1 + 1 < W.heap.size
  r0 : W.cell? ⟨w.heap.size, 0, none⟩ = some (.bool false)
  r1 : W.cell? ⟨w.heap.size, 1, none⟩ = some (.int .i64 0)
  r2 : W.cell? ⟨w.heap.size, 2, none⟩ = some (.int .i64 0)
  r3 : W.cell? ⟨w.heap.size, 3, none⟩ = some (.int .i64 0)
  r4 : W.cell? ⟨w.heap.size, 4, none⟩ = some (.int .i64 0)
  r5 : W.cell? ⟨w.heap.size, 5, none⟩ = some (.slice none 0 0)
  r6 : W.cell? ⟨w.heap.size, 6, none⟩ = some (.bool false)
  r7 : W.cell? ⟨w.heap.size, 7, none⟩ = some (.int .i64 0)
  r8 : W.cell? ⟨w.heap.size, 8, none⟩ = some (.string ⟨#[]⟩)
  r9 : W.cell? ⟨w.heap.size, 9, none⟩ = some (.string ⟨#[]⟩)
  r10 : W.cell? ⟨w.heap.size, 10, none⟩ = some (.int .i64 0)
  n0 : W.cell? ⟨w.heap.size + 1, 0, none⟩ = some (.bool false)
  n1 : W.cell? ⟨w.heap.size + 1, 1, none⟩ = some (.int .i64 0)
  n2 : W.cell? ⟨w.heap.size + 1, 2, none⟩ = some (.int .i64 0)
  n3 : W.cell? ⟨w.heap.size + 1, 3, none⟩ = some (.int .i64 0)
  n4 : W.cell? ⟨w.heap.size + 1, 4, none⟩ = some (.int .i64 0)
  n5 : W.cell? ⟨w.heap.size + 1, 5, none⟩ = some (.slice none 0 0)
  n6 : W.cell? ⟨w.heap.size + 1, 6, none⟩ = some (.bool false)
  n7 : W.cell? ⟨w.heap.size + 1, 7, none⟩ = some (.int .i64 0)
  n8 : W.cell? ⟨w.heap.size + 1, 8, none⟩ = some (.string ⟨#[]⟩)
  n9 : W.cell? ⟨w.heap.size + 1, 9, none⟩ = some (.string ⟨#[]⟩)
  n10 : W.cell? ⟨w.heap.size + 1, 10, none⟩ = some (.int .i64 0)
  y0 : W.cell? ⟨w.heap.size + 1 + 1, 0, none⟩ = some x0
  y1 : W.cell? ⟨w.heap.size + 1 + 1, 1, none⟩ = some x1
  y2 : W.cell? ⟨w.heap.size + 1 + 1, 2, none⟩ = some x2
  y3 : W.cell? ⟨w.heap.size + 1 + 1, 3, none⟩ = some x3
  y4 : W.cell? ⟨w.heap.size + 1 + 1, 4, none⟩ = some x4
  y5 : W.cell? ⟨w.heap.size + 1 + 1, 5, none⟩ = some x5
  y6 : W.cell? ⟨w.heap.size + 1 + 1, 6, none⟩ = some x6
  y7 : W.cell? ⟨w.heap.size + 1 + 1, 7, none⟩ = some x7
  y8 : W.cell? ⟨w.heap.size + 1 + 1, 8, none⟩ = some x8
  y9 : W.cell? ⟨w.heap.size + 1 + 1, 9, none⟩ = some x9
  y10 : W.cell? ⟨w.heap.size + 1 + 1, 10, none⟩ = some x10
  fr : ∀ o, W.frozen? ⟨w.heap.size, o, none⟩ = false
  fy : ∀ o, W.frozen? ⟨w.heap.size + 1 + 1, o, none⟩ = false

theorem RS.below {w W : World} {x0 x1 x2 x3 x4 x5 x6 x7 x8 x9 x10 : Value} {W' : World} (h : RS w W x0 x1 x2 x3 x4 x5 x6 x7 x8 x9 x10) (hb : Below (w.heap.size + 1 + 1 + 1) W W') : RS w W' x0 x1 x2 x3 x4 x5 x6 x7 x8 x9 x10 := by
  have hs := h.siz
  obtain ⟨a1, a2⟩ := kept_below hb w.heap.size (by omega)
  obtain ⟨b1, _⟩ := kept_below hb (w.heap.size + 1) (by omega)
  obtain ⟨c1, c2⟩ := kept_below hb (w.heap.size + 1 + 1) (by omega)
  exact ⟨h.bel.trans (hb.mono (by omega)), by have := hb.size; omega, (a1 0).trans h.r0, (a1 1).trans h.r1, (a1 2).trans h.r2, (a1 3).trans h.r3, (a1 4).trans h.r4, (a1 5).trans h.r5, (a1 6).trans h.r6, (a1 7).trans h.r7, (a1 8).trans h.r8, (a1 9).trans h.r9, (a1 10).trans h.r10, (b1 0).trans h.n0, (b1 1).trans h.n1, (b1 2).trans h.n2, (b1 3).trans h.n3, (b1 4).trans h.n4, (b1 5).trans h.n5, (b1 6).trans h.n6, (b1 7).trans h.n7, (b1 8).trans h.n8, (b1 9).trans h.n9, (b1 10).trans h.n10, (c1 0).trans h.y0, (c1 1).trans h.y1, (c1 2).trans h.y2, (c1 3).trans h.y3, (c1 4).trans h.y4, (c1 5).trans h.y5, (c1 6).trans h.y6, (c1 7).trans h.y7, (c1 8).trans h.y8, (c1 9).trans h.y9, (c1 10).trans h.y10, fun o => (a2 o).trans (h.fr o), fun o => (c2 o).trans (h.fy o)⟩

theorem RS.set5 {w W : World} {x0 x1 x2 x3 x4 x5 x6 x7 x8 x9 x10 : Value} (h : RS w W x0 x1 x2 x3 x4 x5 x6 x7 x8 x9 x10) (v : Value) : RS w (W.setCell ⟨w.heap.size + 1 + 1, 5, none⟩ v) x0 x1 x2 x3 x4 v x6 x7 x8 x9 x10 :=
  ⟨h.bel.setCell (by simp <;> omega) _, by have := h.siz; simpa using this, (World.cell?_setCell_other _ ⟨w.heap.size + 1 + 1, 5, none⟩ ⟨w.heap.size, 0, none⟩ _ (by simp <;> omega)).trans h.r0, (World.cell?_setCell_other _ ⟨w.heap.size + 1 + 1, 5, none⟩ ⟨w.heap.size, 1, none⟩ _ (by simp <;> omega)).trans h.r1, (World.cell?_setCell_other _ ⟨w.heap.size + 1 + 1, 5, none⟩ ⟨w.heap.size, 2, none⟩ _ (by simp <;> omega)).trans h.r2, (World.cell?_setCell_other _ ⟨w.heap.size + 1 + 1, 5, none⟩ ⟨w.heap.size, 3, none⟩ _ (by simp <;> omega)).trans h.r3, (World.cell?_setCell_other _ ⟨w.heap.size + 1 + 1, 5, none⟩ ⟨w.heap.size, 4, none⟩ _ (by simp <;> omega)).trans h.r4, (World.cell?_setCell_other _ ⟨w.heap.size + 1 + 1, 5, none⟩ ⟨w.heap.size, 5, none⟩ _ (by simp <;> omega)).trans h.r5, (World.cell?_setCell_other _ ⟨w.heap.size + 1 + 1, 5, none⟩ ⟨w.heap.size, 6, none⟩ _ (by simp <;> omega)).trans h.r6, (World.cell?_setCell_other _ ⟨w.heap.size + 1 + 1, 5, none⟩ ⟨w.heap.size, 7, none⟩ _ (by simp <;> omega)).trans h.r7, (World.cell?_setCell_other _ ⟨w.heap.size + 1 + 1, 5, none⟩ ⟨w.heap.size, 8, none⟩ _ (by simp <;> omega)).trans h.r8, (World.cell?_setCell_other _ ⟨w.heap.size + 1 + 1, 5, none⟩ ⟨w.heap.size, 9, none⟩ _ (by simp <;> omega)).trans h.r9, (World.cell?_setCell_other _ ⟨w.heap.size + 1 + 1, 5, none⟩ ⟨w.heap.size, 10, none⟩ _ (by simp <;> omega)).trans h.r10, (World.cell?_setCell_other _ ⟨w.heap.size + 1 + 1, 5, none⟩ ⟨w.heap.size + 1, 0, none⟩ _ (by simp <;> omega)).trans h.n0, (World.cell?_setCell_other _ ⟨w.heap.size + 1 + 1, 5, none⟩ ⟨w.heap.size + 1, 1, none⟩ _ (by simp <;> omega)).trans h.n1, (World.cell?_setCell_other _ ⟨w.heap.size + 1 + 1, 5, none⟩ ⟨w.heap.size + 1, 2, none⟩ _ (by simp <;> omega)).trans h.n2, (World.cell?_setCell_other _ ⟨w.heap.size + 1 + 1, 5, none⟩ ⟨w.heap.size + 1, 3, none⟩ _ (by simp <;> omega)).trans h.n3, (World.cell?_setCell_other _ ⟨w.heap.size + 1 + 1, 5, none⟩ ⟨w.heap.size + 1, 4, none⟩ _ (by simp <;> omega)).trans h.n4, (World.cell?_setCell_other _ ⟨w.heap.size + 1 + 1, 5, none⟩ ⟨w.heap.size + 1, 5, none⟩ _ (by simp <;> omega)).trans h.n5, (World.cell?_setCell_other _ ⟨w.heap.size + 1 + 1, 5, none⟩ ⟨w.heap.size + 1, 6, none⟩ _ (by simp <;> omega)).trans h.n6, (World.cell?_setCell_other _ ⟨w.heap.size + 1 + 1, 5, none⟩ ⟨w.heap.size + 1, 7, none⟩ _ (by simp <;> omega)).trans h.n7, (World.cell?_setCell_other _ ⟨w.heap.size + 1 + 1, 5, none⟩ ⟨w.heap.size + 1, 8, none⟩ _ (by simp <;> omega)).trans h.n8, (World.cell?_setCell_other _ ⟨w.heap.size + 1 + 1, 5, none⟩ ⟨w.heap.size + 1, 9, none⟩ _ (by simp <;> omega)).trans h.n9, (World.cell?_setCell_other _ ⟨w.heap.size + 1 + 1, 5, none⟩ ⟨w.heap.size + 1, 10, none⟩ _ (by simp <;> omega)).trans h.n10, (World.cell?_setCell_other _ ⟨w.heap.size + 1 + 1, 5, none⟩ ⟨w.heap.size + 1 + 1, 0, none⟩ _ (by simp <;> omega)).trans h.y0, (World.cell?_setCell_other _ ⟨w.heap.size + 1 + 1, 5, none⟩ ⟨w.heap.size + 1 + 1, 1, none⟩ _ (by simp <;> omega)).trans h.y1, (World.cell?_setCell_other _ ⟨w.heap.size + 1 + 1, 5, none⟩ ⟨w.heap.size + 1 + 1, 2, none⟩ _ (by simp <;> omega)).trans h.y2, (World.cell?_setCell_other _ ⟨w.heap.size + 1 + 1, 5, none⟩ ⟨w.heap.size + 1 + 1, 3, none⟩ _ (by simp <;> omega)).trans h.y3, (World.cell?_setCell_other _ ⟨w.heap.size + 1 + 1, 5, none⟩ ⟨w.heap.size + 1 + 1, 4, none⟩ _ (by simp <;> omega)).trans h.y4, World.cell?_setCell_same _ _ _ h.y5, (World.cell?_setCell_other _ ⟨w.heap.size + 1 + 1, 5, none⟩ ⟨w.heap.size + 1 + 1, 6, none⟩ _ (by simp <;> omega)).trans h.y6, (World.cell?_setCell_other _ ⟨w.heap.size + 1 + 1, 5, none⟩ ⟨w.heap.size + 1 + 1, 7, none⟩ _ (by simp <;> omega)).trans h.y7, (World.cell?_setCell_other _ ⟨w.heap.size + 1 + 1, 5, none⟩ ⟨w.heap.size + 1 + 1, 8, none⟩ _ (by simp <;> omega)).trans h.y8, (World.cell?_setCell_other _ ⟨w.heap.size + 1 + 1, 5, none⟩ ⟨w.heap.size + 1 + 1, 9, none⟩ _ (by simp <;> omega)).trans h.y9, (World.cell?_setCell_other _ ⟨w.heap.size + 1 + 1, 5, none⟩ ⟨w.heap.size + 1 + 1, 10, none⟩ _ (by simp <;> omega)).trans h.y10, fun o => by rw [World.frozen?_setCell]; exact h.fr o, fun o => by rw [World.frozen?_setCell]; exact h.fy o⟩
theorem RS.set6 {w W : World} {x0 x1 x2 x3 x4 x5 x6 x7 x8 x9 x10 : Value} (h : RS w W x0 x1 x2 x3 x4 x5 x6 x7 x8 x9 x10) (v : Value) : RS w (W.setCell ⟨w.heap.size + 1 + 1, 6, none⟩ v) x0 x1 x2 x3 x4 x5 v x7 x8 x9 x10 :=
  ⟨h.bel.setCell (by simp <;> omega) _, by have := h.siz; simpa using this, (World.cell?_setCell_other _ ⟨w.heap.size + 1 + 1, 6, none⟩ ⟨w.heap.size, 0, none⟩ _ (by simp <;> omega)).trans h.r0, (World.cell?_setCell_other _ ⟨w.heap.size + 1 + 1, 6, none⟩ ⟨w.heap.size, 1, none⟩ _ (by simp <;> omega)).trans h.r1, (World.cell?_setCell_other _ ⟨w.heap.size + 1 + 1, 6, none⟩ ⟨w.heap.size, 2, none⟩ _ (by simp <;> omega)).trans h.r2, (World.cell?_setCell_other _ ⟨w.heap.size + 1 + 1, 6, none⟩ ⟨w.heap.size, 3, none⟩ _ (by simp <;> omega)).trans h.r3, (World.cell?_setCell_other _ ⟨w.heap.size + 1 + 1, 6, none⟩ ⟨w.heap.size, 4, none⟩ _ (by simp <;> omega)).trans h.r4, (World.cell?_setCell_other _ ⟨w.heap.size + 1 + 1, 6, none⟩ ⟨w.heap.size, 5, none⟩ _ (by simp <;> omega)).trans h.r5, (World.cell?_setCell_other _ ⟨w.heap.size + 1 + 1, 6, none⟩ ⟨w.heap.size, 6, none⟩ _ (by simp <;> omega)).trans h.r6, (World.cell?_setCell_other _ ⟨w.heap.size + 1 + 1, 6, none⟩ ⟨w.heap.size, 7, none⟩ _ (by simp <;> omega)).trans h.r7, (World.cell?_setCell_other _ ⟨w.heap.size + 1 + 1, 6, none⟩ ⟨w.heap.size, 8, none⟩ _ (by simp <;> omega)).trans h.r8, (World.cell?_setCell_other _ ⟨w.heap.size + 1 + 1, 6, none⟩ ⟨w.heap.size, 9, none⟩ _ (by simp <;> omega)).trans h.r9, (World.cell?_setCell_other _ ⟨w.heap.size + 1 + 1, 6, none⟩ ⟨w.heap.size, 10, none⟩ _ (by simp <;> omega)).trans h.r10, (World.cell?_setCell_other _ ⟨w.heap.size + 1 + 1, 6, none⟩ ⟨w.heap.size + 1, 0, none⟩ _ (by simp <;> omega)).trans h.n0, (World.cell?_setCell_other _ ⟨w.heap.size + 1 + 1, 6, none⟩ ⟨w.heap.size + 1, 1, none⟩ _ (by simp <;> omega)).trans h.n1, (World.cell?_setCell_other _ ⟨w.heap.size + 1 + 1, 6, none⟩ ⟨w.heap.size + 1, 2, none⟩ _ (by simp <;> omega)).trans h.n2, (World.cell?_setCell_other _ ⟨w.heap.size + 1 + 1, 6, none⟩ ⟨w.heap.size + 1, 3, none⟩ _ (by simp <;> omega)).trans h.n3, (World.cell?_setCell_other _ ⟨w.heap.size + 1 + 1, 6, none⟩ ⟨w.heap.size + 1, 4, none⟩ _ (by simp <;> omega)).trans h.n4, (World.cell?_setCell_other _ ⟨w.heap.size + 1 + 1, 6, none⟩ ⟨w.heap.size + 1, 5, none⟩ _ (by simp <;> omega)).trans h.n5, (World.cell?_setCell_other _ ⟨w.heap.size + 1 + 1, 6, none⟩ ⟨w.heap.size + 1, 6, none⟩ _ (by simp <;> omega)).trans h.n6, (World.cell?_setCell_other _ ⟨w.heap.size + 1 + 1, 6, none⟩ ⟨w.heap.size + 1, 7, none⟩ _ (by simp <;> omega)).trans h.n7, (World.cell?_setCell_other _ ⟨w.heap.size + 1 + 1, 6, none⟩ ⟨w.heap.size + 1, 8, none⟩ _ (by simp <;> omega)).trans h.n8, (World.cell?_setCell_other _ ⟨w.heap.size + 1 + 1, 6, none⟩ ⟨w.heap.size + 1, 9, none⟩ _ (by simp <;> omega)).trans h.n9, (World.cell?_setCell_other _ ⟨w.heap.size + 1 + 1, 6, none⟩ ⟨w.heap.size + 1, 10, none⟩ _ (by simp <;> omega)).trans h.n10, (World.cell?_setCell_other _ ⟨w.heap.size + 1 + 1, 6, none⟩ ⟨w.heap.size + 1 + 1, 0, none⟩ _ (by simp <;> omega)).trans h.y0, (World.cell?_setCell_other _ ⟨w.heap.size + 1 + 1, 6, none⟩ ⟨w.heap.size + 1 + 1, 1, none⟩ _ (by simp <;> omega)).trans h.y1, (World.cell?_setCell_other _ ⟨w.heap.size + 1 + 1, 6, none⟩ ⟨w.heap.size + 1 + 1, 2, none⟩ _ (by simp <;> omega)).trans h.y2, (World.cell?_setCell_other _ ⟨w.heap.size + 1 + 1, 6, none⟩ ⟨w.heap.size + 1 + 1, 3, none⟩ _ (by simp <;> omega)).trans h.y3, (World.cell?_setCell_other _ ⟨w.heap.size + 1 + 1, 6, none⟩ ⟨w.heap.size + 1 + 1, 4, none⟩ _ (by simp <;> omega)).trans h.y4, (World.cell?_setCell_other _ ⟨w.heap.size + 1 + 1, 6, none⟩ ⟨w.heap.size + 1 + 1, 5, none⟩ _ (by simp <;> omega)).trans h.y5, World.cell?_setCell_same _ _ _ h.y6, (World.cell?_setCell_other _ ⟨w.heap.size + 1 + 1, 6, none⟩ ⟨w.heap.size + 1 + 1, 7, none⟩ _ (by simp <;> omega)).trans h.y7, (World.cell?_setCell_other _ ⟨w.heap.size + 1 + 1, 6, none⟩ ⟨w.heap.size + 1 + 1, 8, none⟩ _ (by simp <;> omega)).trans h.y8, (World.cell?_setCell_other _ ⟨w.heap.size + 1 + 1, 6, none⟩ ⟨w.heap.size + 1 + 1, 9, none⟩ _ (by simp <;> omega)).trans h.y9, (World.cell?_setCell_other _ ⟨w.heap.size + 1 + 1, 6, none⟩ ⟨w.heap.size + 1 + 1, 10, none⟩ _ (by simp <;> omega)).trans h.y10, fun o => by rw [World.frozen?_setCell]; exact h.fr o, fun o => by rw [World.frozen?_setCell]; exact h.fy o⟩
theorem RS.set7 {w W : World} {x0 x1 x2 x3 x4 x5 x6 x7 x8 x9 x10 : Value} (h : RS w W x0 x1 x2 x3 x4 x5 x6 x7 x8 x9 x10) (v : Value) : RS w (W.setCell ⟨w.heap.size + 1 + 1, 7, none⟩ v) x0 x1 x2 x3 x4 x5 x6 v x8 x9 x10 :=
  ⟨h.bel.setCell (by simp <;> omega) _, by have := h.siz; simpa using this, (World.cell?_setCell_other _ ⟨w.heap.size + 1 + 1, 7, none⟩ ⟨w.heap.size, 0, none⟩ _ (by simp <;> omega)).trans h.r0, (World.cell?_setCell_other _ ⟨w.heap.size + 1 + 1, 7, none⟩ ⟨w.heap.size, 1, none⟩ _ (by simp <;> omega)).trans h.r1, (World.cell?_setCell_other _ ⟨w.heap.size + 1 + 1, 7, none⟩ ⟨w.heap.size, 2, none⟩ _ (by simp <;> omega)).trans h.r2, (World.cell?_setCell_other _ ⟨w.heap.size + 1 + 1, 7, none⟩ ⟨w.heap.size, 3, none⟩ _ (by simp <;> omega)).trans h.r3, (World.cell?_setCell_other _ ⟨w.heap.size + 1 + 1, 7, none⟩ ⟨w.heap.size, 4, none⟩ _ (by simp <;> omega)).trans h.r4, (World.cell?_setCell_other _ ⟨w.heap.size + 1 + 1, 7, none⟩ ⟨w.heap.size, 5, none⟩ _ (by simp <;> omega)).trans h.r5, (World.cell?_setCell_other _ ⟨w.heap.size + 1 + 1, 7, none⟩ ⟨w.heap.size, 6, none⟩ _ (by simp <;> omega)).trans h.r6, (World.cell?_setCell_other _ ⟨w.heap.size + 1 + 1, 7, none⟩ ⟨w.heap.size, 7, none⟩ _ (by simp <;> omega)).trans h.r7, (World.cell?_setCell_other _ ⟨w.heap.size + 1 + 1, 7, none⟩ ⟨w.heap.size, 8, none⟩ _ (by simp <;> omega)).trans h.r8, (World.cell?_setCell_other _ ⟨w.heap.size + 1 + 1, 7, none⟩ ⟨w.heap.size, 9, none⟩ _ (by simp <;> omega)).trans h.r9, (World.cell?_setCell_other _ ⟨w.heap.size + 1 + 1, 7, none⟩ ⟨w.heap.size, 10, none⟩ _ (by simp <;> omega)).trans h.r10, (World.cell?_setCell_other _ ⟨w.heap.size + 1 + 1, 7, none⟩ ⟨w.heap.size + 1, 0, none⟩ _ (by simp <;> omega)).trans h.n0, (World.cell?_setCell_other _ ⟨w.heap.size + 1 + 1, 7, none⟩ ⟨w.heap.size + 1, 1, none⟩ _ (by simp <;> omega)).trans h.n1, (World.cell?_setCell_other _ ⟨w.heap.size + 1 + 1, 7, none⟩ ⟨w.heap.size + 1, 2, none⟩ _ (by simp <;> omega)).trans h.n2, (World.cell?_setCell_other _ ⟨w.heap.size + 1 + 1, 7, none⟩ ⟨w.heap.size + 1, 3, none⟩ _ (by simp <;> omega)).trans h.n3, (World.cell?_setCell_other _ ⟨w.heap.size + 1 + 1, 7, none⟩ ⟨w.heap.size + 1, 4, none⟩ _ (by simp <;> omega)).trans h.n4, (World.cell?_setCell_other _ ⟨w.heap.size + 1 + 1, 7, none⟩ ⟨w.heap.size + 1, 5, none⟩ _ (by simp <;> omega)).trans h.n5, (World.cell?_setCell_other _ ⟨w.heap.size + 1 + 1, 7, none⟩ ⟨w.heap.size + 1, 6, none⟩ _ (by simp <;> omega)).trans h.n6, (World.cell?_setCell_other _ ⟨w.heap.size + 1 + 1, 7, none⟩ ⟨w.heap.size + 1, 7, none⟩ _ (by simp <;> omega)).trans h.n7, (World.cell?_setCell_other _ ⟨w.heap.size + 1 + 1, 7, none⟩ ⟨w.heap.size + 1, 8, none⟩ _ (by simp <;> omega)).trans h.n8, (World.cell?_setCell_other _ ⟨w.heap.size + 1 + 1, 7, none⟩ ⟨w.heap.size + 1, 9, none⟩ _ (by simp <;> omega)).trans h.n9, (World.cell?_setCell_other _ ⟨w.heap.size + 1 + 1, 7, none⟩ ⟨w.heap.size + 1, 10, none⟩ _ (by simp <;> omega)).trans h.n10, (World.cell?_setCell_other _ ⟨w.heap.size + 1 + 1, 7, none⟩ ⟨w.heap.size + 1 + 1, 0, none⟩ _ (by simp <;> omega)).trans h.y0, (World.cell?_setCell_other _ ⟨w.heap.size + 1 + 1, 7, none⟩ ⟨w.heap.size + 1 + 1, 1, none⟩ _ (by simp <;> omega)).trans h.y1, (World.cell?_setCell_other _ ⟨w.heap.size + 1 + 1, 7, none⟩ ⟨w.heap.size + 1 + 1, 2, none⟩ _ (by simp <;> omega)).trans h.y2, (World.cell?_setCell_other _ ⟨w.heap.size + 1 + 1, 7, none⟩ ⟨w.heap.size + 1 + 1, 3, none⟩ _ (by simp <;> omega)).trans h.y3, (World.cell?_setCell_other _ ⟨w.heap.size + 1 + 1, 7, none⟩ ⟨w.heap.size + 1 + 1, 4, none⟩ _ (by simp <;> omega)).trans h.y4, (World.cell?_setCell_other _ ⟨w.heap.size + 1 + 1, 7, none⟩ ⟨w.heap.size + 1 + 1, 5, none⟩ _ (by simp <;> omega)).trans h.y5, (World.cell?_setCell_other _ ⟨w.heap.size + 1 + 1, 7, none⟩ ⟨w.heap.size + 1 + 1, 6, none⟩ _ (by simp <;> omega)).trans h.y6, World.cell?_setCell_same _ _ _ h.y7, (World.cell?_setCell_other _ ⟨w.heap.size + 1 + 1, 7, none⟩ ⟨w.heap.size + 1 + 1, 8, none⟩ _ (by simp <;> omega)).trans h.y8, (World.cell?_setCell_other _ ⟨w.heap.size + 1 + 1, 7, none⟩ ⟨w.heap.size + 1 + 1, 9, none⟩ _ (by simp <;> omega)).trans h.y9, (World.cell?_setCell_other _ ⟨w.heap.size + 1 + 1, 7, none⟩ ⟨w.heap.size + 1 + 1, 10, none⟩ _ (by simp <;> omega)).trans h.y10, fun o => by rw [World.frozen?_setCell]; exact h.fr o, fun o => by rw [World.frozen?_setCell]; exact h.fy o⟩
theorem RS.set8 {w W : World} {x0 x1 x2 x3 x4 x5 x6 x7 x8 x9 x10 : Value} (h : RS w W x0 x1 x2 x3 x4 x5 x6 x7 x8 x9 x10) (v : Value) : RS w (W.setCell ⟨w.heap.size + 1 + 1, 8, none⟩ v) x0 x1 x2 x3 x4 x5 x6 x7 v x9 x10 :=
  ⟨h.bel.setCell (by simp <;> omega) _, by have := h.siz; simpa using this, (World.cell?_setCell_other _ ⟨w.heap.size + 1 + 1, 8, none⟩ ⟨w.heap.size, 0, none⟩ _ (by simp <;> omega)).trans h.r0, (World.cell?_setCell_other _ ⟨w.heap.size + 1 + 1, 8, none⟩ ⟨w.heap.size, 1, none⟩ _ (by simp <;> omega)).trans h.r1, (World.cell?_setCell_other _ ⟨w.heap.size + 1 + 1, 8, none⟩ ⟨w.heap.size, 2, none⟩ _ (by simp <;> omega)).trans h.r2, (World.cell?_setCell_other _ ⟨w.heap.size + 1 + 1, 8, none⟩ ⟨w.heap.size, 3, none⟩ _ (by simp <;> omega)).trans h.r3, (World.cell?_setCell_other _ ⟨w.heap.size + 1 + 1, 8, none⟩ ⟨w.heap.size, 4, none⟩ _ (by simp <;> omega)).trans h.r4, (World.cell?_setCell_other _ ⟨w.heap.size + 1 + 1, 8, none⟩ ⟨w.heap.size, 5, none⟩ _ (by simp <;> omega)).trans h.r5, (World.cell?_setCell_other _ ⟨w.heap.size + 1 + 1, 8, none⟩ ⟨w.heap.size, 6, none⟩ _ (by simp <;> omega)).trans h.r6, (World.cell?_setCell_other _ ⟨w.heap.size + 1 + 1, 8, none⟩ ⟨w.heap.size, 7, none⟩ _ (by simp <;> omega)).trans h.r7, (World.cell?_setCell_other _ ⟨w.heap.size + 1 + 1, 8, none⟩ ⟨w.heap.size, 8, none⟩ _ (by simp <;> omega)).trans h.r8, (World.cell?_setCell_other _ ⟨w.heap.size + 1 + 1, 8, none⟩ ⟨w.heap.size, 9, none⟩ _ (by simp <;> omega)).trans h.r9, (World.cell?_setCell_other _ ⟨w.heap.size + 1 + 1, 8, none⟩ ⟨w.heap.size, 10, none⟩ _ (by simp <;> omega)).trans h.r10, (World.cell?_setCell_other _ ⟨w.heap.size + 1 + 1, 8, none⟩ ⟨w.heap.size + 1, 0, none⟩ _ (by simp <;> omega)).trans h.n0, (World.cell?_setCell_other _ ⟨w.heap.size + 1 + 1, 8, none⟩ ⟨w.heap.size + 1, 1, none⟩ _ (by simp <;> omega)).trans h.n1, (World.cell?_setCell_other _ ⟨w.heap.size + 1 + 1, 8, none⟩ ⟨w.heap.size + 1, 2, none⟩ _ (by simp <;> omega)).trans h.n2, (World.cell?_setCell_other _ ⟨w.heap.size + 1 + 1, 8, none⟩ ⟨w.heap.size + 1, 3, none⟩ _ (by simp <;> omega)).trans h.n3, (World.cell?_setCell_other _ ⟨w.heap.size + 1 + 1, 8, none⟩ ⟨w.heap.size + 1, 4, none⟩ _ (by simp <;> omega)).trans h.n4, (World.cell?_setCell_other _ ⟨w.heap.size + 1 + 1, 8, none⟩ ⟨w.heap.size + 1, 5, none⟩ _ (by simp <;> omega)).trans h.n5, (World.cell?_setCell_other _ ⟨w.heap.size + 1 + 1, 8, none⟩ ⟨w.heap.size + 1, 6, none⟩ _ (by simp <;> omega)).trans h.n6, (World.cell?_setCell_other _ ⟨w.heap.size + 1 + 1, 8, none⟩ ⟨w.heap.size + 1, 7, none⟩ _ (by simp <;> omega)).trans h.n7, (World.cell?_setCell_other _ ⟨w.heap.size + 1 + 1, 8, none⟩ ⟨w.heap.size + 1, 8, none⟩ _ (by simp <;> omega)).trans h.n8, (World.cell?_setCell_other _ ⟨w.heap.size + 1 + 1, 8, none⟩ ⟨w.heap.size + 1, 9, none⟩ _ (by simp <;> omega)).trans h.n9, (World.cell?_setCell_other _ ⟨w.heap.size + 1 + 1, 8, none⟩ ⟨w.heap.size + 1, 10, none⟩ _ (by simp <;> omega)).trans h.n10, (World.cell?_setCell_other _ ⟨w.heap.size + 1 + 1, 8, none⟩ ⟨w.heap.size + 1 + 1, 0, none⟩ _ (by simp <;> omega)).trans h.y0, (World.cell?_setCell_other _ ⟨w.heap.size + 1 + 1, 8, none⟩ ⟨w.heap.size + 1 + 1, 1, none⟩ _ (by simp <;> omega)).trans h.y1, (World.cell?_setCell_other _ ⟨w.heap.size + 1 + 1, 8, none⟩ ⟨w.heap.size + 1 + 1, 2, none⟩ _ (by simp <;> omega)).trans h.y2, (World.cell?_setCell_other _ ⟨w.heap.size + 1 + 1, 8, none⟩ ⟨w.heap.size + 1 + 1, 3, none⟩ _ (by simp <;> omega)).trans h.y3, (World.cell?_setCell_other _ ⟨w.heap.size + 1 + 1, 8, none⟩ ⟨w.heap.size + 1 + 1, 4, none⟩ _ (by simp <;> omega)).trans h.y4, (World.cell?_setCell_other _ ⟨w.heap.size + 1 + 1, 8, none⟩ ⟨w.heap.size + 1 + 1, 5, none⟩ _ (by simp <;> omega)).trans h.y5, (World.cell?_setCell_other _ ⟨w.heap.size + 1 + 1, 8, none⟩ ⟨w.heap.size + 1 + 1, 6, none⟩ _ (by simp <;> omega)).trans h.y6, (World.cell?_setCell_other _ ⟨w.heap.size + 1 + 1, 8, none⟩ ⟨w.heap.size + 1 + 1, 7, none⟩ _ (by simp <;> omega)).trans h.y7, World.cell?_setCell_same _ _ _ h.y8, (World.cell?_setCell_other _ ⟨w.heap.size + 1 + 1, 8, none⟩ ⟨w.heap.size + 1 + 1, 9, none⟩ _ (by simp <;> omega)).trans h.y9, (World.cell?_setCell_other _ ⟨w.heap.size + 1 + 1, 8, none⟩ ⟨w.heap.size + 1 + 1, 10, none⟩ _ (by simp <;> omega)).trans h.y10, fun o => by rw [World.frozen?_setCell]; exact h.fr o, fun o => by rw [World.frozen?_setCell]; exact h.fy o⟩
theorem RS.set9 {w W : World} {x0 x1 x2 x3 x4 x5 x6 x7 x8 x9 x10 : Value} (h : RS w W x0 x1 x2 x3 x4 x5 x6 x7 x8 x9 x10) (v : Value) : RS w (W.setCell ⟨w.heap.size + 1 + 1, 9, none⟩ v) x0 x1 x2 x3 x4 x5 x6 x7 x8 v x10 :=
  ⟨h.bel.setCell (by simp <;> omega) _, by have := h.siz; simpa using this, (World.cell?_setCell_other _ ⟨w.heap.size + 1 + 1, 9, none⟩ ⟨w.heap.size, 0, none⟩ _ (by simp <;> omega)).trans h.r0, (World.cell?_setCell_other _ ⟨w.heap.size + 1 + 1, 9, none⟩ ⟨w.heap.size, 1, none⟩ _ (by simp <;> omega)).trans h.r1, (World.cell?_setCell_other _ ⟨w.heap.size + 1 + 1, 9, none⟩ ⟨w.heap.size, 2, none⟩ _ (by simp <;> omega)).trans h.r2, (World.cell?_setCell_other _ ⟨w.heap.size + 1 + 1, 9, none⟩ ⟨w.heap.size, 3, none⟩ _ (by simp <;> omega)).trans h.r3, (World.cell?_setCell_other _ ⟨w.heap.size + 1 + 1, 9, none⟩ ⟨w.heap.size, 4, none⟩ _ (by simp <;> omega)).trans h.r4, (World.cell?_setCell_other _ ⟨w.heap.size + 1 + 1, 9, none⟩ ⟨w.heap.size, 5, none⟩ _ (by simp <;> omega)).trans h.r5, (World.cell?_setCell_other _ ⟨w.heap.size + 1 + 1, 9, none⟩ ⟨w.heap.size, 6, none⟩ _ (by simp <;> omega)).trans h.r6, (World.cell?_setCell_other _ ⟨w.heap.size + 1 + 1, 9, none⟩ ⟨w.heap.size, 7, none⟩ _ (by simp <;> omega)).trans h.r7, (World.cell?_setCell_other _ ⟨w.heap.size + 1 + 1, 9, none⟩ ⟨w.heap.size, 8, none⟩ _ (by simp <;> omega)).trans h.r8, (World.cell?_setCell_other _ ⟨w.heap.size + 1 + 1, 9, none⟩ ⟨w.heap.size, 9, none⟩ _ (by simp <;> omega)).trans h.r9, (World.cell?_setCell_other _ ⟨w.heap.size + 1 + 1, 9, none⟩ ⟨w.heap.size, 10, none⟩ _ (by simp <;> omega)).trans h.r10, (World.cell?_setCell_other _ ⟨w.heap.size + 1 + 1, 9, none⟩ ⟨w.heap.size + 1, 0, none⟩ _ (by simp <;> omega)).trans h.n0, (World.cell?_setCell_other _ ⟨w.heap.size + 1 + 1, 9, none⟩ ⟨w.heap.size + 1, 1, none⟩ _ (by simp <;> omega)).trans h.n1, (World.cell?_setCell_other _ ⟨w.heap.size + 1 + 1, 9, none⟩ ⟨w.heap.size + 1, 2, none⟩ _ (by simp <;> omega)).trans h.n2, (World.cell?_setCell_other _ ⟨w.heap.size + 1 + 1, 9, none⟩ ⟨w.heap.size + 1, 3, none⟩ _ (by simp <;> omega)).trans h.n3, (World.cell?_setCell_other _ ⟨w.heap.size + 1 + 1, 9, none⟩ ⟨w.heap.size + 1, 4, none⟩ _ (by simp <;> omega)).trans h.n4, (World.cell?_setCell_other _ ⟨w.heap.size + 1 + 1, 9, none⟩ ⟨w.heap.size + 1, 5, none⟩ _ (by simp <;> omega)).trans h.n5, (World.cell?_setCell_other _ ⟨w.heap.size + 1 + 1, 9, none⟩ ⟨w.heap.size + 1, 6, none⟩ _ (by simp <;> omega)).trans h.n6, (World.cell?_setCell_other _ ⟨w.heap.size + 1 + 1, 9, none⟩ ⟨w.heap.size + 1, 7, none⟩ _ (by simp <;> omega)).trans h.n7, (World.cell?_setCell_other _ ⟨w.heap.size + 1 + 1, 9, none⟩ ⟨w.heap.size + 1, 8, none⟩ _ (by simp <;> omega)).trans h.n8, (World.cell?_setCell_other _ ⟨w.heap.size + 1 + 1, 9, none⟩ ⟨w.heap.size + 1, 9, none⟩ _ (by simp <;> omega)).trans h.n9, (World.cell?_setCell_other _ ⟨w.heap.size + 1 + 1, 9, none⟩ ⟨w.heap.size + 1, 10, none⟩ _ (by simp <;> omega)).trans h.n10, (World.cell?_setCell_other _ ⟨w.heap.size + 1 + 1, 9, none⟩ ⟨w.heap.size + 1 + 1, 0, none⟩ _ (by simp <;> omega)).trans h.y0, (World.cell?_setCell_other _ ⟨w.heap.size + 1 + 1, 9, none⟩ ⟨w.heap.size + 1 + 1, 1, none⟩ _ (by simp <;> omega)).trans h.y1, (World.cell?_setCell_other _ ⟨w.heap.size + 1 + 1, 9, none⟩ ⟨w.heap.size + 1 + 1, 2, none⟩ _ (by simp <;> omega)).trans h.y2, (World.cell?_setCell_other _ ⟨w.heap.size + 1 + 1, 9, none⟩ ⟨w.heap.size + 1 + 1, 3, none⟩ _ (by simp <;> omega)).trans h.y3, (World.cell?_setCell_other _ ⟨w.heap.size + 1 + 1, 9, none⟩ ⟨w.heap.size + 1 + 1, 4, none⟩ _ (by simp <;> omega)).trans h.y4, (World.cell?_setCell_other _ ⟨w.heap.size + 1 + 1, 9, none⟩ ⟨w.heap.size + 1 + 1, 5, none⟩ _ (by simp <;> omega)).trans h.y5, (World.cell?_setCell_other _ ⟨w.heap.size + 1 + 1, 9, none⟩ ⟨w.heap.size + 1 + 1, 6, none⟩ _ (by simp <;> omega)).trans h.y6, (World.cell?_setCell_other _ ⟨w.heap.size + 1 + 1, 9, none⟩ ⟨w.heap.size + 1 + 1, 7, none⟩ _ (by simp <;> omega)).trans h.y7, (World.cell?_setCell_other _ ⟨w.heap.size + 1 + 1, 9, none⟩ ⟨w.heap.size + 1 + 1, 8, none⟩ _ (by simp <;> omega)).trans h.y8, World.cell?_setCell_same _ _ _ h.y9, (World.cell?_setCell_other _ ⟨w.heap.size + 1 + 1, 9, none⟩ ⟨w.heap.size + 1 + 1, 10, none⟩ _ (by simp <;> omega)).trans h.y10, fun o => by rw [World.frozen?_setCell]; exact h.fr o, fun o => by rw [World.frozen?_setCell]; exact h.fy o⟩
theorem RS.init (w : World) (t : TypeId) (p0 p1 p2 p3 p4 p5 p6 p7 p8 p9 p10 : Value) :
    RS w ((((w.alloc (.cells #[.bool false, .int .i64 0, .int .i64 0, .int .i64 0, .int .i64 0, .slice none 0 0, .bool false, .int .i64 0, .string ⟨#[]⟩, .string ⟨#[]⟩, .int .i64 0] t)).alloc (.cells #[.bool false, .int .i64 0, .int .i64 0, .int .i64 0, .int .i64 0, .slice none 0 0, .bool false, .int .i64 0, .string ⟨#[]⟩, .string ⟨#[]⟩, .int .i64 0] t)).alloc (.cells #[p0, p1, p2, p3, p4, p5, p6, p7, p8, p9, p10] t)).drew) p0 p1 p2 p3 p4 p5 p6 p7 p8 p9 p10 := by
  refine ⟨((((Below.refl _ _).alloc (Nat.le_refl _) _).alloc (by simp) _).alloc (by simp; omega) _).drew, by simp, ?_, ?_, ?_, ?_, ?_, ?_, ?_, ?_, ?_, ?_, ?_, ?_, ?_, ?_, ?_, ?_, ?_, ?_, ?_, ?_, ?_, ?_, ?_, ?_, ?_, ?_, ?_, ?_, ?_, ?_, ?_, ?_, ?_, ?_, ?_⟩
  all_goals first | (intro o; simp [go_sem]; done) | (simp [go_sem]; done) | go_simp

theorem words_get (n : Nat) : ∀ l : List UInt8, l.length = 4 * n → ∀ k, k < n → (words l).getD k 0 = (num ((l.drop (4 * k)).take 4) : Int) := by
  induction n with
  | zero => intro l _ k hk; omega
  | succ n ih =>
    intro l h k hk
    rw [words_step l (by omega)]
    cases k with
    | zero => simp
    | succ k =>
      rw [List.getD_cons_succ, ih (l.drop 4) (by rw [List.length_drop]; omega) k (by omega), List.drop_drop]
      congr 4
      omega

end Pk
open Pk

theorem refNumber_at (s : ByteArray) (a n : Int) (a' n' : Nat) (w : World) (hs : s.size ≤ 1500) (ha : a = a') (hn : n = n') (h4 : n' ≤ 4) (hl : a' + n' ≤ s.size) :
    Calls Tryz.prog 82 #[.string s, .int .i64 a, .int .i64 n] w fun e w' => e = .returned (.int .i64 (num ((s.data.toList.drop a').take n'))) ∧ w' = w := by
  subst ha hn
  exact refNumber_any s a' n' w (by unfold maxLen; omega) h4 hl

theorem refBit_at (B k : Int) (B' k' : Nat) (w : World) (hB : B = B') (hk : k = k') (h1 : B' ≤ 255) (h2 : k' ≤ 16) :
    Calls Tryz.prog 83 #[.int .i64 B, .int .i64 k] w fun e w' => e = .returned (.bool (decide (B' / 2 ^ k' % 2 = 1))) ∧ w' = w := by
  subst hB hk
  exact refBit_any B' k' w (by omega) h2

end Go.Proofs.YtdjhhnolcafkiaaGreat

/- The document reads a packet: the texts that are none from their head. -/
namespace Go.Proofs.YtdjhhnolcafkiaaGreat
open Go.RowKit Pk

set_option maxRecDepth 100000 in
set_option maxHeartbeats 4000000 in
theorem rp_short (s : ByteArray) (w : World) (hs : s.size < 12) :
    Calls Tryz.prog 55 #[.string s] w fun e w' => Below w.heap.size w w' ∧ ReadAs (readP s) w.heap.size e w' := by
  have hi : (s.size : Int) < 12 := by omega
  have HR : Hid (readP s = none) := readP_bad s (by unfold bad1; exact decide_eq_true (.inl hs))
  go_enter Tryz.func55, Tryz.ntmps55
  go_wp2
  refine bodyPost_ret (v := wrongV) (by simp [results, Tryz.results55, wrongV, go_sem]) rfl ⟨?_, ?_⟩
  · exact ((Below.refl _ _).alloc (Nat.le_refl _) _).alloc (by simp) _
  · rw [HR.out]
    rfl

set_option maxRecDepth 100000 in
set_option maxHeartbeats 4000000 in
theorem rp_long (s : ByteArray) (w : World) (hs : 1500 < s.size) (hs2 : s.size ≤ maxLen) :
    Calls Tryz.prog 55 #[.string s] w fun e w' => Below w.heap.size w w' ∧ ReadAs (readP s) w.heap.size e w' := by
  unfold maxLen at hs2
  have hi : (1500 : Int) < s.size := by omega
  have HR : Hid (readP s = none) := readP_bad s (by unfold bad1; exact decide_eq_true (.inr (.inl hs)))
  go_enter Tryz.func55, Tryz.ntmps55
  go_wp2
  refine bodyPost_ret (v := wrongV) (by simp [results, Tryz.results55, wrongV, go_sem]) rfl ⟨?_, ?_⟩
  · exact ((Below.refl _ _).alloc (Nat.le_refl _) _).alloc (by simp) _
  · rw [HR.out]
    rfl

set_option maxRecDepth 100000 in
set_option maxHeartbeats 4000000 in
theorem rp_mark (s : ByteArray) (w : World) (hs : 12 ≤ s.size) (hs2 : s.size ≤ 1500) (hm : (B0 s).toNat / 64 ≠ 2) :
    Calls Tryz.prog 55 #[.string s] w fun e w' => Below w.heap.size w w' ∧ ReadAs (readP s) w.heap.size e w' := by
  have hi : (12 : Int) ≤ s.size := by omega
  have hi2 : (s.size : Int) ≤ 1500 := by omega
  have i0 : (0 : Int) < s.size := by omega
  have j0 : ∀ W : World, (Instr.index 9 (.string s) (.int .i64 0)).run Tryz.prog W = .ok (.int .u8 ((B0 s).toNat : Int)) W := fun W => by
    rw [run_index_string W 9 s .i64 0 Tryz.underlying9, dif_pos ⟨by omega, i0⟩, ← get0 s (by omega)]; rfl
  have hb := (B0 s).toNat_lt
  have HR : Hid (readP s = none) := readP_bad s (by unfold bad1; exact decide_eq_true (.inr (.inr hm)))
  by_cases hlo : (B0 s).toNat < 128
  · have hlo' : ((B0 s).toNat : Int) < 128 := by omega
    go_enter Tryz.func55, Tryz.ntmps55
    go_wp2
    refine bodyPost_ret (v := wrongV) (by simp [results, Tryz.results55, wrongV, go_sem]) rfl ⟨?_, ?_⟩
    · exact ((Below.refl _ _).alloc (Nat.le_refl _) _).alloc (by simp) _
    · rw [HR.out]
      rfl
  · have hlo' : ¬ ((B0 s).toNat : Int) < 128 := by omega
    have hhi : (191 : Int) < ((B0 s).toNat : Int) := by omega
    go_enter Tryz.func55, Tryz.ntmps55
    go_wp2
    refine bodyPost_ret (v := wrongV) (by simp [results, Tryz.results55, wrongV, go_sem]) rfl ⟨?_, ?_⟩
    · exact ((Below.refl _ _).alloc (Nat.le_refl _) _).alloc (by simp) _
    · rw [HR.out]
      rfl

set_option maxRecDepth 100000 in
set_option maxHeartbeats 4000000 in
theorem rp_at (s : ByteArray) (w : World) (hs : 12 ≤ s.size) (hs2 : s.size ≤ 1500) (hm : (B0 s).toNat / 64 = 2) (hat : s.size < at0 s) :
    Calls Tryz.prog 55 #[.string s] w fun e w' => Below w.heap.size w w' ∧ ReadAs (readP s) w.heap.size e w' := by
  have hi : (12 : Int) ≤ s.size := by omega
  have hi2 : (s.size : Int) ≤ 1500 := by omega
  have i0 : (0 : Int) < s.size := by omega
  have hbad : bad1 s = false := by unfold bad1; exact decide_eq_false (by omega)
  have HR : Hid (readP s = none) := readP_at s hbad hat
  clear hbad
  have j0 : ∀ W : World, (Instr.index 9 (.string s) (.int .i64 0)).run Tryz.prog W = .ok (.int .u8 ((B0 s).toNat : Int)) W := fun W => by
    rw [run_index_string W 9 s .i64 0 Tryz.underlying9, dif_pos ⟨by omega, i0⟩, ← get0 s (by omega)]; rfl
  have hlo : ¬ ((B0 s).toNat : Int) < 128 := by omega
  have hhi : ¬ (191 : Int) < ((B0 s).toNat : Int) := by omega
  obtain ⟨A, hA⟩ : ∃ A, A = at0 s := ⟨_, rfl⟩
  have hA1 : (12 + 4 * (((B0 s).toNat : Int) % 16)) = (A : Int) := by rw [hA]; unfold at0; omega
  have hA2 : (s.size : Int) < A := by rw [hA]; omega
  have hA3 : 12 ≤ A ∧ A ≤ 72 := by rw [hA]; unfold at0; omega
  clear hm hat hA
  go_enter Tryz.func55, Tryz.ntmps55
  go_wp2
  refine bodyPost_ret (v := wrongV) (by simp [results, Tryz.results55, wrongV, go_sem]) rfl ⟨?_, ?_⟩
  · exact ((Below.refl _ _).alloc (Nat.le_refl _) _).alloc (by simp) _
  · rw [HR.out]
    rfl

end Go.Proofs.YtdjhhnolcafkiaaGreat

/- The document reads a packet: laws for its regions. -/
namespace Go.Proofs.YtdjhhnolcafkiaaGreat
open Go.RowKit Pk

theorem region_once {P : Program} {c : Code} {Q : Exit → Act → World → Prop} {a a' : Act} {w w' : World} (h1 : Q .normal a' w' → Code.wp P c Q a w) (h2 : Q .normal a' w') : Code.wp P c Q a w := h1 h2

theorem region_once3 {P : Program} {c : Code} {Q : Exit → Act → World → Prop} {a : Act} {w : World} {R : Option Addr → Nat → World → Prop} {fa : Option Addr → Nat → World → Act} {fw : Option Addr → Nat → World → World}
    (h1 : (∀ a' c' w1, R a' c' w1 → Q .normal (fa a' c' w1) (fw a' c' w1)) → Code.wp P c Q a w) (h2 : ∀ a' c' w1, R a' c' w1 → Q .normal (fa a' c' w1) (fw a' c' w1)) : Code.wp P c Q a w := h1 h2

theorem cell_alloc {W : World} {a : Addr} {u : Value} (h : W.cell? a = some u) (o : Obj) : (W.alloc o).cell? a = some u := (World.cell?_alloc_lt _ _ _ (lt_of_cell h)).trans h

theorem refNoughts_at (a : Int) (n : Nat) (w : World) (ha : a = n) (hn : n ≤ 255) :
    Calls Tryz.prog 71 #[.int .i64 a] w fun e w' => (∃ t : ByteArray, e = .returned (.string t) ∧ t.data.toList = List.replicate n 0) ∧ w' = w := by
  subst ha
  exact refNoughts_any n w hn

end Go.Proofs.YtdjhhnolcafkiaaGreat
