/- menderkeep.Wanted returns true. -/
import Derived.Test.YtdjhhnolcafkiaaG14
import Derived.Test.YtdjhhnolcafkiaaRows
import Derived.ProofKit
import Derived.OpenShut
import Derived.ShutString
import Derived.ChangeOld
import Derived.Below
import Derived.Test.YtdjhhnolcafkiaaG01
import Derived.JoinedCond
import Derived.Deep.Slices
namespace Go.Proofs.Ytdjhhnolcafkiaa
open Go.RowKit
open Pk

set_option maxRecDepth 20000 in
set_option maxHeartbeats 8000000 in
theorem wanted_walk (cv : Value) (cl : List Int) (sv0 : Value) (l : List StepR) (w : World) (hv : IsInts w.heap.size w cv cl) (hin : ∀ c ∈ cl, -9223372036854775808 ≤ c ∧ c ≤ 9223372036854775807) (hcl : cl.length ≤ maxLen) (hs : IsSteps w.heap.size w sv0 l) (hl : ∀ r ∈ l, StOk r) (_hll : l.length ≤ maxLen) :
    Calls Try.prog 10 #[cv, sv0] w fun e w' => e = .returned (.bool true) ∧ Below w.heap.size w w' := by
  have Hv : Hid (IsInts w.heap.size w cv cl) := hv
  obtain ⟨ai, ci, rfl, _⟩ := hv
  obtain ⟨ao, cap, rfl, hc⟩ := hs
  have Hl : Hid (∀ r ∈ l, StOk r) := hl
  have Hc : Hid (∀ (j : Nat) (r : StepR), l[j]? = some r → ∃ b off, ao = some ⟨b, off, none⟩ ∧ b < w.heap.size ∧ w.cell? ⟨b, off + j * 3, none⟩ = some (.int .i64 r.what) ∧ w.cell? ⟨b, off + j * 3 + 1, none⟩ = some (.int .i64 r.n) ∧ w.cell? ⟨b, off + j * 3 + 2, none⟩ = some (.string r.py)) := hc
  unfold maxLen at _hll
  clear hl hc
  go_enter Try.func10, Try.ntmps10
  go_wp2_with fail
  refine (config_any _ cl w Hv.out hin hcl).mono ?_
  rintro e w1 ⟨rfl, hb1⟩
  have HB1 : Hid (Below w.heap.size w w1) := hb1
  have hs1 := hb1.size
  have Hcf : Hid (cfgOk (cfgF cl) = true) := cfgF_ok cl
  clear hb1 hin hcl Hv
  generalize cfgF cl = c at *
  go_wp2_with fail
  refine (begun_any c _ Hcf.out).mono ?_
  rintro e w2 ⟨mb, rfl, hb2, ρ, sv, wv, SB, WB, hM, hρ⟩
  have hxb : w1.heap.size < w2.heap.size := by have := hb2.size; simp at this; omega
  have HB2 : Hid (Below w.heap.size w w2) := (HB1.out.alloc hs1 _).trans (hb2.mono (by simp; omega))
  have HX2 : Hid (w2.cell? ⟨w1.heap.size, 5, none⟩ = some (.int .i64 c.retry) ∧ w2.cell? ⟨w1.heap.size, 6, none⟩ = some (.int .i64 c.tries)) := ⟨(hb2.cell (p := ⟨w1.heap.size, 5, none⟩) (by simp)).trans (cell_new _ _ _ 5), (hb2.cell (p := ⟨w1.heap.size, 6, none⟩) (by simp)).trans (cell_new _ _ _ 6)⟩
  have HM : Hid (MdAt w2 ρ mb (bM c) sv wv SB WB) := hM
  have HP : Hid (∀ b, b < w1.heap.size + 1 → ρ b = 0) := fun b hb => hρ b (by simp; omega)
  clear hb2 hM hρ
  go_wp2_with fail
  refine (known_any _).mono ?_
  rintro e w3 ⟨rfl, hb3⟩
  have HB3 : Hid (Below w.heap.size w w3) := HB2.out.trans (hb3.mono HB2.out.size)
  have HM3 : Hid (MdAt w3 ρ mb (bM c) sv wv SB WB) := HM.out.below hb3
  have HX3 : Hid (w3.cell? ⟨w1.heap.size, 5, none⟩ = some (.int .i64 c.retry) ∧ w3.cell? ⟨w1.heap.size, 6, none⟩ = some (.int .i64 c.tries)) := ⟨(hb3.cell (p := ⟨w1.heap.size, 5, none⟩) hxb).trans HX2.out.1, (hb3.cell (p := ⟨w1.heap.size, 6, none⟩) hxb).trans HX2.out.2⟩
  have hs3 : w1.heap.size < w3.heap.size := Nat.lt_of_lt_of_le hxb hb3.size
  clear hb3 HM HX2 HB1 HB2
  obtain ⟨i0, hi0, hiz, his, hib⟩ : ∃ i0 : TypeInfo, Try.prog.info? 4 = some i0 ∧ i0.zero = some (.bool false) ∧ i0.size = 1 ∧ i0.bytes = 1 := ⟨_, rfl, rfl, rfl, rfl⟩
  have Hi0 : Hid (Try.prog.info? 4 = some i0 ∧ i0.zero = some (.bool false) ∧ i0.size = 1 ∧ i0.bytes * 50 ≤ 281474976710656) := ⟨hi0, hiz, his, by rw [hib]; omega⟩
  obtain ⟨i1, hj0, hjz, hjs, hjb⟩ : ∃ i1 : TypeInfo, Try.prog.info? 3 = some i1 ∧ i1.zero = some (.int .i64 0) ∧ i1.size = 1 ∧ i1.bytes = 8 := ⟨_, rfl, rfl, rfl, rfl⟩
  have Hi1 : Hid (Try.prog.info? 3 = some i1 ∧ i1.zero = some (.int .i64 0) ∧ i1.size = 1 ∧ i1.bytes * 50 ≤ 281474976710656) := ⟨hj0, hjz, hjs, by rw [hjb]; omega⟩
  clear hi0 hiz his hib hj0 hjz hjs hjb
  go_wp2_with (at_make; refine wpList_make_full _ rfl (.const (.int .i64 50)) (.const (.int .i64 50)) 64 rfl w3.heap.size 4 i0 (.bool false) 1 Try.underlying64 Hi0.out.1 Hi0.out.2.1 Hi0.out.2.2.1 .i64 .i64 _ _ 50 rfl rfl rfl rfl Hi0.out.2.2.2 (by unfold maxLen; omega) (Nat.le_refl _) ?_; intro w4 hown4 hg4; refine stop_here ?_)
  refine hid_in ?_
  have HC4 : Hid (RowAt w3.heap.size 50 (fun _ => .bool false) w4) := RowAt.made rfl hown4
  have HG4 : Hid (Chg (fun _ => False) w3 w4) := (Chg.ofGrown hg4).mono (fun x _ e => by cases e)
  have hs4 : w3.heap.size < w4.heap.size := HC4.out.lt
  clear hown4 hg4
  go_wp2_with (at_make; refine wpList_make_full _ rfl (.const (.int .i64 50)) (.const (.int .i64 50)) 27 rfl w4.heap.size 3 i1 (.int .i64 0) 1 Try.underlying27 Hi1.out.1 Hi1.out.2.1 Hi1.out.2.2.1 .i64 .i64 _ _ 50 rfl rfl rfl rfl Hi1.out.2.2.2 (by unfold maxLen; omega) (Nat.le_refl _) ?_; intro w5 hown5 hg5; refine stop_here ?_)
  refine hid_in ?_
  have HT5 : Hid (RowAt w4.heap.size 50 (fun _ => .int .i64 0) w5) := RowAt.made rfl hown5
  have HG5 : Hid (Chg (fun _ => False) w4 w5) := (Chg.ofGrown hg5).mono (fun x _ e => by cases e)
  have hs5 : w4.heap.size < w5.heap.size := HT5.out.lt
  clear hown5 hg5
  go_wp2_with (at_make; refine wpList_make_full _ rfl (.const (.int .i64 50)) (.const (.int .i64 50)) 27 rfl w5.heap.size 3 i1 (.int .i64 0) 1 Try.underlying27 Hi1.out.1 Hi1.out.2.1 Hi1.out.2.2.1 .i64 .i64 _ _ 50 rfl rfl rfl rfl Hi1.out.2.2.2 (by unfold maxLen; omega) (Nat.le_refl _) ?_; intro w6 hown6 hg6; refine stop_here ?_)
  refine hid_in ?_
  have HL6 : Hid (RowAt w5.heap.size 50 (fun _ => .int .i64 0) w6) := RowAt.made rfl hown6
  have HG6 : Hid (Chg (fun _ => False) w5 w6) := (Chg.ofGrown hg6).mono (fun x _ e => by cases e)
  clear hown6 hg6
  have HG : Hid (Chg (fun _ => False) w3 w6) := (HG4.out.trans HG5.out (fun _ _ e => e)).trans HG6.out (fun _ _ e => e)
  have HW0 : Hid (WantAt w c mb w3.heap.size w4.heap.size w5.heap.size w1.heap.size 0 0 w6) := by
    refine ⟨none, fun _ => false, fun _ => 0, fun _ => 0, _, _, _, _, ρ, ⟨live_begin c 200 Hcf.out, ⟨sv, wv, SB, WB, HM3.out.chg HG.out (fun _ e => e.elim)⟩, fun b hb => HP.out b (by omega), HM3.out.hi _ (Nat.le_refl _), HM3.out.hi _ (by omega), HM3.out.hi _ (by omega), HP.out _ (by omega), HB3.out.trans (HG.out.below HB3.out.size (fun _ e => e.elim))⟩, rfl, want_begin, ⟨HC4.out.chg (HG5.out.trans HG6.out (fun _ _ e => e)) (fun e => e), HT5.out.chg HG6.out (fun e => e), HL6.out, HG.out.cell HX3.out.1 (fun e => e), HG.out.cell HX3.out.2 (fun e => e)⟩⟩
  have hd1 : w3.heap.size ≠ w4.heap.size := by omega
  have hd2 : w3.heap.size ≠ w5.heap.size := by omega
  have hd3 : w4.heap.size ≠ w5.heap.size := by omega
  have hd4 : w1.heap.size ≠ w3.heap.size := by omega
  have hd5 : w1.heap.size ≠ w4.heap.size := by omega
  have hd6 : w1.heap.size ≠ w5.heap.size := by omega
  have hh1 : w.heap.size ≤ w3.heap.size := by omega
  have hh2 : w.heap.size ≤ w4.heap.size := by omega
  have hh3 : w.heap.size ≤ w5.heap.size := by omega
  clear HC4 HT5 HL6 HG4 HG5 HG6 HG HM3 HX3 HB3 hs3 hs4 hs5 hxb hs1
  generalize w3.heap.size = cb at *
  generalize w4.heap.size = tb at *
  generalize w5.heap.size = lb at *
  generalize w1.heap.size = xb at *
  go_wp2
  go_loopw [11, 12] (fun s11 s12 wr => ∃ (i : Nat) (time : Int), i ≤ l.length ∧ i ≤ 100000 ∧ s12 = .int .i64 i ∧ s11 = .int .i64 time ∧ WantAt w c mb cb tb lb xb i time wr) (fun _ s12 _ => l.length - (intOf s12).toNat)
  case atStart => exact ⟨0, 0, Nat.zero_le _, by omega, rfl, rfl, HW0.out⟩
  case round =>
    obtain ⟨i, time, hil, hi5, rfl, rfl, hO⟩ := hrel
    have HO : Hid (WantAt w c mb cb tb lb xb i time wr) := hO
    clear hO HW0
    by_cases hgo : i < l.length ∧ i < 100000
    · have h1 : (i : Int) < l.length := by omega
      have h2 : (i : Int) < 100000 := by omega
      have hri : l[i]? = some l[i] := List.getElem?_eq_getElem hgo.1
      obtain ⟨r, hr⟩ : ∃ r, l[i] = r := ⟨_, rfl⟩
      rw [hr] at hri
      have hrO := Hl.out r (List.mem_of_getElem? hri)
      obtain ⟨b, off, rfl, hb, hc0, hc1, hc2⟩ := Hc.out i r hri
      obtain ⟨bg, came, tr, la, M, s, sd, x, ρ, o1, o2, o3, o4⟩ := HO.out
      obtain ⟨what, n, py⟩ := r
      simp only at hc0 hc1 hc2
      have d0 : wr.cell? ⟨b, off + i * 3, none⟩ = some (.int .i64 what) := (o1.bel.cell (p := ⟨b, off + i * 3, none⟩) hb).trans hc0
      have d1 : wr.cell? ⟨b, off + i * 3 + 1, none⟩ = some (.int .i64 n) := (o1.bel.cell (p := ⟨b, off + i * 3 + 1, none⟩) hb).trans hc1
      have d2 : wr.cell? ⟨b, off + i * 3 + 2, none⟩ = some (.string py) := (o1.bel.cell (p := ⟨b, off + i * 3 + 2, none⟩) hb).trans hc2
      have Hst : Hid (StOk ⟨what, n, py⟩) := hrO
      have O1 : Hid (WMen w c 200 mb cb tb lb xb i bg M s sd x ρ wr) := o1
      have O2 : Hid (s.now = time) := o2
      have O3 : Hid (WantSt i bg came tr la) := o3
      have O4 : Hid (WRows cb tb lb xb c came tr la wr) := o4
      have Hall : Hid (AllOk M) := o1.live.all (by omega)
      have HD : Hid (w.cell? ⟨b, off + i * 3, none⟩ = some (.int .i64 what) ∧ w.cell? ⟨b, off + i * 3 + 1, none⟩ = some (.int .i64 n)) := ⟨hc0, hc1⟩
      have hcl := o4.rc.lt
      have htl := o4.rt.lt
      have hllt := o4.rl.lt
      have hxl : xb < wr.heap.size := lt_of_cell o4.x5
      clear hr hri hrO hc0 hc1 hc2 o1 o2 o3 o4 HO
      obtain ⟨sv, wv, SB, WB, hmd⟩ := O1.out.md
      go_wp2_with fail
      refine (does_any ρ mb M sv wv SB WB what n py 200 _ hmd Hall.out Hst.out.1 Hst.out.2.1 Hst.out.2.2 (by omega)).mono ?_
      rintro e w2 ⟨cv, tv, rfl, hmv⟩
      have k0 := pickF_lo what 5 (by omega)
      have k1 := pickF_hi what 5 (by omega)
      have HDs : Hid (∀ cv, doesM M what n py 200 cv = if pickF what 5 ≤ 2 then packetM M (dataT (200 + (pickF n 50).toNat) py) cv else if pickF what 5 = 3 then reportM M 1 (askT (65530 + (pickF n 60).toNat)) else tickM M (pickF n 40)) := fun _ => rfl
      have Hkd : Hid (pickF what 5 = pickF what 5) := rfl
      obtain ⟨kd, hkd⟩ : ∃ kd, pickF what 5 = kd := ⟨_, rfl⟩
      rw [hkd] at k0 k1 HDs
      have HKD : Hid (pickF what 5 = kd) := hkd
      clear hkd Hkd hmd
      rcases (show kd = 0 ∨ kd = 1 ∨ kd = 2 ∨ kd = 3 ∨ kd = 4 by omega) with rfl | rfl | rfl | rfl | rfl
      · have p0 := pickF_lo n 50 (by omega)
        have p1 := pickF_hi n 50 (by omega)
        obtain ⟨j, hj⟩ : ∃ j : Nat, pickF n 50 = (j : Int) := Int.eq_ofNat_of_zero_le p0
        have hjl : j < 50 := by omega
        have HDe : doesM M what n py 200 cv = packetM M (dataT (200 + j) py) cv := by rw [HDs.out cv, if_pos (by decide), hj]; rfl
        rw [HDe] at hmv ⊢
        obtain ⟨sd', hp1, hp2, -⟩ := O1.out.live.packet hjl py cv
        obtain ⟨⟨ρ', hw2⟩, hchg, hrow⟩ := O1.out.step hcl htl hllt hxl hp2 hmv
        have he0 : (packetM M (dataT (200 + j) py) cv).2.2 = 0 := by rw [hp1]
        rw [he0]
        obtain ⟨ta, tc, rfl⟩ := rowA_shape hrow
        have HW2 : Hid (WMen w c 200 mb cb tb lb xb (i + 1) (some (nextG c.window.toNat s.now bg j).1) (packetM M (dataT (200 + j) py) cv).1 (pktS s (nextG c.window.toNat s.now bg j).2.1 (nextG c.window.toNat s.now bg j).2.2) sd' (if (nextG c.window.toNat s.now bg j).2.1 = 0 then passW x (dataP (200 + j) py) cv c.ring.toNat else x) ρ' w2) := hw2
        have HR2 : Hid (WRows cb tb lb xb c came tr la w2) := O4.out.chg hchg (fun e => e O1.out.zc) (fun e => e O1.out.zt) (fun e => e O1.out.zl) (fun e => e O1.out.zx)
        have d0' := (hw2.bel.cell (p := ⟨b, off + i * 3, none⟩) hb).trans HD.out.1
        have d1' := (hw2.bel.cell (p := ⟨b, off + i * 3 + 1, none⟩) hb).trans HD.out.2
        have HNW : Hid (WantAt w c mb cb tb lb xb (i + 1) time (w2.setCell ⟨cb, j, none⟩ (.bool true))) := by
          refine ⟨_, updB came j, tr, la, _, _, _, _, ρ', hw2.put cb j (.bool true) hw2.zc hh1, by rw [(pktS_now s _ _).1]; exact O2.out, O3.out.packet O1.out.live, ?_⟩
          have hR := HR2.out
          have hc1 : Chg (fun y => y = cb) w2 (w2.setCell ⟨cb, j, none⟩ (.bool true)) := (Chg.refl (fun y => y = cb) _).setCell ⟨cb, j, none⟩ (.inl rfl) _
          refine ⟨(hR.rc.set (k := j) (.bool true)).eq (fun q hq => ?_), hR.rt.chg hc1 (fun e => hd1 e.symm), hR.rl.chg hc1 (fun e => hd2 e.symm), hc1.cell hR.x5 (fun e => hd4 e), hc1.cell hR.x6 (fun e => hd4 e)⟩
          unfold updV updB
          split <;> rfl
        have e0 := HR2.out.rc.c j hjl
        have ef := HR2.out.rc.f j
        clear hmv hp1 hp2 hw2 hchg hrow he0 d0 d1 d2 HDe
        go_wp2_with fail
        refine (pick_any what 5 _ Hst.out.1.1 Hst.out.1.2 (by omega) (by omega)).mono ?_
        rintro e w3 ⟨rfl, hw3⟩
        rw [hw3, HKD.out]
        clear hw3 w3
        go_wp2_with fail
        refine (pick_any n 50 _ Hst.out.2.1.1 Hst.out.2.1.2 (by omega) (by omega)).mono ?_
        rintro e w3 ⟨rfl, hw3⟩
        rw [hw3, hj]
        clear hw3 w3 hj p0 p1
        go_wp2
        go_roundw
        case rel => exact ⟨i + 1, time, by omega, by omega, by go_num, rfl, HNW.out⟩
        case measure => simp [intOf]; omega
      · have p0 := pickF_lo n 50 (by omega)
        have p1 := pickF_hi n 50 (by omega)
        obtain ⟨j, hj⟩ : ∃ j : Nat, pickF n 50 = (j : Int) := Int.eq_ofNat_of_zero_le p0
        have hjl : j < 50 := by omega
        have HDe : doesM M what n py 200 cv = packetM M (dataT (200 + j) py) cv := by rw [HDs.out cv, if_pos (by decide), hj]; rfl
        rw [HDe] at hmv ⊢
        obtain ⟨sd', hp1, hp2, -⟩ := O1.out.live.packet hjl py cv
        obtain ⟨⟨ρ', hw2⟩, hchg, hrow⟩ := O1.out.step hcl htl hllt hxl hp2 hmv
        have he0 : (packetM M (dataT (200 + j) py) cv).2.2 = 0 := by rw [hp1]
        rw [he0]
        obtain ⟨ta, tc, rfl⟩ := rowA_shape hrow
        have HW2 : Hid (WMen w c 200 mb cb tb lb xb (i + 1) (some (nextG c.window.toNat s.now bg j).1) (packetM M (dataT (200 + j) py) cv).1 (pktS s (nextG c.window.toNat s.now bg j).2.1 (nextG c.window.toNat s.now bg j).2.2) sd' (if (nextG c.window.toNat s.now bg j).2.1 = 0 then passW x (dataP (200 + j) py) cv c.ring.toNat else x) ρ' w2) := hw2
        have HR2 : Hid (WRows cb tb lb xb c came tr la w2) := O4.out.chg hchg (fun e => e O1.out.zc) (fun e => e O1.out.zt) (fun e => e O1.out.zl) (fun e => e O1.out.zx)
        have d0' := (hw2.bel.cell (p := ⟨b, off + i * 3, none⟩) hb).trans HD.out.1
        have d1' := (hw2.bel.cell (p := ⟨b, off + i * 3 + 1, none⟩) hb).trans HD.out.2
        have HNW : Hid (WantAt w c mb cb tb lb xb (i + 1) time (w2.setCell ⟨cb, j, none⟩ (.bool true))) := by
          refine ⟨_, updB came j, tr, la, _, _, _, _, ρ', hw2.put cb j (.bool true) hw2.zc hh1, by rw [(pktS_now s _ _).1]; exact O2.out, O3.out.packet O1.out.live, ?_⟩
          have hR := HR2.out
          have hc1 : Chg (fun y => y = cb) w2 (w2.setCell ⟨cb, j, none⟩ (.bool true)) := (Chg.refl (fun y => y = cb) _).setCell ⟨cb, j, none⟩ (.inl rfl) _
          refine ⟨(hR.rc.set (k := j) (.bool true)).eq (fun q hq => ?_), hR.rt.chg hc1 (fun e => hd1 e.symm), hR.rl.chg hc1 (fun e => hd2 e.symm), hc1.cell hR.x5 (fun e => hd4 e), hc1.cell hR.x6 (fun e => hd4 e)⟩
          unfold updV updB
          split <;> rfl
        have e0 := HR2.out.rc.c j hjl
        have ef := HR2.out.rc.f j
        clear hmv hp1 hp2 hw2 hchg hrow he0 d0 d1 d2 HDe
        go_wp2_with fail
        refine (pick_any what 5 _ Hst.out.1.1 Hst.out.1.2 (by omega) (by omega)).mono ?_
        rintro e w3 ⟨rfl, hw3⟩
        rw [hw3, HKD.out]
        clear hw3 w3
        go_wp2_with fail
        refine (pick_any n 50 _ Hst.out.2.1.1 Hst.out.2.1.2 (by omega) (by omega)).mono ?_
        rintro e w3 ⟨rfl, hw3⟩
        rw [hw3, hj]
        clear hw3 w3 hj p0 p1
        go_wp2
        go_roundw
        case rel => exact ⟨i + 1, time, by omega, by omega, by go_num, rfl, HNW.out⟩
        case measure => simp [intOf]; omega
      · have p0 := pickF_lo n 50 (by omega)
        have p1 := pickF_hi n 50 (by omega)
        obtain ⟨j, hj⟩ : ∃ j : Nat, pickF n 50 = (j : Int) := Int.eq_ofNat_of_zero_le p0
        have hjl : j < 50 := by omega
        have HDe : doesM M what n py 200 cv = packetM M (dataT (200 + j) py) cv := by rw [HDs.out cv, if_pos (by decide), hj]; rfl
        rw [HDe] at hmv ⊢
        obtain ⟨sd', hp1, hp2, -⟩ := O1.out.live.packet hjl py cv
        obtain ⟨⟨ρ', hw2⟩, hchg, hrow⟩ := O1.out.step hcl htl hllt hxl hp2 hmv
        have he0 : (packetM M (dataT (200 + j) py) cv).2.2 = 0 := by rw [hp1]
        rw [he0]
        obtain ⟨ta, tc, rfl⟩ := rowA_shape hrow
        have HW2 : Hid (WMen w c 200 mb cb tb lb xb (i + 1) (some (nextG c.window.toNat s.now bg j).1) (packetM M (dataT (200 + j) py) cv).1 (pktS s (nextG c.window.toNat s.now bg j).2.1 (nextG c.window.toNat s.now bg j).2.2) sd' (if (nextG c.window.toNat s.now bg j).2.1 = 0 then passW x (dataP (200 + j) py) cv c.ring.toNat else x) ρ' w2) := hw2
        have HR2 : Hid (WRows cb tb lb xb c came tr la w2) := O4.out.chg hchg (fun e => e O1.out.zc) (fun e => e O1.out.zt) (fun e => e O1.out.zl) (fun e => e O1.out.zx)
        have d0' := (hw2.bel.cell (p := ⟨b, off + i * 3, none⟩) hb).trans HD.out.1
        have d1' := (hw2.bel.cell (p := ⟨b, off + i * 3 + 1, none⟩) hb).trans HD.out.2
        have HNW : Hid (WantAt w c mb cb tb lb xb (i + 1) time (w2.setCell ⟨cb, j, none⟩ (.bool true))) := by
          refine ⟨_, updB came j, tr, la, _, _, _, _, ρ', hw2.put cb j (.bool true) hw2.zc hh1, by rw [(pktS_now s _ _).1]; exact O2.out, O3.out.packet O1.out.live, ?_⟩
          have hR := HR2.out
          have hc1 : Chg (fun y => y = cb) w2 (w2.setCell ⟨cb, j, none⟩ (.bool true)) := (Chg.refl (fun y => y = cb) _).setCell ⟨cb, j, none⟩ (.inl rfl) _
          refine ⟨(hR.rc.set (k := j) (.bool true)).eq (fun q hq => ?_), hR.rt.chg hc1 (fun e => hd1 e.symm), hR.rl.chg hc1 (fun e => hd2 e.symm), hc1.cell hR.x5 (fun e => hd4 e), hc1.cell hR.x6 (fun e => hd4 e)⟩
          unfold updV updB
          split <;> rfl
        have e0 := HR2.out.rc.c j hjl
        have ef := HR2.out.rc.f j
        clear hmv hp1 hp2 hw2 hchg hrow he0 d0 d1 d2 HDe
        go_wp2_with fail
        refine (pick_any what 5 _ Hst.out.1.1 Hst.out.1.2 (by omega) (by omega)).mono ?_
        rintro e w3 ⟨rfl, hw3⟩
        rw [hw3, HKD.out]
        clear hw3 w3
        go_wp2_with fail
        refine (pick_any n 50 _ Hst.out.2.1.1 Hst.out.2.1.2 (by omega) (by omega)).mono ?_
        rintro e w3 ⟨rfl, hw3⟩
        rw [hw3, hj]
        clear hw3 w3 hj p0 p1
        go_wp2
        go_roundw
        case rel => exact ⟨i + 1, time, by omega, by omega, by go_num, rfl, HNW.out⟩
        case measure => simp [intOf]; omega
      · have HDe : doesM M what n py 200 cv = reportM M 1 (askT (65530 + (pickF n 60).toNat)) := by rw [HDs.out cv, if_neg (by decide), if_pos rfl]
        rw [HDe] at hmv ⊢
        obtain ⟨hp1, hp2⟩ := O1.out.live.report (65530 + (pickF n 60).toNat)
        obtain ⟨⟨ρ', hw2⟩, hchg, hrow⟩ := O1.out.step hcl htl hllt hxl hp2 hmv
        have he0 : (reportM M 1 (askT (65530 + (pickF n 60).toNat))).2.2 = 0 := by rw [hp1]
        rw [he0]
        obtain ⟨ta, tc, rfl⟩ := rowA_shape hrow
        have hnw : (repS s (againF x ((65530 + (pickF n 60).toNat) % 65536) s.now c.delay s.tokens).2).now = s.now := by cases (againF x ((65530 + (pickF n 60).toNat) % 65536) s.now c.delay s.tokens).2 <;> rfl
        have HNW : Hid (WantAt w c mb cb tb lb xb (i + 1) time w2) := ⟨_, came, tr, la, _, _, _, _, ρ', hw2, by rw [hnw]; exact O2.out, O3.out.report, O4.out.chg hchg (fun e => e O1.out.zc) (fun e => e O1.out.zt) (fun e => e O1.out.zl) (fun e => e O1.out.zx)⟩
        have d0' := (hw2.bel.cell (p := ⟨b, off + i * 3, none⟩) hb).trans HD.out.1
        clear hmv hp1 hp2 hw2 hchg hrow he0 d0 d1 d2 HDe hnw
        generalize (reportM M 1 (askT (65530 + (pickF n 60).toNat))).2.1.length = rl at *
        go_wp2_with fail
        refine (pick_any what 5 _ Hst.out.1.1 Hst.out.1.2 (by omega) (by omega)).mono ?_
        rintro e w3 ⟨rfl, hw3⟩
        rw [hw3, HKD.out]
        clear hw3 w3
        go_wp2
        go_roundw
        case rel => exact ⟨i + 1, time, by omega, by omega, by go_num, rfl, HNW.out⟩
        case measure => simp [intOf]; omega
      · have p0 := pickF_lo n 40 (by omega)
        have p1 := pickF_hi n 40 (by omega)
        have HDe : doesM M what n py 200 cv = tickM M (pickF n 40) := by rw [HDs.out cv, if_neg (by decide), if_neg (by decide)]
        rw [HDe] at hmv ⊢
        obtain ⟨sd', hp1, hp2⟩ := O1.out.live.tick (pickF n 40) ⟨p0, p1⟩
        obtain ⟨⟨ρ', hw2⟩, hchg, hrow⟩ := O1.out.step hcl htl hllt hxl hp2 hmv
        have he0 : (tickM M (pickF n 40)).2.2 = 0 := by rw [hp1]
        rw [he0]
        obtain ⟨hmay, hnd, hsrt, hlen⟩ := O3.out.may O1.out.live (s.now + pickF n 40)
        have HSt := O3.out.tick O1.out.live (pickF n 40) ⟨p0, p1⟩
        have HL : (tickM M (pickF n 40)).2.1 = if (bgAsk c (s.now + pickF n 40) bg).2.1 = [] then [] else [askText 200 (bgAsk c (s.now + pickF n 40) bg).2.1] := by rw [hp1]
        rw [HL] at hrow
        have HR2 : Hid (WRows cb tb lb xb c came tr la w2) := O4.out.chg hchg (fun e => e O1.out.zc) (fun e => e O1.out.zt) (fun e => e O1.out.zl) (fun e => e O1.out.zx)
        have hbd := O1.out.live.now
        have hnow' : (tickS c s (pickF n 40) (bgAsk c (s.now + pickF n 40) bg).2.1.length (bgAsk c (s.now + pickF n 40) bg).2.2).now = time + pickF n 40 := by show s.now + pickF n 40 = _; rw [O2.out]
        rw [O2.out] at hbd hmay hnd hsrt hlen HSt hrow hw2 hnow'
        have Hb : Hid (∀ k, (0 ≤ tr k ∧ tr k ≤ (i : Int)) ∧ 0 ≤ la k ∧ la k ≤ 40 * (i : Int)) := O3.out.b
        have HN : Hid (pickF n 40 = pickF n 40) := rfl
        obtain ⟨tn, htn⟩ : ∃ tn, pickF n 40 = tn := ⟨_, rfl⟩
        have HTN : Hid (pickF n 40 = tn) := htn
        rw [htn] at hmay hnd hsrt hlen HSt hrow hw2 p0 p1 hnow'
        have htw : IntKind.i64.wrap (time + tn) = time + tn := i64_id _ (by omega) (by omega)
        obtain ⟨T, hT⟩ : ∃ T, time + tn = T := ⟨_, rfl⟩
        have HTT : Hid (time + tn = T) := hT
        rw [hT] at hmay hnd hsrt hlen HSt hrow hw2 htw hnow'
        have hTb : 0 ≤ T ∧ T ≤ 40 * (i : Int) + 40 := by omega
        obtain ⟨ta, tc, rfl⟩ := rowA_shape hrow
        have d0' := (hw2.bel.cell (p := ⟨b, off + i * 3, none⟩) hb).trans HD.out.1
        have d1' := (hw2.bel.cell (p := ⟨b, off + i * 3 + 1, none⟩) hb).trans HD.out.2
        have hgw : ∀ g, (Value.slice ta (if (bgAsk c T bg).2.1 = [] then ([] : List ByteArray) else [askText 200 (bgAsk c T bg).2.1]).length tc).ownBlock = some g → wr.heap.size ≤ g := fun g hg => (hrow.lt g hg).1
        have HFin : Hid (∀ (K : List Nat) (wi : World), K = (bgAsk c T bg).2.1 → WMen w c 200 mb cb tb lb xb (i + 1) (bgAsk c T bg).1 (tickM M tn).1 (tickS c s tn (bgAsk c T bg).2.1.length (bgAsk c T bg).2.2) sd' x ρ' wi → WRows cb tb lb xb c came (bump K tr) (stamp K T la) wi → WantAt w c mb cb tb lb xb (i + 1) T wi) := fun K wi hK h1 h2 => by
          subst hK
          exact ⟨_, came, _, _, _, _, _, _, ρ', h1, hnow', HSt, h2⟩
        have HW2 : Hid (WMen w c 200 mb cb tb lb xb (i + 1) (bgAsk c T bg).1 (tickM M tn).1 (tickS c s tn (bgAsk c T bg).2.1.length (bgAsk c T bg).2.2) sd' x ρ' w2) := hw2
        have HR0 : Hid (WRows cb tb lb xb c came (bump [] tr) (stamp [] T la) w2) := by
          have h := HR2.out
          exact ⟨h.rc, h.rt.eq (fun j _ => rfl), h.rl.eq (fun j _ => rfl), h.x5, h.x6⟩
        clear hmv hp1 hp2 hw2 hchg he0 d0 d1 d2 HDe HL HSt hnow' HN htn hT
        generalize (tickM M tn).1 = M3 at *
        generalize (tickS c s tn (bgAsk c T bg).2.1.length (bgAsk c T bg).2.2) = s3 at *
        generalize (bgAsk c T bg).1 = bg3 at *
        generalize hAK : (bgAsk c T bg).2.1 = AK at *
        have Hmay : Hid (∀ k ∈ AK, k < 50 ∧ came k = false ∧ tr k < c.tries ∧ (0 < tr k → c.retry ≤ T - la k)) := hmay
        have Hnd : Hid AK.Nodup := hnd
        have Hsrt : Hid (AK.Pairwise (· < ·)) := hsrt
        have Hrow : Hid (w2.ownsRow wr.heap.size 9 1 (.slice ta (if AK = [] then ([] : List ByteArray) else [askText 200 AK]).length tc) (if AK = [] then ([] : List ByteArray) else [askText 200 AK]).length ((if AK = [] then ([] : List ByteArray) else [askText 200 AK]).map Value.string)) := hrow
        have Hgw : Hid (∀ g, (Value.slice ta (if AK = [] then ([] : List ByteArray) else [askText 200 AK]).length tc).ownBlock = some g → wr.heap.size ≤ g) := hgw
        clear hAK hmay hnd hsrt hrow hgw
        go_simp
        generalize hLn : (if AK = [] then ([] : List ByteArray) else [askText 200 AK]).length = Ln at *
        have HLn : Hid ((if AK = [] then ([] : List ByteArray) else [askText 200 AK]).length = Ln) := hLn
        clear hLn
        go_wp2_with fail
        refine (pick_any what 5 _ Hst.out.1.1 Hst.out.1.2 (by omega) (by omega)).mono ?_
        rintro e w3 ⟨rfl, hw3⟩
        rw [hw3, HKD.out]
        clear hw3 w3
        go_wp2_with fail
        refine (pick_any n 40 _ Hst.out.2.1.1 Hst.out.2.1.2 (by omega) (by omega)).mono ?_
        rintro e w3 ⟨rfl, hw3⟩
        rw [hw3, HTN.out]
        clear hw3 w3
        by_cases hne : AK = []
        · have HNW : Hid (WantAt w c mb cb tb lb xb (i + 1) T w2) := HFin.out [] w2 hne.symm HW2.out HR0.out
          have hLn0 : Ln = 0 := by rw [← HLn.out, if_pos hne]; rfl
          subst hLn0
          go_wp2
          rw [HTT.out]
          go_loopw [15] (fun s15 wi => s15 = .int .i64 0 ∧ wi = w2) (fun _ _ => 0)
          case atStart => exact ⟨rfl, rfl⟩
          case round =>
            obtain ⟨rfl, rfl⟩ := hrel
            go_wp2
            go_roundw
            case rel => exact ⟨i + 1, T, by omega, by omega, by go_num, rfl, HNW.out⟩
            case measure => simp [intOf]; omega
        · have hLn1 : Ln = 1 := by rw [← HLn.out, if_neg hne]; rfl
          subst hLn1
          have hrow := Hrow.out
          have hgw := Hgw.out
          have hsrt := Hsrt.out
          have hmay := Hmay.out
          simp only [if_neg hne] at hrow
          obtain ⟨g, cap2, hsl, hcell, hglt⟩ := row_one hrow
          simp only [Value.slice.injEq] at hsl
          obtain ⟨rfl, -, rfl⟩ := hsl
          have hgg : wr.heap.size ≤ g := hgw g rfl
          obtain ⟨hrd, hsz⟩ := askText_read (base := 200) hsrt (fun k hk => (hmay k hk).1) hlen hne
          have Hrd : Hid (repR (askText 200 AK) = some [(0, 3, numK 200 AK)]) := hrd
          have HC0 : Hid (w2.cell? ⟨g, 0, none⟩ = some (.string (askText 200 AK))) := hcell
          clear hrow hgw hcell hrd hmay hsrt HR2 Hrow Hgw Hsrt HLn
          generalize askText 200 AK = tx at *
          have hgt : g ≠ tb := by omega
          have hgl : g ≠ lb := by omega
          go_wp2
          rw [HTT.out]
          go_loopw [15] (fun s15 wi => ∃ (q : Nat) (K : List Nat), q ≤ 1 ∧ s15 = .int .i64 q ∧ (q = 0 → K = []) ∧ (q = 1 → K = AK) ∧ WMen w c 200 mb cb tb lb xb (i + 1) bg3 M3 s3 sd' x ρ' wi ∧ WRows cb tb lb xb c came (bump K tr) (stamp K T la) wi ∧ wi.cell? ⟨g, 0, none⟩ = some (.string tx)) (fun s15 _ => 1 - (intOf s15).toNat)
          case atStart => exact ⟨0, [], by omega, rfl, fun _ => rfl, fun e => by omega, HW2.out, HR0.out, HC0.out⟩
          case round =>
            obtain ⟨q, K, hq, rfl, hK0, hK1, m1, m2, m3⟩ := hrel
            rcases (show q = 0 ∨ q = 1 by omega) with rfl | rfl
            · obtain rfl := hK0 rfl
              have M1 : Hid (WMen w c 200 mb cb tb lb xb (i + 1) bg3 M3 s3 sd' x ρ' wr) := m1
              have M2 : Hid (WRows cb tb lb xb c came (bump [] tr) (stamp [] T la) wr) := m2
              clear hK0 hK1 m1 m2
              go_wp2_with fail
              refine (parseReport_any tx _ (by unfold maxLen; omega)).mono ?_
              rintro e w4 ⟨hb4, hr4⟩
              rw [Hrd.out] at hr4
              obtain ⟨lv, xs, rfl, hown, hm⟩ := hr4
              have hx : ∃ X : Ask1, xs = [X] ∧ X.a = 0 ∧ X.b = 3 ∧ X.l = numK 200 AK := by
                match xs, hm with
                | [X], hm => simp at hm; exact ⟨X, rfl, hm.1, hm.2.1, hm.2.2⟩
                | [], hm => simp at hm
                | _ :: _ :: _, hm => simp at hm
              obtain ⟨X, rfl, hxa, hxb, hxl2⟩ := hx
              obtain ⟨xa, xb', xv, xl⟩ := X
              simp only at hxa hxb hxl2
              subst hxa hxb hxl2
              obtain ⟨a4, c4, rfl⟩ := rowA_shape hown.row
              have hrow4 := hown.row
              obtain ⟨g4, rfl⟩ := rowA_some hrow4 (by simp)
              have f0 : w4.cell? ⟨g4, 0, none⟩ = some (.int .i64 0) := hrow4.cellAt 0 (by simp)
              have f1 : w4.cell? ⟨g4, 1, none⟩ = some (.int .i64 3) := hrow4.cellAt 1 (by simp)
              have f2 : w4.cell? ⟨g4, 2, none⟩ = some xv := hrow4.cellAt 2 (by simp)
              have hxo := (hown.each 0 _ rfl).1
              obtain ⟨a5, c5, hv5⟩ := hxo.shape
              simp only at hv5 hxo
              subst hv5
              have hnl : (numK 200 AK).length = AK.length := by unfold numK; rw [List.length_map]
              have Ho5 : Hid (OwnInts w4 wr.heap.size (.slice a5 (numK 200 AK).length c5) (numK 200 AK)) := hxo
              have hg4 : wr.heap.size ≤ g4 := (hrow4.lt g4 rfl).1
              have hwb := M2.out.rt.lt
              have hwl := M2.out.rl.lt
              have W4 : Hid (WMen w c 200 mb cb tb lb xb (i + 1) bg3 M3 s3 sd' x ρ' w4) := M1.out.below hb4
              have R4 : Hid (WRows cb tb lb xb c came (bump [] tr) (stamp [] T la) w4) := M2.out.chg (T := fun _ => False) (Chg.ofBelow hb4) (fun e => e) (fun e => e) (fun e => e) (fun e => e)
              have C4 : Hid (w4.cell? ⟨g, 0, none⟩ = some (.string tx)) := (Chg.ofBelow (T := fun _ => False) hb4).cell m3 (fun e => e)
              have HF2 : Hid (w4.cell? ⟨g4, 2, none⟩ = some (.slice a5 (numK 200 AK).length c5)) := f2
              have Hg5 : Hid (∀ y, (Value.slice a5 (numK 200 AK).length c5).ownBlock = some y → y ≠ tb ∧ y ≠ lb) := fun y hy => by have := (hxo.lt y hy).1; omega
              have hg4t : g4 ≠ tb := by omega
              have hg4l : g4 ≠ lb := by omega
              clear hown hrow4 hxo hm hb4 m3 M1 M2
              go_wp2
              clear f0 f1 f2
              go_loopw [18] (fun s18 wi => ∃ j : Nat, j ≤ AK.length ∧ s18 = .int .i64 j ∧ WMen w c 200 mb cb tb lb xb (i + 1) bg3 M3 s3 sd' x ρ' wi ∧ WRows cb tb lb xb c came (bump (AK.take j) tr) (stamp (AK.take j) T la) wi ∧ Chg (fun y => y = tb ∨ y = lb) w4 wi) (fun s18 _ => AK.length - (intOf s18).toNat)
              case atStart => exact ⟨0, Nat.zero_le _, rfl, W4.out, R4.out, Chg.refl _ _⟩
              case round =>
                obtain ⟨j, hj, rfl, n1, n2, n3⟩ := hrel
                have N1 : Hid (WMen w c 200 mb cb tb lb xb (i + 1) bg3 M3 s3 sd' x ρ' wr) := n1
                have N2 : Hid (WRows cb tb lb xb c came (bump (AK.take j) tr) (stamp (AK.take j) T la) wr) := n2
                have N3 : Hid (Chg (fun y => y = tb ∨ y = lb) w4 wr) := n3
                have f2 : wr.cell? ⟨g4, 2, none⟩ = some (.slice a5 (numK 200 AK).length c5) := n3.cell HF2.out (fun e => by rcases e with e | e; exact hg4t e; exact hg4l e)
                clear n1 n2 n3
                rw [hnl] at f2
                by_cases hjl : j < AK.length
                · have hjl' : (j : Int) < AK.length := by omega
                  have hmy := Hmay.out AK[j] (List.getElem_mem hjl)
                  obtain ⟨g5, rfl⟩ := rowA_some Ho5.out (by rw [hnl]; omega)
                  have num := N3.out.cell (num_at Ho5.out hjl hmy.1) (fun e => by rcases e with e | e; exact (Hg5.out g5 rfl).1 e; exact (Hg5.out g5 rfl).2 e)
                  have hmk := N2.out.mark Hnd.out hjl rfl hmy.1 hd1 hd2 hd3 hd5 hd6
                  have hN6 : ∀ m, WRows cb tb lb xb c came (bump (AK.take (j + 1)) tr) (stamp (AK.take (j + 1)) T la) (((wr.drewN m).setCell ⟨tb, AK[j], none⟩ (.int .i64 (tr AK[j] + 1))).setCell ⟨lb, AK[j], none⟩ (.int .i64 T)) ∧ WMen w c 200 mb cb tb lb xb (i + 1) bg3 M3 s3 sd' x ρ' (((wr.drewN m).setCell ⟨tb, AK[j], none⟩ (.int .i64 (tr AK[j] + 1))).setCell ⟨lb, AK[j], none⟩ (.int .i64 T)) ∧ Chg (fun y => y = tb ∨ y = lb) w4 (((wr.drewN m).setCell ⟨tb, AK[j], none⟩ (.int .i64 (tr AK[j] + 1))).setCell ⟨lb, AK[j], none⟩ (.int .i64 T)) := fun m =>
                    ⟨((N2.out.chg (T := fun _ => False) (Chg.ofBelow (below_drewN (Below.refl _ _) m)) (fun e => e) (fun e => e) (fun e => e) (fun e => e)).mark Hnd.out hjl rfl hmy.1 hd1 hd2 hd3 hd5 hd6).2.2.2, ((N1.out.below (below_drewN (Below.refl _ _) m)).put tb AK[j] (.int .i64 (tr AK[j] + 1)) N1.out.zt hh2).put lb AK[j] (.int .i64 T) N1.out.zl hh3, ((N3.out.trans (Chg.ofBelow (T := fun _ => False) (below_drewN (Below.refl _ _) m)) (fun _ _ e => e.elim)).setCell ⟨tb, AK[j], none⟩ (.inl (.inl rfl)) (.int .i64 (tr AK[j] + 1))).setCell ⟨lb, AK[j], none⟩ (.inl (.inr rfl)) (.int .i64 T)⟩
                  have hbb := Hb.out AK[j]
                  have cx5 := N2.out.x5
                  have cx6 := N2.out.x6
                  have ft := N2.out.rt.f
                  have fl := N2.out.rl.f
                  clear N1 N2 N3
                  obtain ⟨kk, hkk⟩ : ∃ kk, AK[j] = kk := ⟨_, rfl⟩
                  rw [hkk] at hmy num hmk hN6 hbb
                  clear hkk
                  obtain ⟨y1, y2, y3, y4⟩ := hmy
                  obtain ⟨cc, ct, cl, -⟩ := hmk
                  rw [y2] at cc
                  obtain ⟨tk, htk⟩ : ∃ tk, tr kk = tk := ⟨_, rfl⟩
                  obtain ⟨lk, hlk⟩ : ∃ lk, la kk = lk := ⟨_, rfl⟩
                  rw [htk] at ct hN6 hbb y3 y4
                  rw [hlk] at cl hbb y4
                  have N6 : Hid (∀ m, WRows cb tb lb xb c came (bump (AK.take (j + 1)) tr) (stamp (AK.take (j + 1)) T la) (((wr.drewN m).setCell ⟨tb, kk, none⟩ (.int .i64 (tk + 1))).setCell ⟨lb, kk, none⟩ (.int .i64 T)) ∧ WMen w c 200 mb cb tb lb xb (i + 1) bg3 M3 s3 sd' x ρ' (((wr.drewN m).setCell ⟨tb, kk, none⟩ (.int .i64 (tk + 1))).setCell ⟨lb, kk, none⟩ (.int .i64 T)) ∧ Chg (fun y => y = tb ∨ y = lb) w4 (((wr.drewN m).setCell ⟨tb, kk, none⟩ (.int .i64 (tk + 1))).setCell ⟨lb, kk, none⟩ (.int .i64 T))) := hN6
                  clear hN6 htk hlk y2
                  have g1 : decide ((kk : Int) < 0) = false := decide_eq_false (by omega)
                  have g2 : decide ((50 : Int) ≤ (kk : Int)) = false := decide_eq_false (by omega)
                  have g2n : decide (50 ≤ kk) = false := decide_eq_false (by omega)
                  have g3 : decide (c.tries ≤ tk) = false := decide_eq_false (by omega)
                  have hw1 : IntKind.i64.wrap (tk + 1) = tk + 1 := i64_id _ (by omega) (by omega)
                  have hw2 : IntKind.i64.wrap (T - lk) = T - lk := i64_id _ (by omega) (by omega)
                  have hkk50 : (kk : Int) < 50 := by omega
                  have HH : Hid (0 < tk → c.retry ≤ T - lk) := y4
                  clear y3 y4
                  by_cases hpos : 0 < tk
                  · have g4 : decide (T - lk < c.retry) = false := decide_eq_false (by have := HH.out hpos; omega)
                    have g5 : decide (0 < tk) = true := decide_eq_true hpos
                    go_wp2
                    rw [show (200 : Int) + (kk : Int) - 200 = (kk : Int) by omega]
                    go_big_quiet (fail)
                    go_wp2
                    go_roundw
                    case rel => exact ⟨j + 1, by omega, by go_num, (N6.out _).2.1, (N6.out _).1, (N6.out _).2.2⟩
                    case measure => simp [intOf]; omega
                  · obtain rfl : tk = 0 := by omega
                    go_wp2
                    rw [show (200 : Int) + (kk : Int) - 200 = (kk : Int) by omega]
                    go_big_quiet (fail)
                    go_wp2
                    go_roundw
                    case rel => exact ⟨j + 1, by omega, by go_num, (N6.out _).2.1, (N6.out _).1, (N6.out _).2.2⟩
                    case measure => simp [intOf]; omega
                · have hjl' : ¬ (j : Int) < AK.length := by omega
                  have hje : j = AK.length := by omega
                  have N4 : Hid (WRows cb tb lb xb c came (bump AK tr) (stamp AK T la) wr) := by
                    have h := N2.out
                    rw [hje, List.take_length] at h
                    exact h
                  have N5 : Hid (wr.cell? ⟨g, 0, none⟩ = some (.string tx)) := N3.out.cell C4.out (fun e => by rcases e with e | e; exact hgt e; exact hgl e)
                  clear hje
                  go_wp2
                  go_roundw
                  case rel => exact ⟨1, AK, by omega, by go_num, fun e => by omega, fun _ => rfl, N1.out, N4.out, N5.out⟩
                  case measure => simp [intOf]
            · have HNW : Hid (WantAt w c mb cb tb lb xb (i + 1) T wr) := HFin.out K wr (hK1 rfl) m1 m2
              clear hK0 hK1 m1 m2 m3
              go_wp2
              go_roundw
              case rel => exact ⟨i + 1, T, by omega, by omega, by go_num, rfl, HNW.out⟩
              case measure => simp [intOf]; omega
    · by_cases h1 : (i : Int) < l.length
      · have h2 : ¬ (i : Int) < 100000 := by omega
        obtain ⟨_, _, _, _, _, _, _, _, _, o1, _⟩ := HO.out
        have O6 : Hid (Below w.heap.size w wr) := o1.bel
        clear o1
        go_wp2
        go_ret
        exact ⟨rfl, O6.out⟩
      · obtain ⟨_, _, _, _, _, _, _, _, _, o1, _⟩ := HO.out
        have O6 : Hid (Below w.heap.size w wr) := o1.bel
        clear o1
        go_wp2
        go_ret
        exact ⟨rfl, O6.out⟩

end Go.Proofs.Ytdjhhnolcafkiaa

/- menderkeep.Once returns true. -/
namespace Go.Proofs.Ytdjhhnolcafkiaa
open Go.RowKit
namespace Pk
/-- the list of what has come -/
structure CameAt (cb n : Nat) (cm : Nat → Bool) (W : World) : Prop where
  c : ∀ j, j < n → W.cell? ⟨cb, j, none⟩ = some (.bool (cm j))
  f : ∀ o, W.frozen? ⟨cb, o, none⟩ = false
  lt : cb < W.heap.size
theorem CameAt.chg {T : Nat → Prop} {cb n : Nat} {cm : Nat → Bool} {W W' : World} (h : CameAt cb n cm W) (hc : Chg T W W') (hn : ¬ T cb) : CameAt cb n cm W' :=
  ⟨fun j hj => hc.cell (h.c j hj) hn, fun o => (hc.frozen (p := ⟨cb, o, none⟩) h.lt hn).trans (h.f o), Nat.lt_of_lt_of_le h.lt hc.size⟩
theorem CameAt.set {cb n k : Nat} {cm : Nat → Bool} {W : World} (h : CameAt cb n cm W) : CameAt cb n (updB cm k) (W.setCell ⟨cb, k, none⟩ (.bool true)) := by
  refine ⟨fun j hj => ?_, fun o => ?_, ?_⟩
  · unfold updB
    by_cases e : j = k
    · subst e
      rw [if_pos rfl]
      exact World.cell?_setCell_same _ _ _ (h.c j hj)
    · rw [if_neg e, World.cell?_setCell_other _ _ _ _ (fun e' => e (by injection e' with _ e2 _; exact e2.symm))]
      exact h.c j hj
  · rw [World.frozen?_setCell]
    exact h.f o
  · rw [World.size_setCell]
    exact h.lt
def bgI : Option Nat → Int
  | none => -1
  | some b => b
/-- the state of the loop -/
def OnceAt (w : World) (base wn mb cb : Nat) (i : Nat) (bg : Option Nat) (wr : World) : Prop :=
  ∃ cm M s sd x ρ sv wv SB WB, OnceSt base wn bg cm i M s sd x ∧ MdAt wr ρ mb M sv wv SB WB ∧ (∀ b, b < w.heap.size → ρ b = 0) ∧ ρ cb = 0 ∧ CameAt cb wn cm wr ∧ Below w.heap.size w wr
theorem OnceAt.below {w wr w' : World} {base wn mb cb i : Nat} {bg : Option Nat} (h : OnceAt w base wn mb cb i bg wr) (hb : Below wr.heap.size wr w') : OnceAt w base wn mb cb i bg w' := by
  obtain ⟨cm, M, s, sd, x, ρ, sv, wv, SB, WB, h1, h2, h3, h4, h5, h6⟩ := h
  exact ⟨cm, M, s, sd, x, ρ, sv, wv, SB, WB, h1, h2.below hb, h3, h4, h5.chg (T := fun _ => False) (Chg.ofBelow hb) (fun e => e), h6.trans (hb.mono h6.size)⟩
/-- one more packet has come -/
theorem OnceAt.step {w wr w' : World} {base wn mb cb i k : Nat} {bg : Option Nat} {cm : Nat → Bool} {M : Md} {s : Stt} {sd : Sd} {x : Wn} {ρ : Nat → Nat} {tv cv : Value} {L : List ByteArray}
    (h1 : OnceSt base wn bg cm i M s sd x) (h3 : ∀ b, b < w.heap.size → ρ b = 0) (h4 : ρ cb = 0) (h5 : CameAt cb wn (updB cm k) wr) (h6 : Below w.heap.size w wr) (hw : wn ≤ 200) (hk : k < wn) (py : ByteArray)
    (h : MovedT wr w' ρ mb (packetM M (dataT (base + k) py) cv).1 tv L) :
    OnceAt w base wn mb cb (i + 1) (some (bg.getD k)) w' ∧ w'.ownsRow wr.heap.size 9 1 tv L.length (L.map Value.string) ∧ wr.heap.size ≤ w'.heap.size := by
  obtain ⟨ρ', sv', wv', SB', WB', a1, a2, a3, a4⟩ := h
  obtain ⟨⟨s', sd', x', b1⟩, -⟩ := once_step h1 hw hk py cv
  have hsz := h6.size
  refine ⟨⟨_, _, s', sd', x', ρ', sv', wv', SB', WB', b1, a1, fun b hb => a2.1 b (by omega) (h3 b hb), a2.1 cb h5.lt h4, h5.chg a2.2 (fun e => e h4), h6.trans (a2.2.below hsz (fun y hy => ?_))⟩, a3, a2.2.size⟩
  rcases Nat.lt_or_ge y w.heap.size with e | e
  · exact absurd (h3 y e) hy
  · exact e
theorem replicate_bool (n j : Nat) (h : j < n) : (madeCells (Value.bool false).cells (n * 1)).toList[j]? = some (Value.bool false) := by
  rw [show (Value.bool false).cells = #[Value.bool false] from rfl, toList_madeCells_one]
  simp [h]
end Pk
open Pk

set_option maxRecDepth 20000 in
set_option maxHeartbeats 8000000 in
theorem once_walk (first window : Int) (v : Value) (l : List Int) (w : World) (hv : IsInts w.heap.size w v l) (hf : -9223372036854775808 ≤ first ∧ first ≤ 9223372036854775807) (hwn : -9223372036854775808 ≤ window ∧ window ≤ 9223372036854775807) (hl : ∀ c ∈ l, -9223372036854775808 ≤ c ∧ c ≤ 9223372036854775807) (_hn : l.length ≤ maxLen) :
    Calls Try.prog 7 #[.int .i64 first, v, .int .i64 window] w fun e w' => e = .returned (.bool true) ∧ Below w.heap.size w w' := by
  obtain ⟨ao, cap, rfl, hc⟩ := hv
  have Hl : Hid (∀ c ∈ l, -9223372036854775808 ≤ c ∧ c ≤ 9223372036854775807) := hl
  have Hc : Hid (∀ j, j < l.length → ∃ b off, ao = some ⟨b, off, none⟩ ∧ b < w.heap.size ∧ w.cell? ⟨b, off + j, none⟩ = some (.int .i64 (l.getD j 0))) := hc
  unfold maxLen at _hn
  clear hl hc
  go_enter Try.func7, Try.ntmps7
  go_wp2_with fail
  refine (pick_any _ _ _ hwn.1 hwn.2 (by omega) (by omega)).mono ?_
  rintro e w1 ⟨rfl, hw1⟩
  rw [hw1]
  clear hw1 w1
  have p0 := pickF_lo window 200 (by omega)
  have p1 := pickF_hi window 200 (by omega)
  generalize pickF window 200 = pw at *
  obtain ⟨pn, rfl⟩ := Int.eq_ofNat_of_zero_le p0
  obtain ⟨wn, hwn1⟩ : ∃ wn : Nat, 1 + (pn : Int) = (wn : Int) := ⟨1 + pn, by omega⟩
  have hwl : 1 ≤ wn ∧ wn ≤ 200 := by omega
  have hww : IntKind.i64.wrap (1 + (pn : Int)) = (wn : Int) := by rw [i64_id _ (by omega) (by omega), hwn1]
  clear p0 p1 hwn1
  go_wp2_with fail
  refine (begun_any ⟨4, wn, 0, 0, 0, 1, 1⟩ _ (decide_eq_true (by simp only; omega))).mono ?_
  rintro e w2 ⟨mb, rfl, hb2, ρ, sv, wv, SB, WB, hM, hρ⟩
  have HB2 : Hid (Below w.heap.size w w2) := hb2
  have HM : Hid (MdAt w2 ρ mb (bM ⟨4, wn, 0, 0, 0, 1, 1⟩) sv wv SB WB) := hM
  have HP : Hid (∀ b, b < w.heap.size → ρ b = 0) := hρ
  clear hb2 hM hρ
  go_wp2_with fail
  refine (known_any _).mono ?_
  rintro e w3 ⟨rfl, hb3⟩
  have HB3 : Hid (Below w.heap.size w w3) := HB2.out.trans (hb3.mono HB2.out.size)
  have HM3 : Hid (MdAt w3 ρ mb (bM ⟨4, wn, 0, 0, 0, 1, 1⟩) sv wv SB WB) := HM.out.below hb3
  have hs3 := HB3.out.size
  clear hb3 HM
  go_wp2_with fail
  refine (pick_any _ _ _ hf.1 hf.2 (by omega) (by omega)).mono ?_
  rintro e w4 ⟨rfl, hw4⟩
  rw [hw4]
  clear hw4 w4
  have q0 := pickF_lo first 65536 (by omega)
  have q1 := pickF_hi first 65536 (by omega)
  generalize pickF first 65536 = pb at *
  obtain ⟨base, rfl⟩ := Int.eq_ofNat_of_zero_le q0
  obtain ⟨i0, hi0, hiz, his, hib⟩ : ∃ i0 : TypeInfo, Try.prog.info? 4 = some i0 ∧ i0.zero = some (.bool false) ∧ i0.size = 1 ∧ i0.bytes = 1 := ⟨_, rfl, rfl, rfl, rfl⟩
  have Hi0 : Hid (Try.prog.info? 4 = some i0 ∧ i0.zero = some (.bool false) ∧ i0.size = 1 ∧ i0.bytes = 1) := ⟨hi0, hiz, his, hib⟩
  have Hb0 : Hid (i0.bytes * wn ≤ 281474976710656) := by show _ ≤ _; rw [hib]; omega
  clear hi0 hiz his hib
  go_wp2_with (at_make; refine wpList_make_full _ rfl (.tmp 35) (.tmp 35) 64 rfl w.heap.size 4 i0 (.bool false) 1 Try.underlying64 Hi0.out.1 Hi0.out.2.1 Hi0.out.2.2.1 .i64 .i64 _ _ wn rfl rfl rfl rfl Hb0.out (by unfold maxLen; omega) hs3 ?_; intro w4 hown4 hg4; refine stop_here ?_)
  refine hid_in ?_
  have HB4 : Hid (Below w.heap.size w w4) := HB3.out.trans ((Chg.ofGrown hg4).below hs3 (fun x e => by cases e))
  have HR4 : Hid (CameAt w3.heap.size wn (fun _ => false) w4) := ⟨fun j hj => (hown4.cellAt j (by omega)).trans (replicate_bool wn j hj), fun o => hown4.frozenAt o, (hown4.lt w3.heap.size rfl).2⟩
  have HM4 : Hid (MdAt w4 ρ mb (bM ⟨4, wn, 0, 0, 0, 1, 1⟩) sv wv SB WB) := HM3.out.chg (Chg.ofGrown hg4) (fun b e => by cases e)
  have HO4 : Hid (OnceAt w base wn mb w3.heap.size 0 none w4) := ⟨fun _ => false, _, _, _, _, ρ, sv, wv, SB, WB, once_begin base wn, HM4.out, HP.out, HM3.out.hi _ (Nat.le_refl _), HR4.out, HB4.out⟩
  have hs4 := hg4.size
  have HCB : Hid (w.heap.size ≤ w3.heap.size) := hs3
  clear hown4 hg4 HM3 HM4 HR4 HB4 HB3 HB2 hs3
  generalize w3.heap.size = cb at *
  go_wp2
  go_loopw [11, 13] (fun s11 s13 wr => ∃ (i : Nat) (bg : Option Nat), i ≤ l.length ∧ i ≤ 100000 ∧ s13 = .int .i64 i ∧ s11 = .int .i64 (bgI bg) ∧ OnceAt w base wn mb cb i bg wr) (fun _ s13 _ => l.length - (intOf s13).toNat)
  case atStart => exact ⟨0, none, Nat.zero_le _, by omega, rfl, rfl, HO4.out⟩
  case round =>
    obtain ⟨i, bg, hil, hi5, rfl, rfl, hO⟩ := hrel
    have HO : Hid (OnceAt w base wn mb cb i bg wr) := hO
    clear hO
    by_cases hgo : i < l.length ∧ i < 100000
    · have h1 : (i : Int) < l.length := by omega
      have h2 : (i : Int) < 100000 := by omega
      obtain ⟨b, off, rfl, hb, hcell⟩ := Hc.out i hgo.1
      obtain ⟨cm, M, s, sd, x, ρ, sv, wv, SB, WB, o1, o2, o3, o4, o5, o6⟩ := HO.out
      have d0 : wr.cell? ⟨b, off + i, none⟩ = some (.int .i64 (l.getD i 0)) := (o6.cell (p := ⟨b, off + i, none⟩) hb).trans hcell
      have Hcr : Hid (-9223372036854775808 ≤ l.getD i 0 ∧ l.getD i 0 ≤ 9223372036854775807) := getD_in Hl.out i
      have O1 : Hid (OnceSt base wn bg cm i M s sd x) := o1
      have O2 : Hid (MdAt wr ρ mb M sv wv SB WB) := o2
      have O3 : Hid (∀ b, b < w.heap.size → ρ b = 0) := o3
      have O4 : Hid (ρ cb = 0) := o4
      have O5 : Hid (CameAt cb wn cm wr) := o5
      have O6 : Hid (Below w.heap.size w wr) := o6
      clear hcell o1 o2 o3 o4 o5 o6 HO
      generalize l.getD i 0 = ci at *
      go_wp2_with fail
      refine (pick_any ci wn _ Hcr.out.1 Hcr.out.2 (by omega) (by omega)).mono ?_
      rintro e wq ⟨rfl, hwq⟩
      rw [hwq]
      clear hwq wq
      go_simp
      have r0 := pickF_lo ci wn (by omega)
      have r1 := pickF_hi ci wn (by omega)
      generalize pickF ci (wn : Int) = pk at *
      obtain ⟨k, rfl⟩ := Int.eq_ofNat_of_zero_le r0
      have hk : k < wn := by omega
      have e0 := O5.out.c k hk
      have ef := O5.out.f k
      have hbk : IntKind.i64.wrap ((base : Int) + (k : Int)) = ((base + k : Nat) : Int) := by rw [i64_id _ (by omega) (by omega)]; rfl
      have hS := O5.out.set (k := k)
      have OM : Hid (MdAt (wr.setCell ⟨cb, k, none⟩ (.bool true)) ρ mb M sv wv SB WB) := O2.out.chg ((Chg.refl (fun b => b = cb) _).setCell ⟨cb, k, none⟩ (.inl rfl) _) (fun b e => by subst e; exact O4.out)
      have OS : Hid (CameAt cb wn (updB cm k) (wr.setCell ⟨cb, k, none⟩ (.bool true))) := hS
      have OB : Hid (Below w.heap.size w (wr.setCell ⟨cb, k, none⟩ (.bool true))) := O6.out.trans ((((Chg.refl (fun b => b = cb) wr).setCell ⟨cb, k, none⟩ (.inl rfl) (.bool true))).below O6.out.size (fun y e => by subst e; exact HCB.out))
      clear hS O2 O5 O6
      cases bg with
      | none =>
        have hst := O1.out.st
        have hcm : cm k = false := hst.2.2.2.2.2.2 k
        rw [hcm] at e0
        have HPS : Hid ((none : Option Nat).getD k ≤ k ∧ cm k = false) := ⟨Nat.le_refl _, hcm⟩
        clear hst hcm
        rw [show bgI none = -1 from rfl]
        go_wp2_with fail
        refine (data_any (base + k) ⟨#[120]⟩ _ (by omega) (by unfold maxLen; decide)).mono ?_
        rintro e w5 ⟨rfl, hb5⟩
        have OM5 : Hid (MdAt w5 ρ mb M sv wv SB WB) := OM.out.below hb5
        have OS5 : Hid (CameAt cb wn (updB cm k) w5) := OS.out.chg (T := fun _ => False) (Chg.ofBelow hb5) (fun e => e)
        have OB5 : Hid (Below w.heap.size w w5) := OB.out.trans (hb5.mono OB.out.size)
        clear hb5 OM OS OB
        have Hok : Hid (MOk M) := O1.out.ok hwl.1 hwl.2 (by omega)
        have Hst : Hid (∀ cv, (packetM M (dataT (base + k) ⟨#[120]⟩) cv).2.2 = 0 ∧ (packetM M (dataT (base + k) ⟨#[120]⟩) cv).2.1 = [textOf x (dataP (base + k) ⟨#[120]⟩)]) := fun cv => by
          obtain ⟨-, a1, a2, -⟩ := once_step O1.out hwl.2 hk ⟨#[120]⟩ cv
          refine ⟨a1, a2.trans ?_⟩
          exact if_pos HPS.out
        have Hmv : Hid (∀ (w' : World) (tv cv : Value) (L : List ByteArray), MovedT w5 w' ρ mb (packetM M (dataT (base + k) ⟨#[120]⟩) cv).1 tv L → OnceAt w base wn mb cb (i + 1) (some k) w' ∧ w'.ownsRow w5.heap.size 9 1 tv L.length (L.map Value.string) ∧ w5.heap.size ≤ w'.heap.size) := fun w' tv cv L h => OnceAt.step O1.out O3.out O4.out OS5.out OB5.out hwl.2 hk ⟨#[120]⟩ h
        have hds := (dataT_read (base + k) ⟨#[120]⟩).2
        have Hnum : Hid (numOf x ((base + k) % 65536) = (65530 + k - k) % 65536) := (once_step O1.out hwl.2 hk ⟨#[120]⟩ (.bool true)).2.2.2 HPS.out.1
        obtain ⟨htr, hts⟩ := textOf_read x (base + k) ⟨#[120]⟩ (by rw [O1.out.pl]; decide) (by rw [O1.out.src]; decide)
        rw [Hnum.out, O1.out.pl, O1.out.src] at htr
        have Htr : Hid (readP (textOf x (dataP (base + k) ⟨#[120]⟩)) = some ⟨false, false, 100, (((65530 + k - k) % 65536 : Nat) : Int), 5, 7, 0, 0, [], ⟨#[]⟩, ⟨#[120]⟩⟩) := htr
        generalize textOf x (dataP (base + k) ⟨#[120]⟩) = tx at *
        clear htr Hnum
        rw [show (65530 + k - k) % 65536 = 65530 by omega] at Htr
        generalize dataT (base + k) ⟨#[120]⟩ = dt at *
        go_wp2_with fail
        refine (packet_any ρ mb M sv wv SB WB dt _ OM5.out Hok.out (by unfold maxLen; omega)).mono ?_
        rintro e w6 ⟨cv, tv, rfl, hmv⟩
        obtain ⟨a1, a2⟩ := Hst.out cv
        obtain ⟨hO6, hrow, hs6⟩ := Hmv.out w6 tv cv _ hmv
        rw [a2] at hrow
        rw [a1]
        have HO6 : Hid (OnceAt w base wn mb cb (i + 1) (some k) w6) := hO6
        clear hmv a1 a2 hO6 Hst Hmv
        obtain ⟨g, cap, rfl, hcell, hg⟩ := row_one hrow
        clear hrow
        go_wp2_with fail
        refine (parsePacket_any tx _ (by unfold maxLen; omega)).mono ?_
        rintro e w7 ⟨hb7, hr7⟩
        rw [Htr.out] at hr7
        obtain ⟨v7, he7, hown7⟩ := hr7
        obtain ⟨a7, c7, hv7⟩ := hown7.shape
        subst hv7
        simp only [okV] at he7
        subst he7
        have HO7 : Hid (OnceAt w base wn mb cb (i + 1) (some k) w7) := HO6.out.below hb7
        clear hb7 hown7 hcell HO6
        go_wp2
        go_roundw
        case rel => exact ⟨i + 1, some k, by omega, by omega, by go_num, rfl, HO7.out.below ((Below.refl _ _).alloc (Nat.le_refl _) _)⟩
        case measure => simp [intOf]; omega
      | some b0 =>
        rw [show bgI (some b0) = (b0 : Int) from rfl]
        have hbn : ¬ (b0 : Int) < 0 := by omega
        by_cases hkb : b0 ≤ k
        · have hkb' : (b0 : Int) ≤ (k : Int) := by omega
          cases hcm : cm k with
          | false =>
            rw [hcm] at e0
            have HPS : Hid ((some b0).getD k ≤ k ∧ cm k = false) := ⟨hkb, hcm⟩
            clear hcm
            go_wp2_with fail
            refine (data_any (base + k) ⟨#[120]⟩ _ (by omega) (by unfold maxLen; decide)).mono ?_
            rintro e w5 ⟨rfl, hb5⟩
            have OM5 : Hid (MdAt w5 ρ mb M sv wv SB WB) := OM.out.below hb5
            have OS5 : Hid (CameAt cb wn (updB cm k) w5) := OS.out.chg (T := fun _ => False) (Chg.ofBelow hb5) (fun e => e)
            have OB5 : Hid (Below w.heap.size w w5) := OB.out.trans (hb5.mono OB.out.size)
            clear hb5 OM OS OB
            have Hok : Hid (MOk M) := O1.out.ok hwl.1 hwl.2 (by omega)
            have Hst : Hid (∀ cv, (packetM M (dataT (base + k) ⟨#[120]⟩) cv).2.2 = 0 ∧ (packetM M (dataT (base + k) ⟨#[120]⟩) cv).2.1 = [textOf x (dataP (base + k) ⟨#[120]⟩)]) := fun cv => by
              obtain ⟨-, a1, a2, -⟩ := once_step O1.out hwl.2 hk ⟨#[120]⟩ cv
              refine ⟨a1, a2.trans ?_⟩
              exact if_pos HPS.out
            have Hmv : Hid (∀ (w' : World) (tv cv : Value) (L : List ByteArray), MovedT w5 w' ρ mb (packetM M (dataT (base + k) ⟨#[120]⟩) cv).1 tv L → OnceAt w base wn mb cb (i + 1) (some b0) w' ∧ w'.ownsRow w5.heap.size 9 1 tv L.length (L.map Value.string) ∧ w5.heap.size ≤ w'.heap.size) := fun w' tv cv L h => OnceAt.step O1.out O3.out O4.out OS5.out OB5.out hwl.2 hk ⟨#[120]⟩ h
            have hds := (dataT_read (base + k) ⟨#[120]⟩).2
            have Hnum : Hid (numOf x ((base + k) % 65536) = (65530 + k - b0) % 65536) := (once_step O1.out hwl.2 hk ⟨#[120]⟩ (.bool true)).2.2.2 HPS.out.1
            obtain ⟨htr, hts⟩ := textOf_read x (base + k) ⟨#[120]⟩ (by rw [O1.out.pl]; decide) (by rw [O1.out.src]; decide)
            rw [Hnum.out, O1.out.pl, O1.out.src] at htr
            have Htr : Hid (readP (textOf x (dataP (base + k) ⟨#[120]⟩)) = some ⟨false, false, 100, (((65530 + k - b0) % 65536 : Nat) : Int), 5, 7, 0, 0, [], ⟨#[]⟩, ⟨#[120]⟩⟩) := htr
            generalize textOf x (dataP (base + k) ⟨#[120]⟩) = tx at *
            clear htr Hnum
            obtain ⟨nq, hnq⟩ : ∃ nq : Nat, (65530 + k - b0) % 65536 = nq := ⟨_, rfl⟩
            rw [hnq] at Htr
            have hm1 : (65530 + (k : Int) - (b0 : Int)).tmod 65536 = (nq : Int) := by rw [Int.tmod_eq_emod_of_nonneg (by omega)]; omega
            have hm2 : (65530 + (k : Int) - (b0 : Int)) % 65536 = (nq : Int) := by omega
            clear hnq
            generalize dataT (base + k) ⟨#[120]⟩ = dt at *
            go_wp2_with fail
            refine (packet_any ρ mb M sv wv SB WB dt _ OM5.out Hok.out (by unfold maxLen; omega)).mono ?_
            rintro e w6 ⟨cv, tv, rfl, hmv⟩
            obtain ⟨a1, a2⟩ := Hst.out cv
            obtain ⟨hO6, hrow, hs6⟩ := Hmv.out w6 tv cv _ hmv
            rw [a2] at hrow
            rw [a1]
            have HO6 : Hid (OnceAt w base wn mb cb (i + 1) (some b0) w6) := hO6
            clear hmv a1 a2 hO6 Hst Hmv
            obtain ⟨g, cap, rfl, hcell, hg⟩ := row_one hrow
            clear hrow
            go_wp2_with fail
            refine (parsePacket_any tx _ (by unfold maxLen; omega)).mono ?_
            rintro e w7 ⟨hb7, hr7⟩
            rw [Htr.out] at hr7
            obtain ⟨v7, he7, hown7⟩ := hr7
            obtain ⟨a7, c7, hv7⟩ := hown7.shape
            subst hv7
            simp only [okV] at he7
            subst he7
            have HO7 : Hid (OnceAt w base wn mb cb (i + 1) (some b0) w7) := HO6.out.below hb7
            clear hb7 hown7 hcell HO6
            go_wp2
            go_roundw
            case rel => exact ⟨i + 1, some b0, by omega, by omega, by go_num, rfl, HO7.out.below ((Below.refl _ _).alloc (Nat.le_refl _) _)⟩
            case measure => simp [intOf]; omega
          | true =>
            rw [hcm] at e0
            have HPS : Hid (¬ ((some b0).getD k ≤ k ∧ cm k = false)) := fun h => by rw [hcm] at h; exact absurd h.2 (by decide)
            clear hcm
            go_wp2_with fail
            refine (data_any (base + k) ⟨#[120]⟩ _ (by omega) (by unfold maxLen; decide)).mono ?_
            rintro e w5 ⟨rfl, hb5⟩
            have OM5 : Hid (MdAt w5 ρ mb M sv wv SB WB) := OM.out.below hb5
            have OS5 : Hid (CameAt cb wn (updB cm k) w5) := OS.out.chg (T := fun _ => False) (Chg.ofBelow hb5) (fun e => e)
            have OB5 : Hid (Below w.heap.size w w5) := OB.out.trans (hb5.mono OB.out.size)
            clear hb5 OM OS OB
            have Hok : Hid (MOk M) := O1.out.ok hwl.1 hwl.2 (by omega)
            have Hst : Hid (∀ cv, (packetM M (dataT (base + k) ⟨#[120]⟩) cv).2.2 = 0 ∧ (packetM M (dataT (base + k) ⟨#[120]⟩) cv).2.1 = []) := fun cv => by
              obtain ⟨-, a1, a2, -⟩ := once_step O1.out hwl.2 hk ⟨#[120]⟩ cv
              refine ⟨a1, a2.trans ?_⟩
              exact if_neg HPS.out
            have Hmv : Hid (∀ (w' : World) (tv cv : Value) (L : List ByteArray), MovedT w5 w' ρ mb (packetM M (dataT (base + k) ⟨#[120]⟩) cv).1 tv L → OnceAt w base wn mb cb (i + 1) (some b0) w' ∧ w'.ownsRow w5.heap.size 9 1 tv L.length (L.map Value.string) ∧ w5.heap.size ≤ w'.heap.size) := fun w' tv cv L h => OnceAt.step O1.out O3.out O4.out OS5.out OB5.out hwl.2 hk ⟨#[120]⟩ h
            have hds := (dataT_read (base + k) ⟨#[120]⟩).2
            generalize dataT (base + k) ⟨#[120]⟩ = dt at *
            go_wp2_with fail
            refine (packet_any ρ mb M sv wv SB WB dt _ OM5.out Hok.out (by unfold maxLen; omega)).mono ?_
            rintro e w6 ⟨cv, tv, rfl, hmv⟩
            obtain ⟨a1, a2⟩ := Hst.out cv
            obtain ⟨hO6, hrow, hs6⟩ := Hmv.out w6 tv cv _ hmv
            rw [a2] at hrow
            rw [a1]
            have HO6 : Hid (OnceAt w base wn mb cb (i + 1) (some b0) w6) := hO6
            clear hmv a1 a2 hO6 Hst Hmv
            obtain ⟨a6, c6, rfl⟩ := row_none hrow
            clear hrow
            go_wp2
            go_roundw
            case rel => exact ⟨i + 1, some b0, by omega, by omega, by go_num, rfl, HO6.out⟩
            case measure => simp [intOf]; omega
        · have hkb' : ¬ (b0 : Int) ≤ (k : Int) := by omega
          have HPS : Hid (¬ ((some b0).getD k ≤ k ∧ cm k = false)) := fun h => hkb h.1
          go_wp2_with fail
          refine (data_any (base + k) ⟨#[120]⟩ _ (by omega) (by unfold maxLen; decide)).mono ?_
          rintro e w5 ⟨rfl, hb5⟩
          have OM5 : Hid (MdAt w5 ρ mb M sv wv SB WB) := OM.out.below hb5
          have OS5 : Hid (CameAt cb wn (updB cm k) w5) := OS.out.chg (T := fun _ => False) (Chg.ofBelow hb5) (fun e => e)
          have OB5 : Hid (Below w.heap.size w w5) := OB.out.trans (hb5.mono OB.out.size)
          clear hb5 OM OS OB
          have Hok : Hid (MOk M) := O1.out.ok hwl.1 hwl.2 (by omega)
          have Hst : Hid (∀ cv, (packetM M (dataT (base + k) ⟨#[120]⟩) cv).2.2 = 0 ∧ (packetM M (dataT (base + k) ⟨#[120]⟩) cv).2.1 = []) := fun cv => by
            obtain ⟨-, a1, a2, -⟩ := once_step O1.out hwl.2 hk ⟨#[120]⟩ cv
            refine ⟨a1, a2.trans ?_⟩
            exact if_neg HPS.out
          have Hmv : Hid (∀ (w' : World) (tv cv : Value) (L : List ByteArray), MovedT w5 w' ρ mb (packetM M (dataT (base + k) ⟨#[120]⟩) cv).1 tv L → OnceAt w base wn mb cb (i + 1) (some b0) w' ∧ w'.ownsRow w5.heap.size 9 1 tv L.length (L.map Value.string) ∧ w5.heap.size ≤ w'.heap.size) := fun w' tv cv L h => OnceAt.step O1.out O3.out O4.out OS5.out OB5.out hwl.2 hk ⟨#[120]⟩ h
          have hds := (dataT_read (base + k) ⟨#[120]⟩).2
          generalize dataT (base + k) ⟨#[120]⟩ = dt at *
          go_wp2_with fail
          refine (packet_any ρ mb M sv wv SB WB dt _ OM5.out Hok.out (by unfold maxLen; omega)).mono ?_
          rintro e w6 ⟨cv, tv, rfl, hmv⟩
          obtain ⟨a1, a2⟩ := Hst.out cv
          obtain ⟨hO6, hrow, hs6⟩ := Hmv.out w6 tv cv _ hmv
          rw [a2] at hrow
          rw [a1]
          have HO6 : Hid (OnceAt w base wn mb cb (i + 1) (some b0) w6) := hO6
          clear hmv a1 a2 hO6 Hst Hmv
          obtain ⟨a6, c6, rfl⟩ := row_none hrow
          clear hrow
          go_wp2
          go_roundw
          case rel => exact ⟨i + 1, some b0, by omega, by omega, by go_num, rfl, HO6.out⟩
          case measure => simp [intOf]; omega
    · by_cases h1 : (i : Int) < l.length
      · have h2 : ¬ (i : Int) < 100000 := by omega
        obtain ⟨_, _, _, _, _, _, _, _, _, _, _, _, _, _, _, o6⟩ := HO.out
        have O6 : Hid (Below w.heap.size w wr) := o6
        clear o6
        go_wp2
        go_ret
        exact ⟨rfl, O6.out⟩
      · obtain ⟨_, _, _, _, _, _, _, _, _, _, _, _, _, _, _, o6⟩ := HO.out
        have O6 : Hid (Below w.heap.size w wr) := o6
        clear o6
        go_wp2
        go_ret
        exact ⟨rfl, O6.out⟩

end Go.Proofs.Ytdjhhnolcafkiaa

/-
  Whatever first number, whatever offsets and whatever window it is given, menderkeep.Once returns true and leaves its arguments as they were: of packets within one window each goes to the want once, when it comes first, if it is not behind the one that came first of all, and then is as far from that one as it was. No condition beyond the row's own.
-/
namespace Go.Proofs.Ytdjhhnolcafkiaa
open Go.ChangeShapes Go.WideShapes Go.ChangeAt Go.RowKit
open Go.ChangeMaps (open_string shut_string)
namespace Oc

theorem own : ownKnob Try.prog.godebug = none := by kernel_rfl
theorem laidOut : laidOutB Try.prog = true := by kernel_rfl

theorem wf64 {n : Int} (h : (Lit.int .i64 n).wf = true) : -9223372036854775808 ≤ n ∧ n ≤ 9223372036854775807 := by
  simp only [Lit.wf, IntKind.min, IntKind.max, IntKind.signed, IntKind.bits, Bool.and_eq_true, decide_eq_true_eq, if_true] at h
  omega

section
variable {H : Type} {enc : TypeId × Value → H} {W : World} {base : Nat} {spare : Nat → Bool} {held : Bool}

/-- a list of numbers that came in -/
theorem ints_in {fuel : Nat} {c : Value} {x : DataW H × List MemPlace} (h : DataW.trod enc Try.prog W base spare held fuel 27 [c] = some x) :
    ∃ l : List Int, Pk.IsInts W.heap.size W c l ∧ l.length ≤ maxLen ∧ ∀ n ∈ l, -9223372036854775808 ≤ n ∧ n ≤ 9223372036854775807 := by
  rcases open_ints Try.underlying27 Try.underlying3 (by kernel_rfl) h with ⟨hcs, _⟩ | ⟨a, len, cap, zs, hcs, _, hl, hm, hz, _, hcell, hwz⟩
  · simp only [List.cons.injEq, and_true] at hcs
    subst hcs
    exact ⟨[], ⟨none, 0, rfl, fun j hj => absurd hj (by simp)⟩, Nat.zero_le _, by simp⟩
  · simp only [List.cons.injEq, and_true] at hcs
    subst hcs
    have hlz : len ≤ zs.length := by split at hz <;> omega
    have hlen : (zs.take len).length = len := by rw [List.length_take]; omega
    refine ⟨zs.take len, ⟨some a, cap, by rw [hlen], fun j hj => ?_⟩, by omega, fun n hn => wf64 (hwz n (List.mem_of_mem_take hn))⟩
    rw [hlen] at hj
    obtain ⟨b, off, rfl, hcells⟩ := ints_at hcell (by omega)
    have h1 := hcells j (by omega)
    refine ⟨b, off, rfl, Pk.lt_of_cell h1, ?_⟩
    rw [h1]
    simp [List.getD, hj]
end

set_option maxRecDepth 100000 in
theorem lifted (os : Os) (started : os.Started) (H : Type) (enc : TypeId × Value → H) :
    ReturnsInHanded {} Try.checked os 7 .any (Rows.onceSpec.pre6 enc Try.prog Try.f7 Rows.onceRow.domain false) (Rows.onceSpec.post enc Try.prog Try.f7 false true false false) := by
  refine returnsInHanded_of_change (C := Try.checked) own started (by kernel_rfl) Try.func7
    (ChangeSpec.witness6 (enc := enc) (C := Try.checked) false ⟨#[], #[.int .i64 0, .slice none 0 0, .int .i64 0], []⟩ 8 (by kernel_rfl) (by kernel_rfl) (by kernel_rfl) (by kernel_rfl)) ?_
  intro W base args ds gs before hval0 hW hcnd _
  have hval : ∀ (j : Nat) t v, Try.f7.params[j]? = some t → args[j]? = some v → Value.okWide Try.prog W .any base t v := hval0
  have hW' := hW
  obtain ⟨p, q, hA0, hV, rfl, hfz, hnd⟩ := hW
  have hA : DataW.TrodAll enc Try.prog W 0 (fun _ => true) true Try.f7.params.toList args.toList ds p := hA0
  rw [Try.params7] at hA hval
  obtain ⟨v0, vs0, d0, ds0, p0, q0, hargs, rfl, rfl, h0, r0⟩ := trodAll_cons hA
  obtain ⟨v1, vs1, d1, ds1, p1, q1, rfl, rfl, rfl, h1, r1⟩ := trodAll_cons r0
  obtain ⟨v2, vs2, d2, ds2, p2, q2, rfl, rfl, rfl, h2, r2⟩ := trodAll_cons r1
  obtain ⟨rfl, rfl, rfl⟩ := trodAll_nil r2
  obtain rfl : args = #[v0, v1, v2] := by cases args; simp_all
  obtain ⟨rfl, rfl⟩ := trodVars_none hV
  have k1 := h1
  have lt1 : ∀ x ∈ p1, x.block < W.heap.size := by obtain ⟨m, hm⟩ := k1; exact DataW.trod_lt m _ _ _ hm
  obtain ⟨n0, rfl, rfl, rfl, w0⟩ := open_int Try.underlying3 (hval 0 3 v0 rfl rfl) h0
  obtain ⟨n2, rfl, rfl, rfl, w2⟩ := open_int Try.underlying3 (hval 2 3 v2 rfl rfl) h2
  obtain ⟨_, _, _, rfl⟩ := okWide_slice Try.underlying27 (hval 1 27 v1 rfl rfl)
  obtain ⟨_, f1⟩ := h1
  obtain ⟨l, l1, l2, l3⟩ := ints_in f1
  clear hA0 hval0
  refine (once_walk n0 n2 _ l W l1 (wf64 w0) (wf64 w2) l3 l2).mono fun e W' ⟨he, bel⟩ => ?_
  subst he
  exact ⟨_, rfl, _, _, _, [], _, [], hW', trodAll_mk1 (shut_bool Try.underlying4 _), (trodAll_cons_mk (shut_int Try.underlying3 w0) (trodAll_cons_mk (Below.trod laidOut (by kernel_rfl) (of_decide_eq_true (by kernel_rfl)) k1 bel lt1) (trodAll_cons_mk (shut_int Try.underlying3 w2) trodAll_mk0))), rfl, bel.frame _, fun h => by cases h⟩

end Oc

theorem once_holds : Rows.OnceSaid :=
  OpenClaim.holds_of_wide 7 Try.f7 rfl rfl rfl rfl rfl rfl rfl ⟨rfl, rfl, rfl, rfl, rfl⟩ rfl rfl rfl rfl rfl (by kernel_rfl) Try.func7 (by kernel_rfl)
    (of_decide_eq_true (by kernel_rfl)) (by unfold Func.isWrapper; first | (rw [if_pos (by decide +kernel)]; kernel_rfl) | (rw [if_neg (by decide +kernel)]; exact ⟨rfl, rfl⟩))
    (fun os started H enc _ => Oc.lifted os started H enc)

end Go.Proofs.Ytdjhhnolcafkiaa

/- Arguments that came in, of a bulk that is bounded: plain facts. -/
namespace Go.Proofs.Ytdjhhnolcafkiaa
open Go.ChangeShapes Go.WideShapes Go.ChangeAt Go.RowKit Go.Deep
namespace Up

theorem own : ownKnob Try.prog.godebug = none := by kernel_rfl
theorem laidOut : laidOutB Try.prog = true := by kernel_rfl

/-! what the bound gives -/
theorem bulk_pos {H : Type} (d : DataW H) : 0 < Rows.uptoBulk d := by
  cases d with
  | lit l => cases l <;> simp [Rows.uptoBulk]
  | _ => simp [Rows.uptoBulk]
theorem bulk_len {H : Type} : ∀ l : List (DataW H), l.length ≤ Rows.uptoBulkAll l
  | [] => Nat.zero_le _
  | d :: r => by have h1 := bulk_len r; have h2 := bulk_pos d; rw [Rows.uptoBulkAll, List.length_cons]; omega
theorem bulk_mem {H : Type} {d : DataW H} : ∀ {l : List (DataW H)}, d ∈ l → Rows.uptoBulk d ≤ Rows.uptoBulkAll l
  | x :: r, h => by
    rw [Rows.uptoBulkAll]
    rcases List.mem_cons.1 h with rfl | h
    · omega
    · have := bulk_mem h; omega
theorem bulk_row {H : Type} (a b : List (DataW H)) : Rows.uptoBulkAll a + 1 ≤ Rows.uptoBulk (.slice a b) := by rw [Rows.uptoBulk]; omega
theorem bulk_agg {H : Type} (a : List (DataW H)) : Rows.uptoBulkAll a ≤ Rows.uptoBulk (.agg a) := by rw [Rows.uptoBulk]; omega

section
variable {H : Type} {enc : TypeId × Value → H} {W : World} {base : Nat} {spare : Nat → Bool} {held : Bool}

theorem text_in {fuel : Nat} {c : Value} {x : DataW H × List MemPlace} (h : DataW.trod enc Try.prog W base spare held fuel 9 [c] = some x) : ∃ s : ByteArray, c = .string s ∧ s.size + 1 ≤ Rows.uptoBulk x.1 := by
  obtain ⟨s, e, hx, _⟩ := DataW.trod_string Try.underlying9 h
  simp only [List.cons.injEq, and_true] at e
  refine ⟨s, e, ?_⟩
  rw [hx, Rows.uptoBulk, Lib.size_eq]
  exact Nat.le_refl _

/-- the texts that came in -/
theorem texts_in {fuel : Nat} {c : Value} {x : DataW H × List MemPlace} (h : DataW.trod enc Try.prog W base spare held fuel 22 [c] = some x) (hk : Rows.uptoBulk x.1 ≤ 1048576) :
    ∃ ta tn tc, c = .slice ta tn tc ∧ tn ≤ 1048576 ∧ ∀ i, i < tn → ∃ b off s, ta = some ⟨b, off, none⟩ ∧ b < W.heap.size ∧ W.cell? ⟨b, off + i, none⟩ = some (.string s) ∧ s.size ≤ 1048576 := by
  rcases open_slice1 Try.underlying22 (by kernel_rfl) h with ⟨hcs, _⟩ | ⟨a, len, cap, m, n, V, D, Pl, hcs, _, hl, hm, hmm, rfl, hx⟩
  · simp only [List.cons.injEq, and_true] at hcs
    exact ⟨none, 0, 0, hcs, Nat.zero_le _, fun i hi => absurd hi (by omega)⟩
  · simp only [List.cons.injEq, and_true] at hcs
    have hlm : len ≤ m := by rw [hmm]; split <;> omega
    have hb1 := bulk_row ((List.range len).map D) ((List.range (m - len)).map fun j => D (len + j))
    have hb2 := bulk_len ((List.range len).map D)
    rw [List.length_map, List.length_range] at hb2
    simp only at hk
    refine ⟨some a, len, cap, hcs, by omega, fun i hi => ?_⟩
    obtain ⟨h1, h2⟩ := hx i (by omega)
    obtain ⟨s, hs, hsb⟩ := text_in h2
    have hb3 := bulk_mem (d := D i) (l := (List.range len).map D) (List.mem_map.2 ⟨i, List.mem_range.2 hi, rfl⟩)
    obtain ⟨b, off, spot⟩ := a
    have hspot : spot = none := by simpa [Addr.add] using World.cell?_spot (hx 0 (by omega)).1
    subst hspot
    rw [add_plain, hs] at h1
    exact ⟨b, off, s, rfl, Pk.lt_of_cell h1, h1, by simp only at hsb; omega⟩

/-- a list of numbers that came in -/
theorem ints_in {fuel : Nat} {c : Value} {x : DataW H × List MemPlace} (h : DataW.trod enc Try.prog W base spare held fuel 27 [c] = some x) :
    ∃ l : List Int, Pk.IsInts W.heap.size W c l ∧ l.length ≤ Rows.uptoBulk x.1 := by
  rcases open_ints Try.underlying27 Try.underlying3 (by kernel_rfl) h with ⟨hcs, _⟩ | ⟨a, len, cap, zs, hcs, _, hl, hm, hz, _, hcell, hwz⟩
  · simp only [List.cons.injEq, and_true] at hcs
    subst hcs
    exact ⟨[], ⟨none, 0, rfl, fun j hj => absurd hj (by simp)⟩, Nat.zero_le _⟩
  · simp only [List.cons.injEq, and_true] at hcs
    subst hcs
    have hlz : len ≤ zs.length := by split at hz <;> omega
    have hlen : (zs.take len).length = len := by rw [List.length_take]; omega
    have hbk : len ≤ Rows.uptoBulk x.1 := by
      rcases open_slice1 Try.underlying27 (by kernel_rfl) h with ⟨hcs, _⟩ | ⟨a', len', cap', m, n, V, D, Pl, hcs, _, hl', hm', hmm, rfl, hx⟩
      · simp at hcs
      · simp only [List.cons.injEq, and_true, Value.slice.injEq] at hcs
        have hb1 := bulk_row ((List.range len').map D) ((List.range (m - len')).map fun j => D (len' + j))
        have hb2 := bulk_len ((List.range len').map D)
        rw [List.length_map, List.length_range] at hb2
        have := hcs.2.1
        simp only
        omega
    refine ⟨zs.take len, ⟨some a, cap, by rw [hlen], fun j hj => ?_⟩, by rw [hlen]; exact hbk⟩
    rw [hlen] at hj
    obtain ⟨b, off, rfl, hcells⟩ := ints_at hcell (by omega)
    have h1 := hcells j (by omega)
    refine ⟨b, off, rfl, Pk.lt_of_cell h1, ?_⟩
    rw [h1]
    simp [List.getD, hj]

end

end Up
end Go.Proofs.Ytdjhhnolcafkiaa

/- Steps that came in. -/
namespace Go.Proofs.Ytdjhhnolcafkiaa
open Go.ChangeShapes Go.WideShapes Go.ChangeAt Go.RowKit Go.Deep
namespace Stp
open Pk Oc

theorem list_of {α : Type} (P : Nat → α → Prop) : ∀ n : Nat, (∀ i, i < n → ∃ a, P i a) → ∃ l : List α, l.length = n ∧ ∀ i a, l[i]? = some a → P i a
  | 0, _ => ⟨[], rfl, fun i a h => by simp at h⟩
  | n + 1, h => by
    obtain ⟨l, h1, h2⟩ := list_of P n (fun i hi => h i (by omega))
    obtain ⟨a, ha⟩ := h n (by omega)
    refine ⟨l ++ [a], by simp [h1], fun i b hb => ?_⟩
    by_cases hi : i < n
    · rw [List.getElem?_append_left (by omega)] at hb
      exact h2 i b hb
    · rw [List.getElem?_append_right (by omega)] at hb
      have hlt : i - l.length < 1 := by
        have := (List.getElem?_eq_some_iff.1 hb).1
        simpa using this
      obtain rfl : i = n := by omega
      rw [h1, Nat.sub_self] at hb
      simp at hb
      rw [← hb]
      exact ha

section
variable {H : Type} {enc : TypeId × Value → H} {W : World} {base : Nat} {spare : Nat → Bool} {held : Bool}

theorem list3 {cs : List Value} (h : cs.length = 3) : ∃ c0 c1 c2, cs = [c0, c1, c2] := by
  match cs, h with
  | [c0, c1, c2], _ => exact ⟨c0, c1, c2, rfl⟩

set_option maxRecDepth 100000 in
theorem step_in {fuel : Nat} {cs : List Value} {x : DataW H × List MemPlace} (h : DataW.trod enc Try.prog W base spare held fuel 73 cs = some x) :
    ∃ r : StepR, cs = [.int .i64 r.what, .int .i64 r.n, .string r.py] ∧ StOk r := by
  have hC : Try.prog.cellsOf 73 = 3 := by kernel_rfl
  obtain ⟨xs, n, _, rfl, hcl, hxl, hx⟩ := DataW.trod_struct Try.underlying73 h
  obtain ⟨c0, c1, c2, rfl⟩ := list3 (hcl.trans hC)
  have k3 : Try.prog.cellsOf 3 = 1 := by kernel_rfl
  have k27 : Try.prog.cellsOf 9 = 1 := by kernel_rfl
  have hlen : xs.length = 3 := hxl
  have at_ : ∀ i, i < 3 → ∃ y, xs[i]? = some y := fun i hi => ⟨xs[i], List.getElem?_eq_getElem (by omega)⟩
  obtain ⟨z0, g0⟩ := at_ 0 (by omega); obtain ⟨z1, g1⟩ := at_ 1 (by omega); obtain ⟨z2, g2⟩ := at_ 2 (by omega)
  have e0 := (hx 0 _ rfl).trans g0; have e1 := (hx 1 _ rfl).trans g1; have e2 := (hx 2 _ rfl).trans g2
  simp [k3, k27] at e0 e1 e2
  obtain ⟨se, m0, _, w0⟩ := DataW.trod_int Try.underlying3 e0
  obtain ⟨so, m1, _, w1⟩ := DataW.trod_int Try.underlying3 e1
  obtain ⟨py, m2, _, w2⟩ := DataW.trod_string Try.underlying9 e2
  simp only [List.cons.injEq, and_true] at m0 m1 m2
  subst m0 m1 m2
  exact ⟨⟨se, so, py⟩, rfl, wf64 w0, wf64 w1, w2⟩

/-- the steps that came in -/
theorem steps_in {fuel : Nat} {c : Value} {x : DataW H × List MemPlace} (h : DataW.trod enc Try.prog W base spare held fuel 69 [c] = some x) :
    ∃ l : List StepR, IsSteps W.heap.size W c l ∧ l.length ≤ maxLen ∧ ∀ r ∈ l, StOk r := by
  have hC : Try.prog.cellsOf 73 = 3 := by kernel_rfl
  rcases open_slice Try.underlying69 h with ⟨hcs, _⟩ | ⟨a, len, cap, m, n, D, Pl, hcs, _, hl, hm, hmm, rfl, hx⟩
  · simp only [List.cons.injEq, and_true] at hcs
    subst hcs
    exact ⟨[], ⟨none, 0, rfl, fun j r hj => by simp at hj⟩, Nat.zero_le _, by simp⟩
  · simp only [List.cons.injEq, and_true] at hcs
    subst hcs
    have hlm : len ≤ m := by rw [hmm]; split <;> omega
    have key : ∀ i, i < len → ∃ r : StepR, StOk r ∧ ∃ b off, a = ⟨b, off, none⟩ ∧ b < W.heap.size ∧ W.cell? ⟨b, off + i * 3, none⟩ = some (.int .i64 r.what) ∧ W.cell? ⟨b, off + i * 3 + 1, none⟩ = some (.int .i64 r.n) ∧ W.cell? ⟨b, off + i * 3 + 2, none⟩ = some (.string r.py) := fun i hi => by
      obtain ⟨cs', h1, h2⟩ := hx i (by omega)
      rw [hC] at h1
      obtain ⟨r, rfl, r1⟩ := step_in h2
      obtain ⟨_, _, hcell⟩ := World.cells?_some h1
      obtain ⟨b, off, spot⟩ := a
      have hspot : spot = none := by
        obtain ⟨cs0, h10, _⟩ := hx 0 (by omega)
        obtain ⟨_, hl0, hc0⟩ := World.cells?_some h10
        have h := (hc0 0 (by omega)).trans (List.getElem?_eq_getElem (by omega))
        simpa [Addr.add] using World.cell?_spot h
      subst hspot
      rw [add_plain] at hcell
      have at_ : ∀ k v, k < 3 → [Value.int .i64 r.what, .int .i64 r.n, .string r.py][k]? = some v → W.cell? ⟨b, off + i * 3 + k, none⟩ = some v := fun k v hk hv => by
        have := hcell k hk
        rw [add_plain] at this
        exact this.trans hv
      have c0 := at_ 0 _ (by omega) rfl
      exact ⟨r, r1, b, off, rfl, Pk.lt_of_cell c0, c0, at_ 1 _ (by omega) rfl, at_ 2 _ (by omega) rfl⟩
    obtain ⟨l, l1, l2⟩ := list_of _ len key
    refine ⟨l, ⟨some a, cap, by rw [l1], fun j r hj => ?_⟩, by omega, fun r hr => ?_⟩
    · obtain ⟨-, b, off, rfl, h1, h2⟩ := l2 j r hj
      exact ⟨b, off, rfl, h1, h2⟩
    · obtain ⟨j, hj⟩ := List.mem_iff_getElem?.1 hr
      exact (l2 j r hj).1
end
end Stp
end Go.Proofs.Ytdjhhnolcafkiaa
