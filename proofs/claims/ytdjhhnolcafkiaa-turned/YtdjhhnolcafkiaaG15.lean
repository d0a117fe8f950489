/- Turned: two menders whose senders begin with different numbers. -/
import Derived.Test.YtdjhhnolcafkiaaG14
import Derived.Test.YtdjhhnolcafkiaaG01
import Derived.Deep.QuietTactic
import Derived.BigQuiet
import Derived.Test.YtdjhhnolcafkiaaG12
import Derived.Deep.RegionHeld
import Derived.Outline
import Derived.Laws.StructEq
import Derived.Test.YtdjhhnolcafkiaaRows
import Derived.ProofKit
import Derived.OpenShut
import Derived.ShutString
import Derived.ChangeOld
import Derived.Below
namespace Go.Proofs.Ytdjhhnolcafkiaa
open Go.RowKit
namespace Pk
def bare (k : Kp) : Nat × PP × Int := (k.n, k.x, k.rests)
structure Alike (a b : Wn) : Prop where
  sec : a.second = b.second
  kp : a.kept.map bare = b.kept.map bare
theorem Alike.names {a b : Wn} (h : Alike a b) : a.kept.map Kp.n = b.kept.map Kp.n := by
  have e : ∀ l : List Kp, l.map Kp.n = (l.map bare).map (fun y => y.1) := fun l => by rw [List.map_map]; rfl
  rw [e, e, h.kp]
theorem Alike.len {a b : Wn} (h : Alike a b) : a.kept.length = b.kept.length := by
  have := congrArg List.length h.kp
  simpa using this
theorem Alike.at {a b : Wn} (h : Alike a b) {p : Nat} (ha : p < a.kept.length) (hb : p < b.kept.length) : bare a.kept[p] = bare b.kept[p] := by
  have h1 : (a.kept.map bare)[p]'(by simpa using ha) = (b.kept.map bare)[p]'(by simpa using hb) := by
    simp only [h.kp]
  simpa using h1
theorem rmF_bare (num : Nat) (l : List Kp) : (rmF Kp.n num l).map bare = rmF (fun y : Nat × PP × Int => y.1) num (l.map bare) := by
  have e : (l.map bare).map (fun y : Nat × PP × Int => y.1) = l.map Kp.n := by rw [List.map_map]; rfl
  unfold rmF
  rw [e]
  split
  · rfl
  · rw [List.map_append, List.map_take, List.map_drop]
theorem keepsF_bare {a b : Wn} (h : Alike a b) {p q : PP} (cv cv' : Value) (ring : Nat) (hn : numOf a p.nu.toNat = numOf b q.nu.toNat) (hp : passP a p = passP b q) : (keepsF a p cv ring).map bare = (keepsF b q cv' ring).map bare := by
  have e : (rmF Kp.n (numOf a p.nu.toNat) a.kept ++ [(⟨numOf a p.nu.toNat, passP a p, cv, 0⟩ : Kp)]).map bare = (rmF Kp.n (numOf b q.nu.toNat) b.kept ++ [(⟨numOf b q.nu.toNat, passP b q, cv', 0⟩ : Kp)]).map bare := by
    rw [List.map_append, List.map_append, rmF_bare, rmF_bare, h.kp, hn, hp]
    rfl
  have e2 := congrArg List.length e
  rw [List.length_map, List.length_map] at e2
  unfold keepsF
  rw [e2]
  split
  · rw [List.map_drop, List.map_drop, e]
  · exact e
section
variable {c : Cfg} {i ba bb : Nat} {bg : Option (Nat × Nat × List Og)} {Ma Mb : Md} {s : Stt} {sda sdb : Sd} {xa xb : Wn}
theorem Alike.pass (h : Alike xa xb) (ha : LiveM c ba i bg Ma s sda xa) (hb : LiveM c bb i bg Mb s sdb xb) {k : Nat} (hk : k < 50) (py : ByteArray) (cv cv' : Value) (hf : (nextG c.window.toNat s.now bg k).2.1 = 0) :
    Alike (passW xa (dataP (ba + k) py) cv c.ring.toNat) (passW xb (dataP (bb + k) py) cv' c.ring.toNat) ∧ textOf xa (dataP (ba + k) py) = textOf xb (dataP (bb + k) py) := by
  obtain ⟨_, -, -, pa⟩ := ha.packet hk py cv
  obtain ⟨_, -, -, pb⟩ := hb.packet hk py cv'
  have hn : numOf xa ((ba + k) % 65536) = numOf xb ((bb + k) % 65536) := ((pa hf).2).trans ((pb hf).2).symm
  have e1 : ∀ n, (dataP n py).nu.toNat = n % 65536 := fun n => by unfold dataP; simp only; omega
  have hn' : numOf xa (dataP (ba + k) py).nu.toNat = numOf xb (dataP (bb + k) py).nu.toNat := by rw [e1, e1]; exact hn
  have hp : passP xa (dataP (ba + k) py) = passP xb (dataP (bb + k) py) := by
    unfold passP
    rw [hn', ha.w.src, hb.w.src, ha.w.pl, hb.w.pl]
    rfl
  refine ⟨⟨h.sec, keepsF_bare h cv cv' _ hn' hp⟩, ?_⟩
  unfold textOf
  rw [hn', ha.w.src, hb.w.src, ha.w.pl, hb.w.pl]
  rfl
theorem Alike.again (h : Alike xa xb) (hpl : xa.pl = xb.pl) (n : Nat) (now delay tokens : Int) : (againF xa n now delay tokens).2 = (againF xb n now delay tokens).2 ∧ Alike (againF xa n now delay tokens).1 (againF xb n now delay tokens).1 := by
  rcases posF_cases n (xa.kept.map Kp.n) with ⟨hp, -⟩ | ⟨p, hpa, hp, -, -⟩
  · rw [again_none hp, again_none (h.names ▸ hp)]
    exact ⟨rfl, h⟩
  · rw [List.length_map] at hpa
    have hpb : p < xb.kept.length := h.len ▸ hpa
    rw [again_at hp (List.getElem?_eq_getElem hpa), again_at (h.names ▸ hp) (List.getElem?_eq_getElem hpb)]
    have e := h.at hpa hpb
    have er : xa.kept[p].rests = xb.kept[p].rests := congrArg (fun y => y.2.2) e
    have ex : xa.kept[p].x = xb.kept[p].x := congrArg (fun y => y.2.1) e
    have eR : againR xa xa.kept[p] = againR xb xb.kept[p] := by
      unfold againR
      rw [ex, hpl, h.sec]
    rw [er, eR]
    split
    · exact ⟨rfl, h⟩
    · split
      · exact ⟨rfl, h⟩
      · refine ⟨rfl, ?_, ?_⟩
        · unfold sentW
          simp only
          rw [h.sec]
        · unfold sentW
          simp only
          rw [List.map_set, List.map_set, h.kp]
          congr 1
          have en : xa.kept[p].n = xb.kept[p].n := congrArg (fun y => y.1) e
          unfold bare
          simp only
          rw [en, ex]
end
theorem alike_refl (x : Wn) : Alike x x := ⟨rfl, rfl⟩
/-- what is missing, by numbers -/
def gapK : Option (Nat × Nat × List Og) → List Nat
  | none => []
  | some (_, _, G) => G.map Og.k
theorem LiveM.gaps {c : Cfg} {base i : Nat} {bg : Option (Nat × Nat × List Og)} {M : Md} {s : Stt} {sd : Sd} {x : Wn} (h : LiveM c base i bg M s sd x) : names sd.gaps = numK base (gapK bg) ∧ (gapK bg).length ≤ 50 := by
  have hst := h.st
  match bg, hst with
  | none, ⟨_, _, h3, _⟩ =>
    rw [h3]
    exact ⟨rfl, Nat.zero_le _⟩
  | some (b, mx, G), ⟨hL, _⟩ =>
    refine ⟨?_, by unfold gapK; rw [List.length_map]; exact hL.len.1⟩
    rw [hL.gp]
    unfold names numK gapK
    rw [List.map_map, List.map_map]
    rfl
/-- as much further on -/
theorem numK_turn (base turn : Nat) (l : List Nat) (j : Nat) (hj : j < l.length) : ∃ n m : Nat, (numK base l)[j]? = some (n : Int) ∧ (numK (base + turn) l)[j]? = some (m : Int) ∧ n < 65536 ∧ (n + turn) % 65536 = m := by
  refine ⟨(base + l[j]) % 65536, (base + turn + l[j]) % 65536, ?_, ?_, Nat.mod_lt _ (by decide), by omega⟩
  · unfold numK
    rw [List.getElem?_map, List.getElem?_eq_getElem hj]
    rfl
  · unfold numK
    rw [List.getElem?_map, List.getElem?_eq_getElem hj]
    rfl
def TurnL (turn : Nat) (kd : Int) (La Lb : List ByteArray) : Prop :=
  (La = [] ∧ Lb = []) ∨ (kd ≠ 4 ∧ ∃ t : ByteArray, La = [t] ∧ Lb = [t]) ∨ (kd = 4 ∧ ∃ (ks : List Nat) (s t : ByteArray), La = [s] ∧ Lb = [t] ∧ repR s = some [(0, 3, numK 1000 ks)] ∧ repR t = some [(0, 3, numK (1000 + turn) ks)] ∧ s.size ≤ 1500 ∧ t.size ≤ 1500 ∧ ks.length ≤ 50)
theorem bgAsk_facts {c : Cfg} {base i : Nat} {bg : Option (Nat × Nat × List Og)} {M : Md} {s : Stt} {sd : Sd} {x : Wn} (h : LiveM c base i bg M s sd x) (now : Int) : (bgAsk c now bg).2.1.Pairwise (· < ·) ∧ (∀ k ∈ (bgAsk c now bg).2.1, k < 50) ∧ (bgAsk c now bg).2.1.length ≤ 50 := by
  have hst := h.st
  match bg, hst with
  | none, _ => exact ⟨List.Pairwise.nil, fun k hk => by simp [bgAsk] at hk, Nat.zero_le _⟩
  | some (b, mx, G), ⟨hL, _⟩ => exact askedO_facts hL
/-- a step of both -/
theorem turn_step {c : Cfg} {i turn : Nat} {bg : Option (Nat × Nat × List Og)} {Ma Mb : Md} {s : Stt} {sda sdb : Sd} {xa xb : Wn} (ha : LiveM c 1000 i bg Ma s sda xa) (hb : LiveM c (1000 + turn) i bg Mb s sdb xb) (al : Alike xa xb) (what n : Int) (py : ByteArray) (cv cv' : Value) :
    ∃ bg' s' sda' sdb' xa' xb', LiveM c 1000 (i + 1) bg' (doesM Ma what n py 1000 cv).1 s' sda' xa' ∧ LiveM c (1000 + turn) (i + 1) bg' (doesM Mb what n py (1000 + turn) cv').1 s' sdb' xb' ∧ Alike xa' xb' ∧ (doesM Ma what n py 1000 cv).2.2 = 0 ∧ (doesM Mb what n py (1000 + turn) cv').2.2 = 0 ∧ TurnL turn (pickF what 5) (doesM Ma what n py 1000 cv).2.1 (doesM Mb what n py (1000 + turn) cv').2.1 := by
  have k0 := pickF_lo what 5 (by omega)
  have k1 := pickF_hi what 5 (by omega)
  by_cases h2 : pickF what 5 ≤ 2
  · have p0 := pickF_lo n 50 (by omega)
    have p1 := pickF_hi n 50 (by omega)
    obtain ⟨j, hj⟩ : ∃ j : Nat, pickF n 50 = (j : Int) := Int.eq_ofNat_of_zero_le p0
    have hjl : j < 50 := by omega
    have ea : doesM Ma what n py 1000 cv = packetM Ma (dataT (1000 + j) py) cv := by unfold doesM; rw [if_pos h2, hj]; rfl
    have eb : doesM Mb what n py (1000 + turn) cv' = packetM Mb (dataT (1000 + turn + j) py) cv' := by unfold doesM; rw [if_pos h2, hj]; rfl
    rw [ea, eb]
    obtain ⟨sa', a1, a2, -⟩ := ha.packet hjl py cv
    obtain ⟨sb', b1, b2, -⟩ := hb.packet hjl py cv'
    have ap := al.pass ha hb hjl py cv cv'
    by_cases hf : (nextG c.window.toNat s.now bg j).2.1 = 0
    · obtain ⟨ap1, ap2⟩ := ap hf
      simp only [hf, if_true] at a1 a2 b1 b2
      refine ⟨_, _, _, _, _, _, a2, b2, ap1, by rw [a1], by rw [b1], .inr (.inl ⟨by omega, textOf xa (dataP (1000 + j) py), by rw [a1], by rw [b1, ap2]⟩)⟩
    · simp only [if_neg hf] at a1 a2 b1 b2
      exact ⟨_, _, _, _, _, _, a2, b2, al, by rw [a1], by rw [b1], .inl ⟨by rw [a1], by rw [b1]⟩⟩
  · by_cases h3 : pickF what 5 = 3
    · have ea : doesM Ma what n py 1000 cv = reportM Ma 1 (askT (65530 + (pickF n 60).toNat)) := by unfold doesM; rw [if_neg h2, if_pos h3]
      have eb : doesM Mb what n py (1000 + turn) cv' = reportM Mb 1 (askT (65530 + (pickF n 60).toNat)) := by unfold doesM; rw [if_neg h2, if_pos h3]
      rw [ea, eb]
      obtain ⟨a1, a2⟩ := ha.report (65530 + (pickF n 60).toNat)
      obtain ⟨b1, b2⟩ := hb.report (65530 + (pickF n 60).toNat)
      obtain ⟨g1, g2⟩ := al.again (ha.w.pl.trans hb.w.pl.symm) ((65530 + (pickF n 60).toNat) % 65536) s.now c.delay s.tokens
      rw [← g1] at b1 b2
      refine ⟨_, _, _, _, _, _, a2, b2, g2, by rw [a1], by rw [b1], ?_⟩
      rw [a1, b1]
      simp only
      cases (againF xa ((65530 + (pickF n 60).toNat) % 65536) s.now c.delay s.tokens).2 with
      | none => exact .inl ⟨rfl, rfl⟩
      | some t => exact .inr (.inl ⟨by omega, t, rfl, rfl⟩)
    · have h4 : pickF what 5 = 4 := by omega
      have p0 := pickF_lo n 40 (by omega)
      have p1 := pickF_hi n 40 (by omega)
      have ea : doesM Ma what n py 1000 cv = tickM Ma (pickF n 40) := by unfold doesM; rw [if_neg h2, if_neg h3]
      have eb : doesM Mb what n py (1000 + turn) cv' = tickM Mb (pickF n 40) := by unfold doesM; rw [if_neg h2, if_neg h3]
      rw [ea, eb]
      obtain ⟨sa', a1, a2⟩ := ha.tick (pickF n 40) ⟨p0, p1⟩
      obtain ⟨sb', b1, b2⟩ := hb.tick (pickF n 40) ⟨p0, p1⟩
      obtain ⟨f1, f2, f3⟩ := bgAsk_facts ha (s.now + pickF n 40)
      refine ⟨_, _, _, _, _, _, a2, b2, al, by rw [a1], by rw [b1], ?_⟩
      rw [a1, b1]
      simp only
      by_cases hne : (bgAsk c (s.now + pickF n 40) bg).2.1 = []
      · rw [if_pos hne, if_pos hne]
        exact .inl ⟨rfl, rfl⟩
      · rw [if_neg hne, if_neg hne]
        obtain ⟨r1, r2⟩ := askText_read (base := 1000) f1 f2 f3 hne
        obtain ⟨r3, r4⟩ := askText_read (base := 1000 + turn) f1 f2 f3 hne
        exact .inr (.inr ⟨h4, _, _, _, rfl, rfl, r1, r3, r2, r4, f3⟩)
/-- both menders, and where they lie -/
structure TMen (w : World) (c : Cfg) (turn mba mbb i : Nat) (bg : Option (Nat × Nat × List Og)) (Ma Mb : Md) (s : Stt) (sda sdb : Sd) (xa xb : Wn) (ra rb : Nat → Nat) (W : World) : Prop where
  la : LiveM c 1000 i bg Ma s sda xa
  lb : LiveM c (1000 + turn) i bg Mb s sdb xb
  al : Alike xa xb
  ma : ∃ sv wv SB WB, MdAt W ra mba Ma sv wv SB WB
  mb : ∃ sv wv SB WB, MdAt W rb mbb Mb sv wv SB WB
  dis : ∀ y, ra y = 0 ∨ rb y = 0
  za : ∀ b, b < w.heap.size → ra b = 0
  zb : ∀ b, b < w.heap.size → rb b = 0
  bel : Below w.heap.size w W
theorem TMen.below {w : World} {c : Cfg} {turn mba mbb i : Nat} {bg : Option (Nat × Nat × List Og)} {Ma Mb : Md} {s : Stt} {sda sdb : Sd} {xa xb : Wn} {ra rb : Nat → Nat} {W W' : World} (h : TMen w c turn mba mbb i bg Ma Mb s sda sdb xa xb ra rb W) (hb : Below W.heap.size W W') : TMen w c turn mba mbb i bg Ma Mb s sda sdb xa xb ra rb W' := by
  obtain ⟨a1, a2, a3, a4, ha⟩ := h.ma
  obtain ⟨b1, b2, b3, b4, hbm⟩ := h.mb
  exact ⟨h.la, h.lb, h.al, ⟨a1, a2, a3, a4, ha.below hb⟩, ⟨b1, b2, b3, b4, hbm.below hb⟩, h.dis, h.za, h.zb, h.bel.trans (hb.mono h.bel.size)⟩
/-- one of two menders has moved -/
theorem moved_beside {w W W' : World} {ra rb : Nat → Nat} {mba mbb : Nat} {Ma' Mb : Md} {tv sv wv : Value} {SB WB : List (Nat × Value)} {L : List ByteArray} (hm : MovedT W W' ra mba Ma' tv L) (hb : MdAt W rb mbb Mb sv wv SB WB) (dis : ∀ y, ra y = 0 ∨ rb y = 0) (za : ∀ b, b < w.heap.size → ra b = 0) (bel : Below w.heap.size w W) :
    (∃ ra' sv' wv' SB' WB', MdAt W' ra' mba Ma' sv' wv' SB' WB' ∧ (∀ y, ra' y = 0 ∨ rb y = 0) ∧ ∀ b, b < w.heap.size → ra' b = 0) ∧ MdAt W' rb mbb Mb sv wv SB WB ∧ Below w.heap.size w W' ∧ Chg (fun b => ra b ≠ 0) W W' ∧ W'.ownsRow W.heap.size 9 1 tv L.length (L.map Value.string) := by
  obtain ⟨ρ', a, b, c', d, h1, h2, h3, h4⟩ := hm
  refine ⟨⟨ρ', a, b, c', d, h1, fun y => ?_, fun y hy => h2.1 y (Nat.lt_of_lt_of_le hy bel.size) (za y hy)⟩, hb.chg h2.2 (fun y hy => (dis y).resolve_left hy), bel.trans (h2.2.below bel.size (fun y hy => ?_)), h2.2, h3⟩
  · rcases Nat.lt_or_ge y W.heap.size with e | e
    · rcases dis y with d1 | d1
      · exact .inl (h2.1 y e d1)
      · exact .inr d1
    · exact .inr (hb.hi y e)
  · rcases Nat.lt_or_ge y w.heap.size with e | e
    · exact absurd (za y e) hy
    · exact e
def TurnAt (w : World) (c : Cfg) (turn mba mbb i : Nat) (wr : World) : Prop := ∃ bg Ma Mb s sda sdb xa xb ra rb, TMen w c turn mba mbb i bg Ma Mb s sda sdb xa xb ra rb wr
end Pk
end Go.Proofs.Ytdjhhnolcafkiaa

/- menderlaw.sameNumbers: are two lists the same? -/
namespace Go.Proofs.Ytdjhhnolcafkiaa
open Go.RowKit Pk

theorem take_eq_succ {l1 l2 : List Int} {k : Nat} (h : l1.take k = l2.take k) (h1 : k < l1.length) (h2 : k < l2.length) (e : l1.getD k 0 = l2.getD k 0) : l1.take (k + 1) = l2.take (k + 1) := by
  rw [List.take_succ_eq_append_getElem h1, List.take_succ_eq_append_getElem h2, h]
  simp only [List.getD, List.getElem?_eq_getElem h1, List.getElem?_eq_getElem h2, Option.getD_some] at e
  rw [e]

set_option maxHeartbeats 1000000 in
theorem sameNumbers_any (B : Nat) (v1 v2 : Value) (l1 l2 : List Int) (w : World) (h1 : IsInts B w v1 l1) (h2 : IsInts B w v2 l2) (hl1 : l1.length ≤ 17592186044416) (_hl2 : l2.length ≤ 17592186044416) :
    Calls Try.prog 42 #[v1, v2] w fun e w' => e = .returned (.bool (decide (l1 = l2))) ∧ ∃ n, w' = w.drewN n := by
  obtain ⟨a1, c1, rfl, hc1⟩ := h1
  obtain ⟨a2, c2, rfl, hc2⟩ := h2
  have Hc1 : Hid (∀ j, j < l1.length → ∃ b off, a1 = some ⟨b, off, none⟩ ∧ b < B ∧ w.cell? ⟨b, off + j, none⟩ = some (.int .i64 (l1.getD j 0))) := hc1
  have Hc2 : Hid (∀ j, j < l2.length → ∃ b off, a2 = some ⟨b, off, none⟩ ∧ b < B ∧ w.cell? ⟨b, off + j, none⟩ = some (.int .i64 (l2.getD j 0))) := hc2
  clear hc1 hc2
  by_cases hll : l1.length = l2.length
  · have hne : ((l1.length : Int) != (l2.length : Int)) = false := by simp [hll]
    have Hll : Hid (l1.length = l2.length) := hll
    have hle : l2.length ≤ l1.length := by omega
    have hle' : l1.length ≤ l2.length := by omega
    clear hll
    go_enter Try.func42, Try.ntmps42
    go_wp2
    go_loopw [5] (fun i wr => ∃ k : Nat, k ≤ l1.length ∧ i = .int .i64 k ∧ l1.take k = l2.take k ∧ ∃ n, wr = w.drewN n) (fun i _ => l1.length - (intOf i).toNat)
    case atStart => exact ⟨0, Nat.zero_le _, rfl, by simp, 0, rfl⟩
    case round =>
      obtain ⟨k, hk, rfl, htk, n, rfl⟩ := hrel
      have Htk : Hid (l1.take k = l2.take k) := htk
      clear htk
      by_cases hlt : k < l1.length
      · obtain ⟨b1, o1, rfl, hb1, hx1⟩ := Hc1.out k hlt
        obtain ⟨b2, o2, rfl, hb2, hx2⟩ := Hc2.out k (by omega)
        obtain ⟨q1, hq1⟩ : ∃ q, l1.getD k 0 = q := ⟨_, rfl⟩
        obtain ⟨q2, hq2⟩ : ∃ q, l2.getD k 0 = q := ⟨_, rfl⟩
        rw [hq1] at hx1
        rw [hq2] at hx2
        have Hq1 : Hid (l1.getD k 0 = q1) := hq1
        have Hq2 : Hid (l2.getD k 0 = q2) := hq2
        clear hq1 hq2
        have hlt' : (k : Int) < l1.length := by omega
        have hlt2 : (k : Int) < l2.length := by omega
        by_cases hq : q1 = q2
        · have hqb : (q1 != q2) = false := by simp [hq]
          have Hq : Hid (q1 = q2) := hq
          clear hq
          go_wp2
          go_quiet (fail)
          go_wp2
          go_roundw
          case rel => exact ⟨k + 1, by omega, by go_num, take_eq_succ Htk.out hlt (by omega) (by rw [Hq1.out, Hq2.out, Hq.out]), _, rfl⟩
          case measure => simp [intOf]; omega
        · have hqb : (q1 != q2) = true := by simp [hq]
          have Hq : Hid (q1 ≠ q2) := hq
          clear hq
          go_wp2
          go_quiet (fail)
          go_wp2
          go_ret
          refine ⟨ret_bool (decide_eq_false ?_).symm, _, World.drewN_drewN _ _ _⟩
          intro e
          exact Hq.out (by rw [← Hq1.out, ← Hq2.out, e])
      · have hlt' : ¬ (k : Int) < l1.length := by omega
        go_wp2
        go_ret
        refine ⟨ret_bool (decide_eq_true ?_).symm, _, rfl⟩
        have h := Htk.out
        rwa [List.take_of_length_le (by omega), List.take_of_length_le (by omega)] at h
  · have hne : ((l1.length : Int) != (l2.length : Int)) = true := by simp; omega
    have Hll : Hid (l1.length ≠ l2.length) := hll
    clear hll
    go_enter Try.func42, Try.ntmps42
    go_wp2
    go_ret
    exact ⟨ret_bool (decide_eq_false (fun e => Hll.out (by rw [e]))).symm, 0, rfl⟩

end Go.Proofs.Ytdjhhnolcafkiaa

/- menderlaw.sameAskings: two lists that hold the same. -/
namespace Go.Proofs.Ytdjhhnolcafkiaa
open Go.RowKit
namespace Pk

/-- the cells of an asking in a list -/
theorem OwnAsks.at {W : World} {base n cap : Nat} {ao : Option Addr} {xs : List Ask1} (h : OwnAsks W base (.slice ao n cap) xs) (k : Nat) (hk : k < xs.length) :
    ∃ g, ao = some ⟨g, 0, none⟩ ∧ g < W.heap.size ∧ W.cell? ⟨g, k * 3, none⟩ = some (.int .i64 (xs[k]).a) ∧ W.cell? ⟨g, k * 3 + 1, none⟩ = some (.int .i64 (xs[k]).b) ∧ W.cell? ⟨g, k * 3 + 2, none⟩ = some (xs[k]).v ∧ OwnInts W base (xs[k]).v (xs[k]).l := by
  obtain ⟨a', c', e⟩ := rowA_shape h.row
  simp only [Value.slice.injEq] at e
  obtain ⟨rfl, hn, rfl⟩ := e
  have hr := h.row
  rw [hn] at hr
  obtain ⟨g, rfl⟩ := rowA_some hr (by omega)
  obtain ⟨f0, f1⟩ := flatA_at0 xs k hk
  have f2 := flatA_at xs k hk
  exact ⟨g, rfl, (hr.lt g rfl).2, (hr.cellAt (k * 3) (by omega)).trans f0, (hr.cellAt (k * 3 + 1) (by omega)).trans f1, (hr.cellAt (k * 3 + 2) (by omega)).trans f2, (h.each k _ (List.getElem?_eq_getElem hk)).1⟩

theorem mapA_at {xs ys : List Ask1} (h : mapA xs = mapA ys) : xs.length = ys.length ∧ ∀ k (h1 : k < xs.length) (h2 : k < ys.length), (xs[k]).a = (ys[k]).a ∧ (xs[k]).b = (ys[k]).b ∧ (xs[k]).l = (ys[k]).l := by
  unfold mapA at h
  have hl : xs.length = ys.length := by simpa using congrArg List.length h
  refine ⟨hl, fun k h1 h2 => ?_⟩
  have := List.getElem_of_eq h (i := k) (by simpa using h1)
  simpa using this

theorem OwnAsks.drewN {W : World} {base : Nat} {lv : Value} {xs : List Ask1} (h : OwnAsks W base lv xs) (n : Nat) : OwnAsks (W.drewN n) base lv xs :=
  ⟨rowA_chg (Chg.ofBelow (T := fun _ => False) (below_drewN (Below.refl _ _) n)) h.row (fun _ _ e => e), fun i x hx => ⟨(h.each i x hx).1.below (below_drewN (Below.refl _ _) n), (h.each i x hx).2⟩, h.apart, h.out⟩

end Pk
open Pk

set_option maxRecDepth 20000 in
set_option maxHeartbeats 4000000 in
theorem sameAskings_any (B1 B2 : Nat) (v1 v2 : Value) (xs ys : List Ask1) (w : World) (h1 : OwnAsks w B1 v1 xs) (h2 : OwnAsks w B2 v2 ys) (hm : mapA xs = mapA ys) (hl : xs.length ≤ 400) :
    Calls Try.prog 44 #[v1, v2] w fun e w' => e = .returned (.bool true) ∧ ∃ n, w' = w.drewN n := by
  obtain ⟨hll, hat⟩ := mapA_at hm
  obtain ⟨a1, c1, rfl⟩ := rowA_shape h1.row
  obtain ⟨a2, c2, rfl⟩ := rowA_shape h2.row
  rw [← hll] at h2 ⊢
  have H1 : Hid (OwnAsks w B1 (.slice a1 xs.length c1) xs) := h1
  have H2 : Hid (OwnAsks w B2 (.slice a2 xs.length c2) ys) := h2
  have Hat : Hid (∀ k (h1 : k < xs.length) (h2 : k < ys.length), (xs[k]).a = (ys[k]).a ∧ (xs[k]).b = (ys[k]).b ∧ (xs[k]).l = (ys[k]).l) := hat
  have Hll : Hid (xs.length = ys.length) := hll
  clear h1 h2 hm hll hat
  go_enter Try.func44, Try.ntmps44
  go_wp2
  go_loopw [5, 6] (fun s5 s6 wr => ∃ (k q : Nat), k ≤ xs.length ∧ s5 = .bool true ∧ s6 = .int .i64 k ∧ wr = w.drewN q) (fun _ s6 _ => xs.length - (intOf s6).toNat)
  case atStart => exact ⟨0, 0, Nat.zero_le _, by simp, rfl, rfl⟩
  case round =>
    obtain ⟨k, q, hk, rfl, rfl, rfl⟩ := hrel
    by_cases hlt : k < xs.length
    · have hlt' : (k : Int) < xs.length := by omega
      obtain ⟨g1, rfl, hg1, x0, x1, x2, xo⟩ := H1.out.at k hlt
      obtain ⟨g2, rfl, hg2, y0, y1, y2, yo⟩ := H2.out.at k (by have := Hll.out; omega)
      obtain ⟨e1, e2, e3⟩ := Hat.out k hlt (by have := Hll.out; omega)
      rw [← e1] at y0
      rw [← e2] at y1
      rw [← e3] at yo
      have hbl := (H1.out.each k _ (List.getElem?_eq_getElem hlt)).2
      generalize (xs[k]).a = sa at *
      generalize (xs[k]).b = sb at *
      generalize (xs[k]).l = li at *
      generalize (xs[k]).v = va at *
      generalize (ys[k]'_).v = vb at *
      obtain ⟨b1, d1, rfl⟩ := xo.shape
      obtain ⟨b2, d2, rfl⟩ := yo.shape
      have I1 : Hid (∀ n, IsInts w.heap.size (w.drewN n) (.slice b1 li.length d1) li) := fun n => xo.isInts.carry (below_drewN (Below.refl _ _) n)
      have I2 : Hid (∀ n, IsInts w.heap.size (w.drewN n) (.slice b2 li.length d2) li) := fun n => yo.isInts.carry (below_drewN (Below.refl _ _) n)
      clear xo yo e1 e2 e3
      go_wp2
      refine wp_region_noPanic ?_
      refine wp_region_held_drew (S := fun W => W.cell? ⟨g1, k * 3 + 2, none⟩ = some (.slice b1 li.length d1) ∧ W.cell? ⟨g2, k * 3 + 2, none⟩ = some (.slice b2 li.length d2)) (by kernel_rfl) (by simp only [World.drew]; exact ⟨x2, y2⟩) (fun hHeld => ?_)
      refine wpAnyH_take (i := 0) (v := ?vt1) rfl (by kernel_rfl) (by kernel_rfl) (by kernel_rfl) (fun _ _ _ h => h) (Or.inl ⟨by rfl, ?yt1⟩) hHeld ?rt1
      case yt1 => ((intro W hSw; obtain ⟨hS0, hS1⟩ := hSw; go_simp) <;> with_reducible rfl)
      try simp only [Act.put]
      try simp only [List.getElem_toArray]
      try simp only [List.getElem_cons_succ]
      try simp only [List.getElem_cons_zero]
      try simp only [List.setIfInBounds_toArray]
      try simp only [List.set_cons_succ]
      try simp only [List.set_cons_zero]
      refine wpAnyH_take (i := 1) (v := ?vt2) rfl (by kernel_rfl) (by kernel_rfl) (by kernel_rfl) (fun _ _ _ h => h) (Or.inl ⟨by rfl, ?yt2⟩) hHeld ?rt2
      case yt2 => ((intro W hSw; obtain ⟨hS0, hS1⟩ := hSw; go_simp) <;> with_reducible rfl)
      try simp only [Act.put]
      try simp only [List.getElem_toArray]
      try simp only [List.getElem_cons_succ]
      try simp only [List.getElem_cons_zero]
      try simp only [List.setIfInBounds_toArray]
      try simp only [List.set_cons_succ]
      try simp only [List.set_cons_zero]
      refine wpAnyH_take (i := 2) (v := ?vt3) rfl (by kernel_rfl) (by kernel_rfl) (by kernel_rfl) (fun _ _ _ h => h) (Or.inl ⟨by rfl, ?yt3⟩) hHeld ?rt3
      case yt3 => ((intro W hSw; obtain ⟨hS0, hS1⟩ := hSw; go_simp) <;> with_reducible rfl)
      try simp only [Act.put]
      try simp only [List.getElem_toArray]
      try simp only [List.getElem_cons_succ]
      try simp only [List.getElem_cons_zero]
      try simp only [List.setIfInBounds_toArray]
      try simp only [List.set_cons_succ]
      try simp only [List.set_cons_zero]
      refine wpAnyH_take (i := 3) (v := ?vt4) rfl (by kernel_rfl) (by kernel_rfl) (by kernel_rfl) (fun _ _ _ h => h) (Or.inl ⟨by rfl, ?yt4⟩) hHeld ?rt4
      case yt4 => ((intro W hSw; obtain ⟨hS0, hS1⟩ := hSw; go_simp) <;> with_reducible rfl)
      try simp only [Act.put]
      try simp only [List.getElem_toArray]
      try simp only [List.getElem_cons_succ]
      try simp only [List.getElem_cons_zero]
      try simp only [List.setIfInBounds_toArray]
      try simp only [List.set_cons_succ]
      try simp only [List.set_cons_zero]
      refine wpAnyH_take (i := 4) (v := ?vt5) rfl (by kernel_rfl) (by kernel_rfl) (by kernel_rfl) (fun _ _ _ h => h) (Or.inl ⟨by rfl, ?yt5⟩) hHeld ?rt5
      case yt5 => ((intro W hSw; obtain ⟨hS0, hS1⟩ := hSw; go_simp) <;> with_reducible rfl)
      try simp only [Act.put]
      try simp only [List.getElem_toArray]
      try simp only [List.getElem_cons_succ]
      try simp only [List.getElem_cons_zero]
      try simp only [List.setIfInBounds_toArray]
      try simp only [List.set_cons_succ]
      try simp only [List.set_cons_zero]
      refine wpAnyH_take (i := 5) (v := ?vt6) rfl (by kernel_rfl) (by kernel_rfl) (by kernel_rfl) (fun _ _ _ h => h) (Or.inl ⟨by rfl, ?yt6⟩) hHeld ?rt6
      case yt6 => ((intro W hSw; obtain ⟨hS0, hS1⟩ := hSw; go_simp) <;> with_reducible rfl)
      try simp only [Act.put]
      try simp only [List.getElem_toArray]
      try simp only [List.getElem_cons_succ]
      try simp only [List.getElem_cons_zero]
      try simp only [List.setIfInBounds_toArray]
      try simp only [List.set_cons_succ]
      try simp only [List.set_cons_zero]
      refine wpAnyH_take (i := 6) (v := ?vt7) rfl (by kernel_rfl) (by kernel_rfl) (by kernel_rfl) (fun _ _ _ h => h) (Or.inl ⟨by rfl, ?yt7⟩) hHeld ?rt7
      case yt7 => ((intro W hSw; obtain ⟨hS0, hS1⟩ := hSw; go_simp) <;> with_reducible rfl)
      try simp only [Act.put]
      try simp only [List.getElem_toArray]
      try simp only [List.getElem_cons_succ]
      try simp only [List.getElem_cons_zero]
      try simp only [List.setIfInBounds_toArray]
      try simp only [List.set_cons_succ]
      try simp only [List.set_cons_zero]
      refine wpAnyH_take (i := 7) (v := ?vt8) rfl (by kernel_rfl) (by kernel_rfl) (by kernel_rfl) (fun _ _ _ h => h) (Or.inl ⟨by rfl, ?yt8⟩) hHeld ?rt8
      case yt8 => ((intro W hSw; obtain ⟨hS0, hS1⟩ := hSw; go_simp) <;> with_reducible rfl)
      try simp only [Act.put]
      try simp only [List.getElem_toArray]
      try simp only [List.getElem_cons_succ]
      try simp only [List.getElem_cons_zero]
      try simp only [List.setIfInBounds_toArray]
      try simp only [List.set_cons_succ]
      try simp only [List.set_cons_zero]
      refine wpAnyH_take (i := 8) (v := ?vt9) rfl (by kernel_rfl) (by kernel_rfl) (by kernel_rfl) (fun _ _ _ h => h) (Or.inl ⟨by rfl, ?yt9⟩) hHeld ?rt9
      case yt9 => ((intro W hSw; obtain ⟨hS0, hS1⟩ := hSw; go_simp) <;> with_reducible rfl)
      try simp only [Act.put]
      try simp only [List.getElem_toArray]
      try simp only [List.getElem_cons_succ]
      try simp only [List.getElem_cons_zero]
      try simp only [List.setIfInBounds_toArray]
      try simp only [List.set_cons_succ]
      try simp only [List.set_cons_zero]
      refine wpAnyH_take (i := 9) (v := ?vt10) rfl (by kernel_rfl) (by kernel_rfl) (by kernel_rfl) (fun _ _ _ h => h) (Or.inl ⟨by rfl, ?yt10⟩) hHeld ?rt10
      case yt10 => ((intro W hSw; obtain ⟨hS0, hS1⟩ := hSw; go_simp) <;> with_reducible rfl)
      try simp only [Act.put]
      try simp only [List.getElem_toArray]
      try simp only [List.getElem_cons_succ]
      try simp only [List.getElem_cons_zero]
      try simp only [List.setIfInBounds_toArray]
      try simp only [List.set_cons_succ]
      try simp only [List.set_cons_zero]
      refine wpAnyH_ready (rs := [10]) (by kernel_rfl) (by simp) ?_
      refine AllReadyH.cons rfl (fun K hK => ?_) AllReadyH.nil
      go_simp
      refine (sameNumbers_any w.heap.size _ _ li li _ (I1.out _) (I2.out _) (by omega) (by omega)).mono ?_
      rintro e w1 ⟨rfl, n, rfl⟩
      rw [decide_eq_true rfl]
      go_wp2_with fail
      refine hK.out _ _ (by simp only [World.cell?_drewN]; exact ⟨x2, y2⟩) (fun hHeld => ?_)
      clear hK K
      refine wpAnyH_take (i := 11) (v := ?vt11) rfl (by kernel_rfl) (by kernel_rfl) (by kernel_rfl) (fun _ _ _ h => h) (Or.inl ⟨by rfl, ?yt11⟩) hHeld ?rt11
      case yt11 => ((intro W hSw; obtain ⟨hS0, hS1⟩ := hSw; go_simp) <;> with_reducible rfl)
      try simp only [Act.put]
      try simp only [List.getElem_toArray]
      try simp only [List.getElem_cons_succ]
      try simp only [List.getElem_cons_zero]
      try simp only [List.setIfInBounds_toArray]
      try simp only [List.set_cons_succ]
      try simp only [List.set_cons_zero]
      refine wpAnyH_done (by kernel_rfl) ?_ _
      refine NoPanic.normal ?_
      go_wp2
      go_quiet (fail)
      go_wp2
      go_roundw
      case rel => exact ⟨k + 1, _, by omega, rfl, by go_num, rfl⟩
      case measure => simp [intOf]; omega
    · have hlt' : ¬ (k : Int) < xs.length := by omega
      go_wp2
      go_ret
      exact ⟨rfl, _, rfl⟩

end Go.Proofs.Ytdjhhnolcafkiaa

/- menderkeep.shifted and menderkeep.further. -/
namespace Go.Proofs.Ytdjhhnolcafkiaa
open Go.RowKit
open Pk

set_option maxHeartbeats 1000000 in
theorem shifted_any (B : Nat) (v1 v2 : Value) (base turn : Nat) (ks : List Nat) (w : World) (h1 : IsInts B w v1 (numK base ks)) (h2 : IsInts B w v2 (numK (base + turn) ks)) (ht : turn < 65536) (hk : ks.length ≤ 1000) :
    Calls Try.prog 34 #[v1, v2, .int .i64 turn] w fun e w' => e = .returned (.bool true) ∧ ∃ n, w' = w.drewN n := by
  have hl1 : (numK base ks).length = ks.length := by unfold numK; rw [List.length_map]
  have hl2 : (numK (base + turn) ks).length = ks.length := by unfold numK; rw [List.length_map]
  obtain ⟨a1, c1, rfl, hc1⟩ := h1
  obtain ⟨a2, c2, rfl, hc2⟩ := h2
  rw [hl1] at hc1 ⊢
  rw [hl2] at hc2 ⊢
  have Hc : Hid (∀ j, j < ks.length → ∃ (b off b' off' n m : Nat), a1 = some ⟨b, off, none⟩ ∧ a2 = some ⟨b', off', none⟩ ∧ w.cell? ⟨b, off + j, none⟩ = some (.int .i64 (n : Int)) ∧ w.cell? ⟨b', off' + j, none⟩ = some (.int .i64 (m : Int)) ∧ n < 65536 ∧ (n + turn) % 65536 = m) := fun j hj => by
    obtain ⟨b, off, e1, _, x1⟩ := hc1 j hj
    obtain ⟨b', off', e2, _, x2⟩ := hc2 j hj
    obtain ⟨n, m, q1, q2, q3, q4⟩ := numK_turn base turn ks j hj
    refine ⟨b, off, b', off', n, m, e1, e2, ?_, ?_, q3, q4⟩
    · rw [x1, List.getD_eq_getElem?_getD, q1]; rfl
    · rw [x2, List.getD_eq_getElem?_getD, q2]; rfl
  clear hc1 hc2 hl1 hl2
  generalize ks.length = N at *
  go_enter Try.func34, Try.ntmps34
  go_wp2
  go_loopw [7] (fun i wr => ∃ k : Nat, k ≤ N ∧ i = .int .i64 k ∧ ∃ n, wr = w.drewN n) (fun i _ => N - (intOf i).toNat)
  case atStart => exact ⟨0, Nat.zero_le _, rfl, 0, rfl⟩
  case round =>
    obtain ⟨k, hk', rfl, n, rfl⟩ := hrel
    by_cases hlt : k < N
    · obtain ⟨b1, o1, b2, o2, q1, q2, rfl, rfl, hx1, hx2, hq1, hq2⟩ := Hc.out k hlt
      have hlt' : (k : Int) < N := by omega
      have hw : IntKind.i64.wrap ((q1 : Int) + (turn : Int)) = (q1 : Int) + (turn : Int) := i64_id _ (by omega) (by omega)
      have hm1 : ((q1 : Int) + (turn : Int)).tmod 65536 = (q2 : Int) := by rw [Int.tmod_eq_emod_of_nonneg (by omega)]; omega
      have hm2 : ((q1 : Int) + (turn : Int)) % 65536 = (q2 : Int) := by omega
      clear hq2
      go_wp2
      go_quiet (fail)
      go_wp2
      go_roundw
      case rel => exact ⟨k + 1, by omega, by go_num, _, rfl⟩
      case measure => simp [intOf]; omega
    · have hlt' : ¬ (k : Int) < N := by omega
      go_wp2
      go_ret
      exact ⟨rfl, _, rfl⟩

theorem ask1_one {xs : List Ask1} {a b : Nat} {l : List Int} (h : xs.map (fun x => (x.a, x.b, x.l)) = [((a : Int), (b : Int), l)]) : ∃ v, xs = [⟨a, b, v, l⟩] := by
  match xs, h with
  | [⟨xa, xb, xv, xl⟩], h =>
    simp at h
    obtain ⟨rfl, rfl, rfl⟩ := h
    exact ⟨xv, rfl⟩
  | [], h => simp at h
  | _ :: _ :: _, h => simp at h

set_option maxRecDepth 20000 in
set_option maxHeartbeats 4000000 in
theorem further_any (s t : ByteArray) (base turn : Nat) (ks : List Nat) (w : World) (hs : repR s = some [(0, 3, numK base ks)]) (ht : repR t = some [(0, 3, numK (base + turn) ks)]) (hss : s.size ≤ 1500) (hts : t.size ≤ 1500) (htu : turn < 65536) (hk : ks.length ≤ 1000) :
    Calls Try.prog 32 #[.string s, .string t, .int .i64 turn] w fun e w' => e = .returned (.bool true) ∧ Below w.heap.size w w' := by
  have Hs : Hid (repR s = some [(0, 3, numK base ks)]) := hs
  have Ht : Hid (repR t = some [(0, 3, numK (base + turn) ks)]) := ht
  clear hs ht
  go_enter Try.func32, Try.ntmps32
  go_wp2_with fail
  refine (parseReport_any s _ (by unfold maxLen; omega)).mono ?_
  rintro e w1 ⟨hb1, hr1⟩
  rw [Hs.out] at hr1
  obtain ⟨lv1, xs1, rfl, hown1, hm1⟩ := hr1
  obtain ⟨xv1, rfl⟩ := ask1_one (a := 0) (b := 3) hm1
  obtain ⟨a1, c1, rfl⟩ := rowA_shape hown1.row
  have hrow1 := hown1.row
  obtain ⟨g1, rfl⟩ := rowA_some hrow1 (by simp)
  have f1 : w1.cell? ⟨g1, 1, none⟩ = some (.int .i64 3) := hrow1.cellAt 1 (by simp)
  have f2 : w1.cell? ⟨g1, 2, none⟩ = some xv1 := hrow1.cellAt 2 (by simp)
  have hxo1 := (hown1.each 0 _ rfl).1
  have hg1 := (hrow1.lt g1 rfl).2
  simp only at hxo1
  have HO1 : Hid (OwnInts w1 w.heap.size xv1 (numK base ks)) := hxo1
  have HB1 : Hid (Below w.heap.size w w1) := hb1
  obtain ⟨a3, c3, rfl⟩ := hxo1.shape
  clear hm1 hown1 hrow1 hxo1 hb1
  go_wp2_with fail
  refine (parseReport_any t _ (by unfold maxLen; omega)).mono ?_
  rintro e w2 ⟨hb2, hr2⟩
  rw [Ht.out] at hr2
  obtain ⟨lv2, xs2, rfl, hown2, hm2⟩ := hr2
  obtain ⟨xv2, rfl⟩ := ask1_one (a := 0) (b := 3) hm2
  obtain ⟨a2, c2, rfl⟩ := rowA_shape hown2.row
  have hrow2 := hown2.row
  obtain ⟨g2, rfl⟩ := rowA_some hrow2 (by simp)
  have k1 : w2.cell? ⟨g2, 1, none⟩ = some (.int .i64 3) := hrow2.cellAt 1 (by simp)
  have k2 : w2.cell? ⟨g2, 2, none⟩ = some xv2 := hrow2.cellAt 2 (by simp)
  have f1' : w2.cell? ⟨g1, 1, none⟩ = some (.int .i64 3) := (hb2.cell (p := ⟨g1, 1, none⟩) hg1).trans f1
  have f2' : w2.cell? ⟨g1, 2, none⟩ = some (.slice a3 (numK base ks).length c3) := (hb2.cell (p := ⟨g1, 2, none⟩) hg1).trans f2
  have hxo2 := (hown2.each 0 _ rfl).1
  simp only at hxo2
  have HB2 : Hid (Below w.heap.size w w2) := HB1.out.trans (hb2.mono HB1.out.size)
  obtain ⟨a4, c4, rfl⟩ := hxo2.shape
  have I1 : Hid (∀ n, IsInts w2.heap.size (w2.drewN n) (.slice a3 (numK base ks).length c3) (numK base ks)) := fun n => (HO1.out.below hb2).isInts.carry (below_drewN (Below.refl _ _) n)
  have I2 : Hid (∀ n, IsInts w2.heap.size (w2.drewN n) (.slice a4 (numK (base + turn) ks).length c4) (numK (base + turn) ks)) := fun n => hxo2.isInts.carry (below_drewN (Below.refl _ _) n)
  clear hm2 hown2 hrow2 hxo2 hb2 f1 f2 HO1 HB1
  go_wp2
  refine wp_region_noPanic ?_
  refine wp_region_held_drew (S := fun W => W.cell? ⟨g1, 2, none⟩ = some (.slice a3 (numK base ks).length c3) ∧ W.cell? ⟨g2, 2, none⟩ = some (.slice a4 (numK (base + turn) ks).length c4)) (by kernel_rfl) (by simp only [World.drew]; exact ⟨f2', k2⟩) (fun hHeld => ?_)
  refine wpAnyH_take (i := 0) (v := ?vt1) rfl (by kernel_rfl) (by kernel_rfl) (by kernel_rfl) (fun _ _ _ h => h) (Or.inl ⟨by rfl, ?yt1⟩) hHeld ?rt1
  case yt1 => ((intro W hSw; obtain ⟨hS0, hS1⟩ := hSw; go_simp) <;> with_reducible rfl)
  try simp only [Act.put]
  try simp only [List.getElem_toArray]
  try simp only [List.getElem_cons_succ]
  try simp only [List.getElem_cons_zero]
  try simp only [List.setIfInBounds_toArray]
  try simp only [List.set_cons_succ]
  try simp only [List.set_cons_zero]
  refine wpAnyH_take (i := 1) (v := ?vt2) rfl (by kernel_rfl) (by kernel_rfl) (by kernel_rfl) (fun _ _ _ h => h) (Or.inl ⟨by rfl, ?yt2⟩) hHeld ?rt2
  case yt2 => ((intro W hSw; obtain ⟨hS0, hS1⟩ := hSw; go_simp) <;> with_reducible rfl)
  try simp only [Act.put]
  try simp only [List.getElem_toArray]
  try simp only [List.getElem_cons_succ]
  try simp only [List.getElem_cons_zero]
  try simp only [List.setIfInBounds_toArray]
  try simp only [List.set_cons_succ]
  try simp only [List.set_cons_zero]
  refine wpAnyH_take (i := 2) (v := ?vt3) rfl (by kernel_rfl) (by kernel_rfl) (by kernel_rfl) (fun _ _ _ h => h) (Or.inl ⟨by rfl, ?yt3⟩) hHeld ?rt3
  case yt3 => ((intro W hSw; obtain ⟨hS0, hS1⟩ := hSw; go_simp) <;> with_reducible rfl)
  try simp only [Act.put]
  try simp only [List.getElem_toArray]
  try simp only [List.getElem_cons_succ]
  try simp only [List.getElem_cons_zero]
  try simp only [List.setIfInBounds_toArray]
  try simp only [List.set_cons_succ]
  try simp only [List.set_cons_zero]
  refine wpAnyH_take (i := 3) (v := ?vt4) rfl (by kernel_rfl) (by kernel_rfl) (by kernel_rfl) (fun _ _ _ h => h) (Or.inl ⟨by rfl, ?yt4⟩) hHeld ?rt4
  case yt4 => ((intro W hSw; obtain ⟨hS0, hS1⟩ := hSw; go_simp) <;> with_reducible rfl)
  try simp only [Act.put]
  try simp only [List.getElem_toArray]
  try simp only [List.getElem_cons_succ]
  try simp only [List.getElem_cons_zero]
  try simp only [List.setIfInBounds_toArray]
  try simp only [List.set_cons_succ]
  try simp only [List.set_cons_zero]
  refine wpAnyH_take (i := 4) (v := ?vt5) rfl (by kernel_rfl) (by kernel_rfl) (by kernel_rfl) (fun _ _ _ h => h) (Or.inl ⟨by rfl, ?yt5⟩) hHeld ?rt5
  case yt5 => ((intro W hSw; obtain ⟨hS0, hS1⟩ := hSw; go_simp) <;> with_reducible rfl)
  try simp only [Act.put]
  try simp only [List.getElem_toArray]
  try simp only [List.getElem_cons_succ]
  try simp only [List.getElem_cons_zero]
  try simp only [List.setIfInBounds_toArray]
  try simp only [List.set_cons_succ]
  try simp only [List.set_cons_zero]
  refine wpAnyH_take (i := 5) (v := ?vt6) rfl (by kernel_rfl) (by kernel_rfl) (by kernel_rfl) (fun _ _ _ h => h) (Or.inl ⟨by rfl, ?yt6⟩) hHeld ?rt6
  case yt6 => ((intro W hSw; obtain ⟨hS0, hS1⟩ := hSw; go_simp) <;> with_reducible rfl)
  try simp only [Act.put]
  try simp only [List.getElem_toArray]
  try simp only [List.getElem_cons_succ]
  try simp only [List.getElem_cons_zero]
  try simp only [List.setIfInBounds_toArray]
  try simp only [List.set_cons_succ]
  try simp only [List.set_cons_zero]
  refine wpAnyH_take (i := 6) (v := ?vt7) rfl (by kernel_rfl) (by kernel_rfl) (by kernel_rfl) (fun _ _ _ h => h) (Or.inl ⟨by rfl, ?yt7⟩) hHeld ?rt7
  case yt7 => ((intro W hSw; obtain ⟨hS0, hS1⟩ := hSw; go_simp) <;> with_reducible rfl)
  try simp only [Act.put]
  try simp only [List.getElem_toArray]
  try simp only [List.getElem_cons_succ]
  try simp only [List.getElem_cons_zero]
  try simp only [List.setIfInBounds_toArray]
  try simp only [List.set_cons_succ]
  try simp only [List.set_cons_zero]
  refine wpAnyH_take (i := 7) (v := ?vt8) rfl (by kernel_rfl) (by kernel_rfl) (by kernel_rfl) (fun _ _ _ h => h) (Or.inl ⟨by rfl, ?yt8⟩) hHeld ?rt8
  case yt8 => ((intro W hSw; obtain ⟨hS0, hS1⟩ := hSw; go_simp) <;> with_reducible rfl)
  try simp only [Act.put]
  try simp only [List.getElem_toArray]
  try simp only [List.getElem_cons_succ]
  try simp only [List.getElem_cons_zero]
  try simp only [List.setIfInBounds_toArray]
  try simp only [List.set_cons_succ]
  try simp only [List.set_cons_zero]
  refine wpAnyH_take (i := 8) (v := ?vt9) rfl (by kernel_rfl) (by kernel_rfl) (by kernel_rfl) (fun _ _ _ h => h) (Or.inl ⟨by rfl, ?yt9⟩) hHeld ?rt9
  case yt9 => ((intro W hSw; obtain ⟨hS0, hS1⟩ := hSw; go_simp) <;> with_reducible rfl)
  try simp only [Act.put]
  try simp only [List.getElem_toArray]
  try simp only [List.getElem_cons_succ]
  try simp only [List.getElem_cons_zero]
  try simp only [List.setIfInBounds_toArray]
  try simp only [List.set_cons_succ]
  try simp only [List.set_cons_zero]
  refine wpAnyH_ready (rs := [9]) (by kernel_rfl) (by simp) ?_
  refine AllReadyH.cons rfl (fun K hK => ?_) AllReadyH.nil
  go_simp
  refine (shifted_any w2.heap.size _ _ base turn ks _ (I1.out _) (I2.out _) htu hk).mono ?_
  rintro e w3 ⟨rfl, n, rfl⟩
  go_wp2_with fail
  refine hK.out _ _ (by simp only [World.cell?_drewN]; exact ⟨f2', k2⟩) (fun hHeld => ?_)
  clear hK K
  refine wpAnyH_take (i := 10) (v := ?vt10) rfl (by kernel_rfl) (by kernel_rfl) (by kernel_rfl) (fun _ _ _ h => h) (Or.inl ⟨by rfl, ?yt10⟩) hHeld ?rt10
  case yt10 => ((intro W hSw; obtain ⟨hS0, hS1⟩ := hSw; go_simp) <;> with_reducible rfl)
  try simp only [Act.put]
  try simp only [List.getElem_toArray]
  try simp only [List.getElem_cons_succ]
  try simp only [List.getElem_cons_zero]
  try simp only [List.setIfInBounds_toArray]
  try simp only [List.set_cons_succ]
  try simp only [List.set_cons_zero]
  refine wpAnyH_done (by kernel_rfl) ?_ _
  refine NoPanic.normal ?_
  go_wp2
  go_ret
  refine ⟨rfl, ?_⟩
  first | exact below_drewN HB2.out _ | exact below_drewN (below_drewN HB2.out _) _ | exact below_drewN (below_drewN (below_drewN HB2.out _) _) _

/-- what is missing of a mender that goes on -/
theorem missing_live {c : Cfg} {base i : Nat} {bg : Option (Nat × Nat × List Og)} {M : Md} {s : Stt} {sd : Sd} {x : Wn} (h : LiveM c base i bg M s sd x) (hi : i ≤ 1000000) {ρ : Nat → Nat} {mb : Nat} {sv wv : Value} {SB WB : List (Nat × Value)} {w : World} (hm : MdAt w ρ mb M sv wv SB WB) :
    Calls Try.prog 33 #[.pointer (some ⟨mb, 0, none⟩), .int .i64 3] w fun e w' => ∃ v, e = .returned (.tuple #[v, .int .i64 0]) ∧ OwnInts w' w.heap.size v (numK base (gapK bg)) ∧ Below w.heap.size w w' := by
  have hok := (h.all hi).ok.snd
  have hp : sndPos M 3 = some 0 := by rw [h.eq]; simp [sndPos, h.src]
  have hg : M.sds[0]? = some sd := by rw [h.eq]; rfl
  refine (missing_any ρ mb M sv wv SB WB 3 w hm (fun q hq => ⟨(hok q hq).1, by have := (hok q hq).2.2; omega⟩)).mono ?_
  rintro e w' ⟨hb, hr⟩
  rcases hr with ⟨hno, _⟩ | ⟨j, sq, v, hj, hsq, rfl, hown⟩
  · rw [hp] at hno
    cases hno
  · rw [hp, Option.some.injEq] at hj
    subst hj
    rw [hg, Option.some.injEq] at hsq
    subst hsq
    rw [h.gaps.1] at hown
    exact ⟨v, rfl, hown, hb⟩
theorem look_live {c : Cfg} {base i : Nat} {bg : Option (Nat × Nat × List Og)} {M : Md} {s : Stt} {sd : Sd} {x : Wn} (h : LiveM c base i bg M s sd x) {ρ : Nat → Nat} {mb : Nat} {sv wv : Value} {SB WB : List (Nat × Value)} {w : World} (hm : MdAt w ρ mb M sv wv SB WB) :
    Calls Try.prog 31 #[.pointer (some ⟨mb, 0, none⟩)] w fun e w' => e = .returned (.agg (sttA s)) ∧ Below w.heap.size w w' := by
  have hs : M.s = s := by rw [h.eq]
  rw [← hs]
  exact look_any ρ mb M sv wv SB WB w hm

end Go.Proofs.Ytdjhhnolcafkiaa

/- menderkeep.Turned returns true. -/
namespace Go.Proofs.Ytdjhhnolcafkiaa
open Go.RowKit
open Pk

set_option maxRecDepth 20000 in
set_option maxHeartbeats 8000000 in
theorem turned_walk (cv : Value) (cl : List Int) (sv0 : Value) (l : List StepR) (by_ : Int) (w : World) (hv : IsInts w.heap.size w cv cl) (hin : ∀ c ∈ cl, -9223372036854775808 ≤ c ∧ c ≤ 9223372036854775807) (hcl : cl.length ≤ maxLen) (hs : IsSteps w.heap.size w sv0 l) (hl : ∀ r ∈ l, StOk r) (_hll : l.length ≤ maxLen) (hby : -9223372036854775808 ≤ by_ ∧ by_ ≤ 9223372036854775807) :
    Calls Try.prog 8 #[cv, sv0, .int .i64 by_] w fun e w' => e = .returned (.bool true) ∧ Below w.heap.size w w' := by
  have Hv : Hid (IsInts w.heap.size w cv cl) := hv
  have Hin : Hid (∀ c ∈ cl, -9223372036854775808 ≤ c ∧ c ≤ 9223372036854775807) := hin
  have Hcl : Hid (cl.length ≤ maxLen) := hcl
  obtain ⟨ai, ci, rfl, _⟩ := hv
  obtain ⟨ao, cap, rfl, hc⟩ := hs
  have Hl : Hid (∀ r ∈ l, StOk r) := hl
  have Hc : Hid (∀ (j : Nat) (r : StepR), l[j]? = some r → ∃ b off, ao = some ⟨b, off, none⟩ ∧ b < w.heap.size ∧ w.cell? ⟨b, off + j * 3, none⟩ = some (.int .i64 r.what) ∧ w.cell? ⟨b, off + j * 3 + 1, none⟩ = some (.int .i64 r.n) ∧ w.cell? ⟨b, off + j * 3 + 2, none⟩ = some (.string r.py)) := hc
  unfold maxLen at _hll
  have Hcf : Hid (cfgOk (cfgF cl) = true) := cfgF_ok cl
  clear hl hc hin hcl
  go_enter Try.func8, Try.ntmps8
  go_wp2_with fail
  refine (config_any _ cl w Hv.out Hin.out Hcl.out).mono ?_
  rintro e w1 ⟨rfl, hb1⟩
  have HB1 : Hid (Below w.heap.size w w1) := hb1
  clear hb1
  go_wp2_with fail
  refine (begun_any (cfgF cl) _ Hcf.out).mono ?_
  rintro e w2 ⟨mba, rfl, hb2, ra, sva, wva, SBa, WBa, hMa, hra⟩
  have HB2 : Hid (Below w.heap.size w w2) := HB1.out.trans (hb2.mono HB1.out.size)
  have HMa : Hid (MdAt w2 ra mba (bM (cfgF cl)) sva wva SBa WBa) := hMa
  have HPa : Hid (∀ b, b < w.heap.size → ra b = 0) := fun b hb => hra b (Nat.lt_of_lt_of_le hb HB1.out.size)
  clear hb2 hMa hra HB1
  go_wp2_with fail
  refine (config_any _ cl w2 ((Hv.out.carry HB2.out).mono HB2.out.size) Hin.out Hcl.out).mono ?_
  rintro e w3 ⟨rfl, hb3⟩
  have HB3 : Hid (Below w.heap.size w w3) := HB2.out.trans (hb3.mono HB2.out.size)
  have HMa3 : Hid (MdAt w3 ra mba (bM (cfgF cl)) sva wva SBa WBa) := HMa.out.below hb3
  clear hb3 HMa HB2 Hin Hcl Hv
  generalize cfgF cl = c at *
  go_wp2_with fail
  refine (begun_any c _ Hcf.out).mono ?_
  rintro e w4 ⟨mbb, rfl, hb4, rb, svb, wvb, SBb, WBb, hMb, hrb⟩
  have HB4 : Hid (Below w.heap.size w w4) := HB3.out.trans (hb4.mono HB3.out.size)
  have HMa4 : Hid (MdAt w4 ra mba (bM c) sva wva SBa WBa) := HMa3.out.below hb4
  have HMb : Hid (MdAt w4 rb mbb (bM c) svb wvb SBb WBb) := hMb
  have HPb : Hid (∀ b, b < w.heap.size → rb b = 0) := fun b hb => hrb b (Nat.lt_of_lt_of_le hb HB3.out.size)
  have Hdis : Hid (∀ y, ra y = 0 ∨ rb y = 0) := fun y => by
    rcases Nat.lt_or_ge y w3.heap.size with e | e
    · exact .inr (hrb y e)
    · exact .inl (HMa3.out.hi y e)
  clear hb4 hMb hrb HMa3 HB3
  go_wp2_with fail
  refine (known_any _).mono ?_
  rintro e w5 ⟨rfl, hb5⟩
  have HB5 : Hid (Below w.heap.size w w5) := HB4.out.trans (hb5.mono HB4.out.size)
  have HMa5 : Hid (MdAt w5 ra mba (bM c) sva wva SBa WBa) := HMa4.out.below hb5
  have HMb5 : Hid (MdAt w5 rb mbb (bM c) svb wvb SBb WBb) := HMb.out.below hb5
  clear hb5 HMa4 HMb HB4
  go_wp2_with fail
  refine (pick_any _ _ _ hby.1 hby.2 (by omega) (by omega)).mono ?_
  rintro e w6 ⟨rfl, hw6⟩
  rw [hw6]
  clear hw6 w6
  have q0 := pickF_lo by_ 65536 (by omega)
  have q1 := pickF_hi by_ 65536 (by omega)
  generalize pickF by_ 65536 = pb at *
  obtain ⟨turn, rfl⟩ := Int.eq_ofNat_of_zero_le q0
  have htu : turn < 65536 := by omega
  have HW0 : Hid (TurnAt w c turn mba mbb 0 w5) := ⟨none, _, _, _, _, _, _, _, ra, rb, live_begin c 1000 Hcf.out, live_begin c (1000 + turn) Hcf.out, alike_refl _, ⟨_, _, _, _, HMa5.out⟩, ⟨_, _, _, _, HMb5.out⟩, Hdis.out, HPa.out, HPb.out, HB5.out⟩
  clear HMa5 HMb5 HB5 Hdis HPa HPb
  go_wp2
  go_loopw [11] (fun s11 wr => ∃ i : Nat, i ≤ l.length ∧ i ≤ 100000 ∧ s11 = .int .i64 i ∧ TurnAt w c turn mba mbb i wr) (fun s11 _ => l.length - (intOf s11).toNat)
  case atStart => exact ⟨0, Nat.zero_le _, by omega, rfl, HW0.out⟩
  case round =>
    obtain ⟨i, hil, hi5, rfl, hO⟩ := hrel
    have HO : Hid (TurnAt w c turn mba mbb i wr) := hO
    clear hO HW0
    by_cases hgo : i < l.length ∧ i < 100000
    · have h1 : (i : Int) < l.length := by omega
      have h2 : (i : Int) < 100000 := by omega
      have hri : l[i]? = some l[i] := List.getElem?_eq_getElem hgo.1
      obtain ⟨r, hr⟩ : ∃ r, l[i] = r := ⟨_, rfl⟩
      rw [hr] at hri
      have hrO := Hl.out r (List.mem_of_getElem? hri)
      obtain ⟨b, off, rfl, hb, hc0, hc1, hc2⟩ := Hc.out i r hri
      obtain ⟨bg, Ma, Mb, s, sda, sdb, xa, xb, ra, rb, o1⟩ := HO.out
      obtain ⟨what, n, py⟩ := r
      simp only at hc0 hc1 hc2
      have d0 : wr.cell? ⟨b, off + i * 3, none⟩ = some (.int .i64 what) := (o1.bel.cell (p := ⟨b, off + i * 3, none⟩) hb).trans hc0
      have d1 : wr.cell? ⟨b, off + i * 3 + 1, none⟩ = some (.int .i64 n) := (o1.bel.cell (p := ⟨b, off + i * 3 + 1, none⟩) hb).trans hc1
      have d2 : wr.cell? ⟨b, off + i * 3 + 2, none⟩ = some (.string py) := (o1.bel.cell (p := ⟨b, off + i * 3 + 2, none⟩) hb).trans hc2
      have Hst : Hid (StOk ⟨what, n, py⟩) := hrO
      have O1 : Hid (TMen w c turn mba mbb i bg Ma Mb s sda sdb xa xb ra rb wr) := o1
      have HD : Hid (w.cell? ⟨b, off + i * 3, none⟩ = some (.int .i64 what) ∧ w.cell? ⟨b, off + i * 3 + 1, none⟩ = some (.int .i64 n) ∧ w.cell? ⟨b, off + i * 3 + 2, none⟩ = some (.string py)) := ⟨hc0, hc1, hc2⟩
      have Hka : Hid (AllOk Ma) := o1.la.all (by omega)
      have Hkb : Hid (AllOk Mb) := o1.lb.all (by omega)
      clear hr hri hrO hc0 hc1 hc2 o1 HO
      obtain ⟨sva, wva, SBa, WBa, hmda⟩ := O1.out.ma
      obtain ⟨svb, wvb, SBb, WBb, hmdb⟩ := O1.out.mb
      have Hmdb : Hid (MdAt wr rb mbb Mb svb wvb SBb WBb) := hmdb
      clear hmdb
      go_wp2_with fail
      refine (does_any ra mba Ma sva wva SBa WBa what n py 1000 _ hmda Hka.out Hst.out.1 Hst.out.2.1 Hst.out.2.2 (by omega)).mono ?_
      rintro e w2 ⟨cva, tva, rfl, hmva⟩
      obtain ⟨⟨ra', sva', wva', SBa', WBa', ma', dis', za'⟩, mb', bel', chg', row'⟩ := moved_beside (w := w) hmva Hmdb.out O1.out.dis O1.out.za O1.out.bel
      have Hma2 : Hid (MdAt w2 ra' mba (doesM Ma what n py 1000 cva).1 sva' wva' SBa' WBa') := ma'
      have Hmb2 : Hid (MdAt w2 rb mbb Mb svb wvb SBb WBb) := mb'
      have Hdis2 : Hid (∀ y, rb y = 0 ∨ ra' y = 0) := fun y => (dis' y).symm
      have Hza2 : Hid (∀ b, b < w.heap.size → ra' b = 0) := za'
      have Hbel2 : Hid (Below w.heap.size w w2) := bel'
      have HL2 : Hid (w2.ownsRow wr.heap.size 9 1 tva (doesM Ma what n py 1000 cva).2.1.length ((doesM Ma what n py 1000 cva).2.1.map Value.string)) := row'
      have Hg2 : Hid (∀ g, tva.ownBlock = some g → rb g = 0 ∧ wr.heap.size ≤ g) := fun g hg => ⟨Hmdb.out.hi g (row'.lt g hg).1, (row'.lt g hg).1⟩
      have e0 : w2.cell? ⟨b, off + i * 3, none⟩ = some (.int .i64 what) := (bel'.cell (p := ⟨b, off + i * 3, none⟩) hb).trans HD.out.1
      have e1 : w2.cell? ⟨b, off + i * 3 + 1, none⟩ = some (.int .i64 n) := (bel'.cell (p := ⟨b, off + i * 3 + 1, none⟩) hb).trans HD.out.2.1
      have e2 : w2.cell? ⟨b, off + i * 3 + 2, none⟩ = some (.string py) := (bel'.cell (p := ⟨b, off + i * 3 + 2, none⟩) hb).trans HD.out.2.2
      have hea : ∃ ea : Int, (doesM Ma what n py 1000 cva).2.2 = ea := ⟨_, rfl⟩
      obtain ⟨ea, hea⟩ := hea
      have HEA : Hid ((doesM Ma what n py 1000 cva).2.2 = ea) := hea
      rw [hea]
      obtain ⟨tb, htb⟩ : ∃ tb : Nat, 1000 + turn = tb := ⟨_, rfl⟩
      have HTB : Hid (1000 + turn = tb) := htb
      have htw : IntKind.i64.wrap (1000 + (turn : Int)) = (tb : Int) := by rw [i64_id _ (by omega) (by omega)]; omega
      have htw2 : (1000 : Int) + (turn : Int) = (tb : Int) := by omega
      obtain ⟨taa, tna, tca, rfl⟩ : ∃ a n c, tva = .slice a n c := by obtain ⟨a, c, e⟩ := rowA_shape row'; exact ⟨a, _, c, e⟩
      clear hmva hmda ma' dis' za' mb' bel' chg' row' d0 d1 d2 hea Hmdb htb
      go_wp2_with fail
      refine (does_any rb mbb Mb svb wvb SBb WBb what n py tb _ Hmb2.out Hkb.out Hst.out.1 Hst.out.2.1 Hst.out.2.2 (by omega)).mono ?_
      rintro e w3 ⟨cvb, tvb, rfl, hmvb⟩
      obtain ⟨⟨rb', svb', wvb', SBb', WBb', mb', dis', zb'⟩, ma', bel', chg', row'⟩ := moved_beside (w := w) hmvb Hma2.out Hdis2.out O1.out.zb Hbel2.out
      rw [← HTB.out] at mb' row' ⊢
      obtain ⟨bg3, s3, sda3, sdb3, xa3, xb3, L1, L2, L3, L4, L5, L6⟩ := turn_step O1.out.la O1.out.lb O1.out.al what n py cva cvb
      have hrow2 := rowA_chg chg' HL2.out (fun g hg e => e (Hg2.out g hg).1)
      have HT3 : Hid (TMen w c turn mba mbb (i + 1) bg3 (doesM Ma what n py 1000 cva).1 (doesM Mb what n py (1000 + turn) cvb).1 s3 sda3 sdb3 xa3 xb3 ra' rb' w3) := ⟨L1, L2, L3, ⟨_, _, _, _, ma'⟩, ⟨_, _, _, _, mb'⟩, fun y => (dis' y).symm, Hza2.out, zb', bel'⟩
      have hea : ea = 0 := by rw [← HEA.out]; exact L4
      subst hea
      rw [L5]
      have HRa : Hid (w3.ownsRow wr.heap.size 9 1 (.slice taa tna tca) (doesM Ma what n py 1000 cva).2.1.length ((doesM Ma what n py 1000 cva).2.1.map Value.string)) := hrow2
      have HRb : Hid (w3.ownsRow w2.heap.size 9 1 tvb (doesM Mb what n py (1000 + turn) cvb).2.1.length ((doesM Mb what n py (1000 + turn) cvb).2.1.map Value.string)) := row'
      have HL6 : Hid (TurnL turn (pickF what 5) (doesM Ma what n py 1000 cva).2.1 (doesM Mb what n py (1000 + turn) cvb).2.1) := L6
      have E0 : Hid (w.cell? ⟨b, off + i * 3, none⟩ = some (.int .i64 what)) := HD.out.1
      clear hmvb mb' dis' zb' ma' bel' chg' row' hrow2 L1 L2 L3 L4 L5 L6 O1 Hma2 Hmb2 Hdis2 Hza2 Hbel2 HL2 Hg2 HEA HTB htw htw2 e0 e1 e2 HD Hka Hkb
      generalize (doesM Ma what n py 1000 cva).2.1 = La at *
      generalize (doesM Mb what n py (1000 + turn) cvb).2.1 = Lb at *
      generalize (doesM Ma what n py 1000 cva).1 = Ma3 at *
      generalize (doesM Mb what n py (1000 + turn) cvb).1 = Mb3 at *
      rcases HL6.out with ⟨rfl, rfl⟩ | ⟨hk4, t, rfl, rfl⟩ | ⟨hk4, ks, ta, tb, rfl, rfl, r1, r2, r3, r4, r5⟩
      · obtain ⟨a1, c1, hv1⟩ := row_none HRa.out
        obtain ⟨a2, c2, rfl⟩ := row_none HRb.out
        simp only [Value.slice.injEq] at hv1
        obtain ⟨rfl, rfl, rfl⟩ := hv1
        clear HRa HRb HL6
        obtain ⟨la1, la2, la3, la4, lmd⟩ := HT3.out.ma
        have Hlm : Hid (MdAt w3 ra' mba Ma3 la1 la2 la3 la4) := lmd
        clear lmd
        go_wp2_with fail
        refine (look_live HT3.out.la Hlm.out).mono ?_
        rintro e w4 ⟨rfl, hb4⟩
        have HT4 : Hid (TMen w c turn mba mbb (i + 1) bg3 Ma3 Mb3 s3 sda3 sdb3 xa3 xb3 ra' rb' w4) := HT3.out.below hb4
        have HB4 : Hid (Below w3.heap.size w3 w4) := hb4
        clear hb4 Hlm
        obtain ⟨lb1, lb2, lb3, lb4, lmd⟩ := HT4.out.mb
        have Hlm : Hid (MdAt w4 rb' mbb Mb3 lb1 lb2 lb3 lb4) := lmd
        clear lmd
        go_wp2_with fail
        refine (look_live HT4.out.lb Hlm.out).mono ?_
        rintro e w5 ⟨rfl, hb5⟩
        have HT5 : Hid (TMen w c turn mba mbb (i + 1) bg3 Ma3 Mb3 s3 sda3 sdb3 xa3 xb3 ra' rb' w5) := HT4.out.below hb5
        have HB5 : Hid (Below w3.heap.size w3 w5) := HB4.out.trans (hb5.mono HB4.out.size)
        clear hb5 HT4 HB4 HT3 Hlm
        have hp75 : Try.prog.stoodInHeld 75 = false := by kernel_rfl
        have hm75 : Try.prog.eqGuardType Try.prog.depth 75 = false := by kernel_rfl
        unfold sttA
        go_wp2
        go_loopw [16] (fun s16 wi => s16 = .int .i64 0 ∧ wi = w5) (fun _ _ => 0)
        case atStart => exact ⟨rfl, rfl⟩
        case round =>
          obtain ⟨rfl, rfl⟩ := hrel
          have HT6 : Hid (TMen w c turn mba mbb (i + 1) bg3 Ma3 Mb3 s3 sda3 sdb3 xa3 xb3 ra' rb' wr) := HT5.out
          clear HT5 HB5
          obtain ⟨la1, la2, la3, la4, lmd⟩ := HT6.out.ma
          have Hlm : Hid (MdAt wr ra' mba Ma3 la1 la2 la3 la4) := lmd
          clear lmd
          go_wp2_with fail
          refine (missing_live HT6.out.la (by omega) Hlm.out).mono ?_
          rintro e w7 ⟨v7, rfl, hown7, hb7⟩
          have HT7 : Hid (TMen w c turn mba mbb (i + 1) bg3 Ma3 Mb3 s3 sda3 sdb3 xa3 xb3 ra' rb' w7) := HT6.out.below hb7
          have HO7 : Hid (OwnInts w7 wr.heap.size v7 (numK 1000 (gapK bg3))) := hown7
          obtain ⟨a7, c7, rfl⟩ := hown7.shape
          clear hb7 hown7 Hlm HT6
          obtain ⟨lb1, lb2, lb3, lb4, lmd⟩ := HT7.out.mb
          have Hlm : Hid (MdAt w7 rb' mbb Mb3 lb1 lb2 lb3 lb4) := lmd
          clear lmd
          go_wp2_with fail
          refine (missing_live HT7.out.lb (by omega) Hlm.out).mono ?_
          rintro e w8 ⟨v8, rfl, hown8, hb8⟩
          have HT8 : Hid (TMen w c turn mba mbb (i + 1) bg3 Ma3 Mb3 s3 sda3 sdb3 xa3 xb3 ra' rb' w8) := HT7.out.below hb8
          have I1 : Hid (IsInts w8.heap.size w8 (.slice a7 (numK 1000 (gapK bg3)).length c7) (numK 1000 (gapK bg3))) := (HO7.out.below hb8).isInts
          have I2 : Hid (IsInts w8.heap.size w8 v8 (numK (1000 + turn) (gapK bg3))) := hown8.isInts
          obtain ⟨a8, c8, rfl⟩ := hown8.shape
          have hgk := HT8.out.la.gaps.2
          clear hb8 hown8 Hlm HT7 HO7
          go_wp2_with fail
          refine (shifted_any w8.heap.size _ _ 1000 turn (gapK bg3) _ I1.out I2.out htu (by omega)).mono ?_
          rintro e w9 ⟨rfl, n9, rfl⟩
          have HT9 : Hid (TMen w c turn mba mbb (i + 1) bg3 Ma3 Mb3 s3 sda3 sdb3 xa3 xb3 ra' rb' (w8.drewN n9)) := HT8.out.below (below_drewN (Below.refl _ _) n9)
          clear HT8 I1 I2
          go_wp2
          go_roundw
          case rel => exact ⟨i + 1, by omega, by omega, by go_num, ⟨_, _, _, _, _, _, _, _, _, _, HT9.out⟩⟩
          case measure => simp [intOf]; omega
      · have HK4 : Hid (pickF what 5 ≠ 4) := hk4
        clear hk4
        obtain ⟨g1, c1, hv1, y1, hg1⟩ := row_one HRa.out
        obtain ⟨g2, c2, rfl, y2, hg2⟩ := row_one HRb.out
        simp only [Value.slice.injEq] at hv1
        obtain ⟨rfl, rfl, rfl⟩ := hv1
        have HY1 : Hid (w3.cell? ⟨g1, 0, none⟩ = some (.string t)) := y1
        have HY2 : Hid (w3.cell? ⟨g2, 0, none⟩ = some (.string t)) := y2
        clear HRa HRb HL6 y1 y2
        obtain ⟨la1, la2, la3, la4, lmd⟩ := HT3.out.ma
        have Hlm : Hid (MdAt w3 ra' mba Ma3 la1 la2 la3 la4) := lmd
        clear lmd
        go_wp2_with fail
        refine (look_live HT3.out.la Hlm.out).mono ?_
        rintro e w4 ⟨rfl, hb4⟩
        have HT4 : Hid (TMen w c turn mba mbb (i + 1) bg3 Ma3 Mb3 s3 sda3 sdb3 xa3 xb3 ra' rb' w4) := HT3.out.below hb4
        have HB4 : Hid (Below w3.heap.size w3 w4) := hb4
        clear hb4 Hlm
        obtain ⟨lb1, lb2, lb3, lb4, lmd⟩ := HT4.out.mb
        have Hlm : Hid (MdAt w4 rb' mbb Mb3 lb1 lb2 lb3 lb4) := lmd
        clear lmd
        go_wp2_with fail
        refine (look_live HT4.out.lb Hlm.out).mono ?_
        rintro e w5 ⟨rfl, hb5⟩
        have HT5 : Hid (TMen w c turn mba mbb (i + 1) bg3 Ma3 Mb3 s3 sda3 sdb3 xa3 xb3 ra' rb' w5) := HT4.out.below hb5
        have HB5 : Hid (Below w3.heap.size w3 w5) := HB4.out.trans (hb5.mono HB4.out.size)
        clear hb5 HT4 HB4 HT3 Hlm
        have hp75 : Try.prog.stoodInHeld 75 = false := by kernel_rfl
        have hm75 : Try.prog.eqGuardType Try.prog.depth 75 = false := by kernel_rfl
        unfold sttA
        have HZ1 : Hid (w5.cell? ⟨g1, 0, none⟩ = some (.string t)) := (HB5.out.cell (p := ⟨g1, 0, none⟩) hg1).trans HY1.out
        have HZ2 : Hid (w5.cell? ⟨g2, 0, none⟩ = some (.string t)) := (HB5.out.cell (p := ⟨g2, 0, none⟩) hg2).trans HY2.out
        clear HY1 HY2 HB5
        go_wp2
        go_loopw [16] (fun s16 wi => ∃ q : Nat, q ≤ 1 ∧ s16 = .int .i64 q ∧ TMen w c turn mba mbb (i + 1) bg3 Ma3 Mb3 s3 sda3 sdb3 xa3 xb3 ra' rb' wi ∧ wi.cell? ⟨g1, 0, none⟩ = some (.string t) ∧ wi.cell? ⟨g2, 0, none⟩ = some (.string t) ∧ Below w.heap.size w wi) (fun s16 _ => 1 - (intOf s16).toNat)
        case atStart => exact ⟨0, by omega, rfl, HT5.out, HZ1.out, HZ2.out, HT5.out.bel⟩
        case round =>
          obtain ⟨q, hq, rfl, m1, m2, m3, m4⟩ := hrel
          have M1 : Hid (TMen w c turn mba mbb (i + 1) bg3 Ma3 Mb3 s3 sda3 sdb3 xa3 xb3 ra' rb' wr) := m1
          have M4 : Hid (Below w.heap.size w wr) := m4
          have e0 : wr.cell? ⟨b, off + i * 3, none⟩ = some (.int .i64 what) := (m4.cell (p := ⟨b, off + i * 3, none⟩) hb).trans E0.out
          clear m1 m4 HT5 HZ1 HZ2
          rcases (show q = 0 ∨ q = 1 by omega) with rfl | rfl
          · have k0 := pickF_lo what 5 (by omega)
            have k1 := pickF_hi what 5 (by omega)
            go_wp2
            go_quiet (fail)
            go_wp2_with fail
            refine (pick_any what 5 _ Hst.out.1.1 Hst.out.1.2 (by omega) (by omega)).mono ?_
            rintro e w6 ⟨rfl, hw6⟩
            rw [hw6]
            clear hw6 w6
            have hk4 := HK4.out
            generalize pickF what 5 = kd at *
            have M2 : Hid (wr.cell? ⟨g1, 0, none⟩ = some (.string t)) := m2
            have M3 : Hid (wr.cell? ⟨g2, 0, none⟩ = some (.string t)) := m3
            clear HK4 m2 m3
            have hkb : (kd == 4) = false := by simp [hk4]
            go_wp2
            go_roundw
            case rel => exact ⟨1, by omega, by go_num, M1.out.below (below_drewN (Below.refl _ _) _), by rw [World.cell?_drewN]; exact M2.out, by rw [World.cell?_drewN]; exact M3.out, below_drewN M4.out _⟩
            case measure => simp [intOf]
          · have HT6 : Hid (TMen w c turn mba mbb (i + 1) bg3 Ma3 Mb3 s3 sda3 sdb3 xa3 xb3 ra' rb' wr) := M1.out
            clear M1 M4 m2 m3 e0
            obtain ⟨la1, la2, la3, la4, lmd⟩ := HT6.out.ma
            have Hlm : Hid (MdAt wr ra' mba Ma3 la1 la2 la3 la4) := lmd
            clear lmd
            go_wp2_with fail
            refine (missing_live HT6.out.la (by omega) Hlm.out).mono ?_
            rintro e w7 ⟨v7, rfl, hown7, hb7⟩
            have HT7 : Hid (TMen w c turn mba mbb (i + 1) bg3 Ma3 Mb3 s3 sda3 sdb3 xa3 xb3 ra' rb' w7) := HT6.out.below hb7
            have HO7 : Hid (OwnInts w7 wr.heap.size v7 (numK 1000 (gapK bg3))) := hown7
            obtain ⟨a7, c7, rfl⟩ := hown7.shape
            clear hb7 hown7 Hlm HT6
            obtain ⟨lb1, lb2, lb3, lb4, lmd⟩ := HT7.out.mb
            have Hlm : Hid (MdAt w7 rb' mbb Mb3 lb1 lb2 lb3 lb4) := lmd
            clear lmd
            go_wp2_with fail
            refine (missing_live HT7.out.lb (by omega) Hlm.out).mono ?_
            rintro e w8 ⟨v8, rfl, hown8, hb8⟩
            have HT8 : Hid (TMen w c turn mba mbb (i + 1) bg3 Ma3 Mb3 s3 sda3 sdb3 xa3 xb3 ra' rb' w8) := HT7.out.below hb8
            have I1 : Hid (IsInts w8.heap.size w8 (.slice a7 (numK 1000 (gapK bg3)).length c7) (numK 1000 (gapK bg3))) := (HO7.out.below hb8).isInts
            have I2 : Hid (IsInts w8.heap.size w8 v8 (numK (1000 + turn) (gapK bg3))) := hown8.isInts
            obtain ⟨a8, c8, rfl⟩ := hown8.shape
            have hgk := HT8.out.la.gaps.2
            clear hb8 hown8 Hlm HT7 HO7
            go_wp2_with fail
            refine (shifted_any w8.heap.size _ _ 1000 turn (gapK bg3) _ I1.out I2.out htu (by omega)).mono ?_
            rintro e w9 ⟨rfl, n9, rfl⟩
            have HT9 : Hid (TMen w c turn mba mbb (i + 1) bg3 Ma3 Mb3 s3 sda3 sdb3 xa3 xb3 ra' rb' (w8.drewN n9)) := HT8.out.below (below_drewN (Below.refl _ _) n9)
            clear HT8 I1 I2
            go_wp2
            go_roundw
            case rel => exact ⟨i + 1, by omega, by omega, by go_num, ⟨_, _, _, _, _, _, _, _, _, _, HT9.out⟩⟩
            case measure => simp [intOf]; omega
      · have HK4 : Hid (pickF what 5 = 4) := hk4
        have R1 : Hid (repR ta = some [(0, 3, numK 1000 ks)]) := r1
        have R2 : Hid (repR tb = some [(0, 3, numK (1000 + turn) ks)]) := r2
        clear hk4 r1 r2
        obtain ⟨g1, c1, hv1, y1, hg1⟩ := row_one HRa.out
        obtain ⟨g2, c2, rfl, y2, hg2⟩ := row_one HRb.out
        simp only [Value.slice.injEq] at hv1
        obtain ⟨rfl, rfl, rfl⟩ := hv1
        have HY1 : Hid (w3.cell? ⟨g1, 0, none⟩ = some (.string ta)) := y1
        have HY2 : Hid (w3.cell? ⟨g2, 0, none⟩ = some (.string tb)) := y2
        clear HRa HRb HL6 y1 y2
        obtain ⟨la1, la2, la3, la4, lmd⟩ := HT3.out.ma
        have Hlm : Hid (MdAt w3 ra' mba Ma3 la1 la2 la3 la4) := lmd
        clear lmd
        go_wp2_with fail
        refine (look_live HT3.out.la Hlm.out).mono ?_
        rintro e w4 ⟨rfl, hb4⟩
        have HT4 : Hid (TMen w c turn mba mbb (i + 1) bg3 Ma3 Mb3 s3 sda3 sdb3 xa3 xb3 ra' rb' w4) := HT3.out.below hb4
        have HB4 : Hid (Below w3.heap.size w3 w4) := hb4
        clear hb4 Hlm
        obtain ⟨lb1, lb2, lb3, lb4, lmd⟩ := HT4.out.mb
        have Hlm : Hid (MdAt w4 rb' mbb Mb3 lb1 lb2 lb3 lb4) := lmd
        clear lmd
        go_wp2_with fail
        refine (look_live HT4.out.lb Hlm.out).mono ?_
        rintro e w5 ⟨rfl, hb5⟩
        have HT5 : Hid (TMen w c turn mba mbb (i + 1) bg3 Ma3 Mb3 s3 sda3 sdb3 xa3 xb3 ra' rb' w5) := HT4.out.below hb5
        have HB5 : Hid (Below w3.heap.size w3 w5) := HB4.out.trans (hb5.mono HB4.out.size)
        clear hb5 HT4 HB4 HT3 Hlm
        have hp75 : Try.prog.stoodInHeld 75 = false := by kernel_rfl
        have hm75 : Try.prog.eqGuardType Try.prog.depth 75 = false := by kernel_rfl
        unfold sttA
        have HZ1 : Hid (w5.cell? ⟨g1, 0, none⟩ = some (.string ta)) := (HB5.out.cell (p := ⟨g1, 0, none⟩) hg1).trans HY1.out
        have HZ2 : Hid (w5.cell? ⟨g2, 0, none⟩ = some (.string tb)) := (HB5.out.cell (p := ⟨g2, 0, none⟩) hg2).trans HY2.out
        clear HY1 HY2 HB5
        go_wp2
        go_loopw [16] (fun s16 wi => ∃ q : Nat, q ≤ 1 ∧ s16 = .int .i64 q ∧ TMen w c turn mba mbb (i + 1) bg3 Ma3 Mb3 s3 sda3 sdb3 xa3 xb3 ra' rb' wi ∧ wi.cell? ⟨g1, 0, none⟩ = some (.string ta) ∧ wi.cell? ⟨g2, 0, none⟩ = some (.string tb) ∧ Below w.heap.size w wi) (fun s16 _ => 1 - (intOf s16).toNat)
        case atStart => exact ⟨0, by omega, rfl, HT5.out, HZ1.out, HZ2.out, HT5.out.bel⟩
        case round =>
          obtain ⟨q, hq, rfl, m1, m2, m3, m4⟩ := hrel
          have M1 : Hid (TMen w c turn mba mbb (i + 1) bg3 Ma3 Mb3 s3 sda3 sdb3 xa3 xb3 ra' rb' wr) := m1
          have M4 : Hid (Below w.heap.size w wr) := m4
          have e0 : wr.cell? ⟨b, off + i * 3, none⟩ = some (.int .i64 what) := (m4.cell (p := ⟨b, off + i * 3, none⟩) hb).trans E0.out
          clear m1 m4 HT5 HZ1 HZ2
          rcases (show q = 0 ∨ q = 1 by omega) with rfl | rfl
          · go_wp2
            go_quiet (fail)
            have M1' : ∀ n, TMen w c turn mba mbb (i + 1) bg3 Ma3 Mb3 s3 sda3 sdb3 xa3 xb3 ra' rb' (wr.drewN n) := fun n => M1.out.below (below_drewN (Below.refl _ _) n)
            go_wp2_with fail
            refine (pick_any what 5 _ Hst.out.1.1 Hst.out.1.2 (by omega) (by omega)).mono ?_
            rintro e w6 ⟨rfl, hw6⟩
            rw [hw6, HK4.out]
            clear hw6 w6
            have n2 : (wr.drewN nq).cell? ⟨g1, 0, none⟩ = some (.string ta) := by rw [World.cell?_drewN]; exact m2
            have n3 : (wr.drewN nq).cell? ⟨g2, 0, none⟩ = some (.string tb) := by rw [World.cell?_drewN]; exact m3
            have M5 : Hid (TMen w c turn mba mbb (i + 1) bg3 Ma3 Mb3 s3 sda3 sdb3 xa3 xb3 ra' rb' (wr.drewN nq)) := M1' nq
            have M6 : Hid (Below w.heap.size w (wr.drewN nq)) := below_drewN M4.out _
            have hl1 := lt_of_cell n2
            have hl2 := lt_of_cell n3
            clear m2 m3 M1 M1' M4 e0
            generalize wr.drewN nq = wn at *
            go_wp2
            refine wp_region_noPanic ?_
            refine wp_region_held_drew (S := fun W => W.cell? ⟨g1, 0, none⟩ = some (.string ta) ∧ W.cell? ⟨g2, 0, none⟩ = some (.string tb) ∧ Hid (Below wn.heap.size wn W)) (by kernel_rfl) (by simp only [World.drew]; exact ⟨n2, n3, below_drewN (Below.refl _ _) 1⟩) (fun hHeld => ?_)
            refine wpAnyH_take (i := 0) (v := ?vt1) rfl (by kernel_rfl) (by kernel_rfl) (by kernel_rfl) (fun _ _ _ h => h) (Or.inl ⟨by rfl, ?yt1⟩) hHeld ?rt1
            case yt1 => ((intro W hSw; obtain ⟨hS0, hS1, hS2⟩ := hSw; go_simp) <;> with_reducible rfl)
            try simp only [Act.put]
            try simp only [List.getElem_toArray]
            try simp only [List.getElem_cons_succ]
            try simp only [List.getElem_cons_zero]
            try simp only [List.setIfInBounds_toArray]
            try simp only [List.set_cons_succ]
            try simp only [List.set_cons_zero]
            refine wpAnyH_take (i := 1) (v := ?vt2) rfl (by kernel_rfl) (by kernel_rfl) (by kernel_rfl) (fun _ _ _ h => h) (Or.inl ⟨by rfl, ?yt2⟩) hHeld ?rt2
            case yt2 => ((intro W hSw; obtain ⟨hS0, hS1, hS2⟩ := hSw; go_simp) <;> with_reducible rfl)
            try simp only [Act.put]
            try simp only [List.getElem_toArray]
            try simp only [List.getElem_cons_succ]
            try simp only [List.getElem_cons_zero]
            try simp only [List.setIfInBounds_toArray]
            try simp only [List.set_cons_succ]
            try simp only [List.set_cons_zero]
            refine wpAnyH_take (i := 2) (v := ?vt3) rfl (by kernel_rfl) (by kernel_rfl) (by kernel_rfl) (fun _ _ _ h => h) (Or.inl ⟨by rfl, ?yt3⟩) hHeld ?rt3
            case yt3 => ((intro W hSw; obtain ⟨hS0, hS1, hS2⟩ := hSw; go_simp) <;> with_reducible rfl)
            try simp only [Act.put]
            try simp only [List.getElem_toArray]
            try simp only [List.getElem_cons_succ]
            try simp only [List.getElem_cons_zero]
            try simp only [List.setIfInBounds_toArray]
            try simp only [List.set_cons_succ]
            try simp only [List.set_cons_zero]
            refine wpAnyH_take (i := 3) (v := ?vt4) rfl (by kernel_rfl) (by kernel_rfl) (by kernel_rfl) (fun _ _ _ h => h) (Or.inl ⟨by rfl, ?yt4⟩) hHeld ?rt4
            case yt4 => ((intro W hSw; obtain ⟨hS0, hS1, hS2⟩ := hSw; go_simp) <;> with_reducible rfl)
            try simp only [Act.put]
            try simp only [List.getElem_toArray]
            try simp only [List.getElem_cons_succ]
            try simp only [List.getElem_cons_zero]
            try simp only [List.setIfInBounds_toArray]
            try simp only [List.set_cons_succ]
            try simp only [List.set_cons_zero]
            refine wpAnyH_take (i := 4) (v := ?vt5) rfl (by kernel_rfl) (by kernel_rfl) (by kernel_rfl) (fun _ _ _ h => h) (Or.inl ⟨by rfl, ?yt5⟩) hHeld ?rt5
            case yt5 => ((intro W hSw; obtain ⟨hS0, hS1, hS2⟩ := hSw; go_simp) <;> with_reducible rfl)
            try simp only [Act.put]
            try simp only [List.getElem_toArray]
            try simp only [List.getElem_cons_succ]
            try simp only [List.getElem_cons_zero]
            try simp only [List.setIfInBounds_toArray]
            try simp only [List.set_cons_succ]
            try simp only [List.set_cons_zero]
            refine wpAnyH_take (i := 5) (v := ?vt6) rfl (by kernel_rfl) (by kernel_rfl) (by kernel_rfl) (fun _ _ _ h => h) (Or.inl ⟨by rfl, ?yt6⟩) hHeld ?rt6
            case yt6 => ((intro W hSw; obtain ⟨hS0, hS1, hS2⟩ := hSw; go_simp) <;> with_reducible rfl)
            try simp only [Act.put]
            try simp only [List.getElem_toArray]
            try simp only [List.getElem_cons_succ]
            try simp only [List.getElem_cons_zero]
            try simp only [List.setIfInBounds_toArray]
            try simp only [List.set_cons_succ]
            try simp only [List.set_cons_zero]
            refine wpAnyH_take (i := 6) (v := ?vt7) rfl (by kernel_rfl) (by kernel_rfl) (by kernel_rfl) (fun _ _ _ h => h) (Or.inl ⟨by rfl, ?yt7⟩) hHeld ?rt7
            case yt7 => ((intro W hSw; obtain ⟨hS0, hS1, hS2⟩ := hSw; go_simp) <;> with_reducible rfl)
            try simp only [Act.put]
            try simp only [List.getElem_toArray]
            try simp only [List.getElem_cons_succ]
            try simp only [List.getElem_cons_zero]
            try simp only [List.setIfInBounds_toArray]
            try simp only [List.set_cons_succ]
            try simp only [List.set_cons_zero]
            refine wpAnyH_take (i := 7) (v := ?vt8) rfl (by kernel_rfl) (by kernel_rfl) (by kernel_rfl) (fun _ _ _ h => h) (Or.inl ⟨by rfl, ?yt8⟩) hHeld ?rt8
            case yt8 => ((intro W hSw; obtain ⟨hS0, hS1, hS2⟩ := hSw; go_simp) <;> with_reducible rfl)
            try simp only [Act.put]
            try simp only [List.getElem_toArray]
            try simp only [List.getElem_cons_succ]
            try simp only [List.getElem_cons_zero]
            try simp only [List.setIfInBounds_toArray]
            try simp only [List.set_cons_succ]
            try simp only [List.set_cons_zero]
            refine wpAnyH_take (i := 8) (v := ?vt9) rfl (by kernel_rfl) (by kernel_rfl) (by kernel_rfl) (fun _ _ _ h => h) (Or.inl ⟨by rfl, ?yt9⟩) hHeld ?rt9
            case yt9 => ((intro W hSw; obtain ⟨hS0, hS1, hS2⟩ := hSw; go_simp) <;> with_reducible rfl)
            try simp only [Act.put]
            try simp only [List.getElem_toArray]
            try simp only [List.getElem_cons_succ]
            try simp only [List.getElem_cons_zero]
            try simp only [List.setIfInBounds_toArray]
            try simp only [List.set_cons_succ]
            try simp only [List.set_cons_zero]
            refine wpAnyH_ready (rs := [9]) (by kernel_rfl) (by simp) ?_
            refine AllReadyH.cons rfl (fun K hK => ?_) AllReadyH.nil
            go_simp
            refine (further_any ta tb 1000 turn ks _ R1.out R2.out r3 r4 htu (by omega)).mono ?_
            rintro e w6 ⟨rfl, hb6⟩
            have hb7 : Below wn.heap.size wn w6 := (below_drewN (Below.refl _ _) 1).trans hb6
            go_wp2_with fail
            refine hK.out _ _ ⟨(hb7.cell (p := ⟨g1, 0, none⟩) hl1).trans n2, (hb7.cell (p := ⟨g2, 0, none⟩) hl2).trans n3, hb7⟩ (fun hHeld => ?_)
            clear hK K
            refine wpAnyH_take (i := 10) (v := ?vt10) rfl (by kernel_rfl) (by kernel_rfl) (by kernel_rfl) (fun _ _ _ h => h) (Or.inl ⟨by rfl, ?yt10⟩) hHeld ?rt10
            case yt10 => ((intro W hSw; obtain ⟨hS0, hS1, hS2⟩ := hSw; go_simp) <;> with_reducible rfl)
            try simp only [Act.put]
            try simp only [List.getElem_toArray]
            try simp only [List.getElem_cons_succ]
            try simp only [List.getElem_cons_zero]
            try simp only [List.setIfInBounds_toArray]
            try simp only [List.set_cons_succ]
            try simp only [List.set_cons_zero]
            refine wpAnyH_done (by kernel_rfl) ?_ _
            refine NoPanic.normal ?_
            have HB7 : Hid (Below wn.heap.size wn w6) := hb7
            clear hb6 hb7
            go_wp2
            go_roundw
            case rel => exact ⟨1, by omega, by go_num, M5.out.below HB7.out, (HB7.out.cell (p := ⟨g1, 0, none⟩) hl1).trans n2, (HB7.out.cell (p := ⟨g2, 0, none⟩) hl2).trans n3, M6.out.trans (HB7.out.mono M6.out.size)⟩
            case measure => simp [intOf]
          · have HT6 : Hid (TMen w c turn mba mbb (i + 1) bg3 Ma3 Mb3 s3 sda3 sdb3 xa3 xb3 ra' rb' wr) := M1.out
            clear M1 M4 m2 m3 e0
            obtain ⟨la1, la2, la3, la4, lmd⟩ := HT6.out.ma
            have Hlm : Hid (MdAt wr ra' mba Ma3 la1 la2 la3 la4) := lmd
            clear lmd
            go_wp2_with fail
            refine (missing_live HT6.out.la (by omega) Hlm.out).mono ?_
            rintro e w7 ⟨v7, rfl, hown7, hb7⟩
            have HT7 : Hid (TMen w c turn mba mbb (i + 1) bg3 Ma3 Mb3 s3 sda3 sdb3 xa3 xb3 ra' rb' w7) := HT6.out.below hb7
            have HO7 : Hid (OwnInts w7 wr.heap.size v7 (numK 1000 (gapK bg3))) := hown7
            obtain ⟨a7, c7, rfl⟩ := hown7.shape
            clear hb7 hown7 Hlm HT6
            obtain ⟨lb1, lb2, lb3, lb4, lmd⟩ := HT7.out.mb
            have Hlm : Hid (MdAt w7 rb' mbb Mb3 lb1 lb2 lb3 lb4) := lmd
            clear lmd
            go_wp2_with fail
            refine (missing_live HT7.out.lb (by omega) Hlm.out).mono ?_
            rintro e w8 ⟨v8, rfl, hown8, hb8⟩
            have HT8 : Hid (TMen w c turn mba mbb (i + 1) bg3 Ma3 Mb3 s3 sda3 sdb3 xa3 xb3 ra' rb' w8) := HT7.out.below hb8
            have I1 : Hid (IsInts w8.heap.size w8 (.slice a7 (numK 1000 (gapK bg3)).length c7) (numK 1000 (gapK bg3))) := (HO7.out.below hb8).isInts
            have I2 : Hid (IsInts w8.heap.size w8 v8 (numK (1000 + turn) (gapK bg3))) := hown8.isInts
            obtain ⟨a8, c8, rfl⟩ := hown8.shape
            have hgk := HT8.out.la.gaps.2
            clear hb8 hown8 Hlm HT7 HO7
            go_wp2_with fail
            refine (shifted_any w8.heap.size _ _ 1000 turn (gapK bg3) _ I1.out I2.out htu (by omega)).mono ?_
            rintro e w9 ⟨rfl, n9, rfl⟩
            have HT9 : Hid (TMen w c turn mba mbb (i + 1) bg3 Ma3 Mb3 s3 sda3 sdb3 xa3 xb3 ra' rb' (w8.drewN n9)) := HT8.out.below (below_drewN (Below.refl _ _) n9)
            clear HT8 I1 I2
            go_wp2
            go_roundw
            case rel => exact ⟨i + 1, by omega, by omega, by go_num, ⟨_, _, _, _, _, _, _, _, _, _, HT9.out⟩⟩
            case measure => simp [intOf]; omega
    · by_cases h1 : (i : Int) < l.length
      · have h2 : ¬ (i : Int) < 100000 := by omega
        obtain ⟨_, _, _, _, _, _, _, _, _, _, o1⟩ := HO.out
        have O6 : Hid (Below w.heap.size w wr) := o1.bel
        clear o1
        go_wp2
        go_ret
        exact ⟨rfl, O6.out⟩
      · obtain ⟨_, _, _, _, _, _, _, _, _, _, o1⟩ := HO.out
        have O6 : Hid (Below w.heap.size w wr) := o1.bel
        clear o1
        go_wp2
        go_ret
        exact ⟨rfl, O6.out⟩

end Go.Proofs.Ytdjhhnolcafkiaa

/- menderkeep.Once returns true. -/
namespace Go.Proofs.Ytdjhhnolcafkiaa
open Go.RowKit
namespace Pk
/-- the list of what has come -/
structure CameAt (cb n : Nat) (cm : Nat → Bool) (W : World) : Prop where
  c : ∀ j, j < n → W.cell? ⟨cb, j, none⟩ = some (.bool (cm j))
  f : ∀ o, W.frozen? ⟨cb, o, none⟩ = false
  lt : cb < W.heap.size
theorem CameAt.chg {T : Nat → Prop} {cb n : Nat} {cm : Nat → Bool} {W W' : World} (h : CameAt cb n cm W) (hc : Chg T W W') (hn : ¬ T cb) : CameAt cb n cm W' :=
  ⟨fun j hj => hc.cell (h.c j hj) hn, fun o => (hc.frozen (p := ⟨cb, o, none⟩) h.lt hn).trans (h.f o), Nat.lt_of_lt_of_le h.lt hc.size⟩
theorem CameAt.set {cb n k : Nat} {cm : Nat → Bool} {W : World} (h : CameAt cb n cm W) : CameAt cb n (updB cm k) (W.setCell ⟨cb, k, none⟩ (.bool true)) := by
  refine ⟨fun j hj => ?_, fun o => ?_, ?_⟩
  · unfold updB
    by_cases e : j = k
    · subst e
      rw [if_pos rfl]
      exact World.cell?_setCell_same _ _ _ (h.c j hj)
    · rw [if_neg e, World.cell?_setCell_other _ _ _ _ (fun e' => e (by injection e' with _ e2 _; exact e2.symm))]
      exact h.c j hj
  · rw [World.frozen?_setCell]
    exact h.f o
  · rw [World.size_setCell]
    exact h.lt
def bgI : Option Nat → Int
  | none => -1
  | some b => b
/-- the state of the loop -/
def OnceAt (w : World) (base wn mb cb : Nat) (i : Nat) (bg : Option Nat) (wr : World) : Prop :=
  ∃ cm M s sd x ρ sv wv SB WB, OnceSt base wn bg cm i M s sd x ∧ MdAt wr ρ mb M sv wv SB WB ∧ (∀ b, b < w.heap.size → ρ b = 0) ∧ ρ cb = 0 ∧ CameAt cb wn cm wr ∧ Below w.heap.size w wr
theorem OnceAt.below {w wr w' : World} {base wn mb cb i : Nat} {bg : Option Nat} (h : OnceAt w base wn mb cb i bg wr) (hb : Below wr.heap.size wr w') : OnceAt w base wn mb cb i bg w' := by
  obtain ⟨cm, M, s, sd, x, ρ, sv, wv, SB, WB, h1, h2, h3, h4, h5, h6⟩ := h
  exact ⟨cm, M, s, sd, x, ρ, sv, wv, SB, WB, h1, h2.below hb, h3, h4, h5.chg (T := fun _ => False) (Chg.ofBelow hb) (fun e => e), h6.trans (hb.mono h6.size)⟩
/-- one more packet has come -/
theorem OnceAt.step {w wr w' : World} {base wn mb cb i k : Nat} {bg : Option Nat} {cm : Nat → Bool} {M : Md} {s : Stt} {sd : Sd} {x : Wn} {ρ : Nat → Nat} {tv cv : Value} {L : List ByteArray}
    (h1 : OnceSt base wn bg cm i M s sd x) (h3 : ∀ b, b < w.heap.size → ρ b = 0) (h4 : ρ cb = 0) (h5 : CameAt cb wn (updB cm k) wr) (h6 : Below w.heap.size w wr) (hw : wn ≤ 200) (hk : k < wn) (py : ByteArray)
    (h : MovedT wr w' ρ mb (packetM M (dataT (base + k) py) cv).1 tv L) :
    OnceAt w base wn mb cb (i + 1) (some (bg.getD k)) w' ∧ w'.ownsRow wr.heap.size 9 1 tv L.length (L.map Value.string) ∧ wr.heap.size ≤ w'.heap.size := by
  obtain ⟨ρ', sv', wv', SB', WB', a1, a2, a3, a4⟩ := h
  obtain ⟨⟨s', sd', x', b1⟩, -⟩ := once_step h1 hw hk py cv
  have hsz := h6.size
  refine ⟨⟨_, _, s', sd', x', ρ', sv', wv', SB', WB', b1, a1, fun b hb => a2.1 b (by omega) (h3 b hb), a2.1 cb h5.lt h4, h5.chg a2.2 (fun e => e h4), h6.trans (a2.2.below hsz (fun y hy => ?_))⟩, a3, a2.2.size⟩
  rcases Nat.lt_or_ge y w.heap.size with e | e
  · exact absurd (h3 y e) hy
  · exact e
theorem replicate_bool (n j : Nat) (h : j < n) : (madeCells (Value.bool false).cells (n * 1)).toList[j]? = some (Value.bool false) := by
  rw [show (Value.bool false).cells = #[Value.bool false] from rfl, toList_madeCells_one]
  simp [h]
end Pk
open Pk

set_option maxRecDepth 20000 in
set_option maxHeartbeats 8000000 in
theorem once_walk (first window : Int) (v : Value) (l : List Int) (w : World) (hv : IsInts w.heap.size w v l) (hf : -9223372036854775808 ≤ first ∧ first ≤ 9223372036854775807) (hwn : -9223372036854775808 ≤ window ∧ window ≤ 9223372036854775807) (hl : ∀ c ∈ l, -9223372036854775808 ≤ c ∧ c ≤ 9223372036854775807) (_hn : l.length ≤ maxLen) :
    Calls Try.prog 7 #[.int .i64 first, v, .int .i64 window] w fun e w' => e = .returned (.bool true) ∧ Below w.heap.size w w' := by
  obtain ⟨ao, cap, rfl, hc⟩ := hv
  have Hl : Hid (∀ c ∈ l, -9223372036854775808 ≤ c ∧ c ≤ 9223372036854775807) := hl
  have Hc : Hid (∀ j, j < l.length → ∃ b off, ao = some ⟨b, off, none⟩ ∧ b < w.heap.size ∧ w.cell? ⟨b, off + j, none⟩ = some (.int .i64 (l.getD j 0))) := hc
  unfold maxLen at _hn
  clear hl hc
  go_enter Try.func7, Try.ntmps7
  go_wp2_with fail
  refine (pick_any _ _ _ hwn.1 hwn.2 (by omega) (by omega)).mono ?_
  rintro e w1 ⟨rfl, hw1⟩
  rw [hw1]
  clear hw1 w1
  have p0 := pickF_lo window 200 (by omega)
  have p1 := pickF_hi window 200 (by omega)
  generalize pickF window 200 = pw at *
  obtain ⟨pn, rfl⟩ := Int.eq_ofNat_of_zero_le p0
  obtain ⟨wn, hwn1⟩ : ∃ wn : Nat, 1 + (pn : Int) = (wn : Int) := ⟨1 + pn, by omega⟩
  have hwl : 1 ≤ wn ∧ wn ≤ 200 := by omega
  have hww : IntKind.i64.wrap (1 + (pn : Int)) = (wn : Int) := by rw [i64_id _ (by omega) (by omega), hwn1]
  clear p0 p1 hwn1
  go_wp2_with fail
  refine (begun_any ⟨4, wn, 0, 0, 0, 1, 1⟩ _ (decide_eq_true (by simp only; omega))).mono ?_
  rintro e w2 ⟨mb, rfl, hb2, ρ, sv, wv, SB, WB, hM, hρ⟩
  have HB2 : Hid (Below w.heap.size w w2) := hb2
  have HM : Hid (MdAt w2 ρ mb (bM ⟨4, wn, 0, 0, 0, 1, 1⟩) sv wv SB WB) := hM
  have HP : Hid (∀ b, b < w.heap.size → ρ b = 0) := hρ
  clear hb2 hM hρ
  go_wp2_with fail
  refine (known_any _).mono ?_
  rintro e w3 ⟨rfl, hb3⟩
  have HB3 : Hid (Below w.heap.size w w3) := HB2.out.trans (hb3.mono HB2.out.size)
  have HM3 : Hid (MdAt w3 ρ mb (bM ⟨4, wn, 0, 0, 0, 1, 1⟩) sv wv SB WB) := HM.out.below hb3
  have hs3 := HB3.out.size
  clear hb3 HM
  go_wp2_with fail
  refine (pick_any _ _ _ hf.1 hf.2 (by omega) (by omega)).mono ?_
  rintro e w4 ⟨rfl, hw4⟩
  rw [hw4]
  clear hw4 w4
  have q0 := pickF_lo first 65536 (by omega)
  have q1 := pickF_hi first 65536 (by omega)
  generalize pickF first 65536 = pb at *
  obtain ⟨base, rfl⟩ := Int.eq_ofNat_of_zero_le q0
  obtain ⟨i0, hi0, hiz, his, hib⟩ : ∃ i0 : TypeInfo, Try.prog.info? 4 = some i0 ∧ i0.zero = some (.bool false) ∧ i0.size = 1 ∧ i0.bytes = 1 := ⟨_, rfl, rfl, rfl, rfl⟩
  have Hi0 : Hid (Try.prog.info? 4 = some i0 ∧ i0.zero = some (.bool false) ∧ i0.size = 1 ∧ i0.bytes = 1) := ⟨hi0, hiz, his, hib⟩
  have Hb0 : Hid (i0.bytes * wn ≤ 281474976710656) := by show _ ≤ _; rw [hib]; omega
  clear hi0 hiz his hib
  go_wp2_with (at_make; refine wpList_make_full _ rfl (.tmp 35) (.tmp 35) 64 rfl w.heap.size 4 i0 (.bool false) 1 Try.underlying64 Hi0.out.1 Hi0.out.2.1 Hi0.out.2.2.1 .i64 .i64 _ _ wn rfl rfl rfl rfl Hb0.out (by unfold maxLen; omega) hs3 ?_; intro w4 hown4 hg4; refine stop_here ?_)
  refine hid_in ?_
  have HB4 : Hid (Below w.heap.size w w4) := HB3.out.trans ((Chg.ofGrown hg4).below hs3 (fun x e => by cases e))
  have HR4 : Hid (CameAt w3.heap.size wn (fun _ => false) w4) := ⟨fun j hj => (hown4.cellAt j (by omega)).trans (replicate_bool wn j hj), fun o => hown4.frozenAt o, (hown4.lt w3.heap.size rfl).2⟩
  have HM4 : Hid (MdAt w4 ρ mb (bM ⟨4, wn, 0, 0, 0, 1, 1⟩) sv wv SB WB) := HM3.out.chg (Chg.ofGrown hg4) (fun b e => by cases e)
  have HO4 : Hid (OnceAt w base wn mb w3.heap.size 0 none w4) := ⟨fun _ => false, _, _, _, _, ρ, sv, wv, SB, WB, once_begin base wn, HM4.out, HP.out, HM3.out.hi _ (Nat.le_refl _), HR4.out, HB4.out⟩
  have hs4 := hg4.size
  have HCB : Hid (w.heap.size ≤ w3.heap.size) := hs3
  clear hown4 hg4 HM3 HM4 HR4 HB4 HB3 HB2 hs3
  generalize w3.heap.size = cb at *
  go_wp2
  go_loopw [11, 13] (fun s11 s13 wr => ∃ (i : Nat) (bg : Option Nat), i ≤ l.length ∧ i ≤ 100000 ∧ s13 = .int .i64 i ∧ s11 = .int .i64 (bgI bg) ∧ OnceAt w base wn mb cb i bg wr) (fun _ s13 _ => l.length - (intOf s13).toNat)
  case atStart => exact ⟨0, none, Nat.zero_le _, by omega, rfl, rfl, HO4.out⟩
  case round =>
    obtain ⟨i, bg, hil, hi5, rfl, rfl, hO⟩ := hrel
    have HO : Hid (OnceAt w base wn mb cb i bg wr) := hO
    clear hO
    by_cases hgo : i < l.length ∧ i < 100000
    · have h1 : (i : Int) < l.length := by omega
      have h2 : (i : Int) < 100000 := by omega
      obtain ⟨b, off, rfl, hb, hcell⟩ := Hc.out i hgo.1
      obtain ⟨cm, M, s, sd, x, ρ, sv, wv, SB, WB, o1, o2, o3, o4, o5, o6⟩ := HO.out
      have d0 : wr.cell? ⟨b, off + i, none⟩ = some (.int .i64 (l.getD i 0)) := (o6.cell (p := ⟨b, off + i, none⟩) hb).trans hcell
      have Hcr : Hid (-9223372036854775808 ≤ l.getD i 0 ∧ l.getD i 0 ≤ 9223372036854775807) := getD_in Hl.out i
      have O1 : Hid (OnceSt base wn bg cm i M s sd x) := o1
      have O2 : Hid (MdAt wr ρ mb M sv wv SB WB) := o2
      have O3 : Hid (∀ b, b < w.heap.size → ρ b = 0) := o3
      have O4 : Hid (ρ cb = 0) := o4
      have O5 : Hid (CameAt cb wn cm wr) := o5
      have O6 : Hid (Below w.heap.size w wr) := o6
      clear hcell o1 o2 o3 o4 o5 o6 HO
      generalize l.getD i 0 = ci at *
      go_wp2_with fail
      refine (pick_any ci wn _ Hcr.out.1 Hcr.out.2 (by omega) (by omega)).mono ?_
      rintro e wq ⟨rfl, hwq⟩
      rw [hwq]
      clear hwq wq
      go_simp
      have r0 := pickF_lo ci wn (by omega)
      have r1 := pickF_hi ci wn (by omega)
      generalize pickF ci (wn : Int) = pk at *
      obtain ⟨k, rfl⟩ := Int.eq_ofNat_of_zero_le r0
      have hk : k < wn := by omega
      have e0 := O5.out.c k hk
      have ef := O5.out.f k
      have hbk : IntKind.i64.wrap ((base : Int) + (k : Int)) = ((base + k : Nat) : Int) := by rw [i64_id _ (by omega) (by omega)]; rfl
      have hS := O5.out.set (k := k)
      have OM : Hid (MdAt (wr.setCell ⟨cb, k, none⟩ (.bool true)) ρ mb M sv wv SB WB) := O2.out.chg ((Chg.refl (fun b => b = cb) _).setCell ⟨cb, k, none⟩ (.inl rfl) _) (fun b e => by subst e; exact O4.out)
      have OS : Hid (CameAt cb wn (updB cm k) (wr.setCell ⟨cb, k, none⟩ (.bool true))) := hS
      have OB : Hid (Below w.heap.size w (wr.setCell ⟨cb, k, none⟩ (.bool true))) := O6.out.trans ((((Chg.refl (fun b => b = cb) wr).setCell ⟨cb, k, none⟩ (.inl rfl) (.bool true))).below O6.out.size (fun y e => by subst e; exact HCB.out))
      clear hS O2 O5 O6
      cases bg with
      | none =>
        have hst := O1.out.st
        have hcm : cm k = false := hst.2.2.2.2.2.2 k
        rw [hcm] at e0
        have HPS : Hid ((none : Option Nat).getD k ≤ k ∧ cm k = false) := ⟨Nat.le_refl _, hcm⟩
        clear hst hcm
        rw [show bgI none = -1 from rfl]
        go_wp2_with fail
        refine (data_any (base + k) ⟨#[120]⟩ _ (by omega) (by unfold maxLen; decide)).mono ?_
        rintro e w5 ⟨rfl, hb5⟩
        have OM5 : Hid (MdAt w5 ρ mb M sv wv SB WB) := OM.out.below hb5
        have OS5 : Hid (CameAt cb wn (updB cm k) w5) := OS.out.chg (T := fun _ => False) (Chg.ofBelow hb5) (fun e => e)
        have OB5 : Hid (Below w.heap.size w w5) := OB.out.trans (hb5.mono OB.out.size)
        clear hb5 OM OS OB
        have Hok : Hid (MOk M) := O1.out.ok hwl.1 hwl.2 (by omega)
        have Hst : Hid (∀ cv, (packetM M (dataT (base + k) ⟨#[120]⟩) cv).2.2 = 0 ∧ (packetM M (dataT (base + k) ⟨#[120]⟩) cv).2.1 = [textOf x (dataP (base + k) ⟨#[120]⟩)]) := fun cv => by
          obtain ⟨-, a1, a2, -⟩ := once_step O1.out hwl.2 hk ⟨#[120]⟩ cv
          refine ⟨a1, a2.trans ?_⟩
          exact if_pos HPS.out
        have Hmv : Hid (∀ (w' : World) (tv cv : Value) (L : List ByteArray), MovedT w5 w' ρ mb (packetM M (dataT (base + k) ⟨#[120]⟩) cv).1 tv L → OnceAt w base wn mb cb (i + 1) (some k) w' ∧ w'.ownsRow w5.heap.size 9 1 tv L.length (L.map Value.string) ∧ w5.heap.size ≤ w'.heap.size) := fun w' tv cv L h => OnceAt.step O1.out O3.out O4.out OS5.out OB5.out hwl.2 hk ⟨#[120]⟩ h
        have hds := (dataT_read (base + k) ⟨#[120]⟩).2
        have Hnum : Hid (numOf x ((base + k) % 65536) = (65530 + k - k) % 65536) := (once_step O1.out hwl.2 hk ⟨#[120]⟩ (.bool true)).2.2.2 HPS.out.1
        obtain ⟨htr, hts⟩ := textOf_read x (base + k) ⟨#[120]⟩ (by rw [O1.out.pl]; decide) (by rw [O1.out.src]; decide)
        rw [Hnum.out, O1.out.pl, O1.out.src] at htr
        have Htr : Hid (readP (textOf x (dataP (base + k) ⟨#[120]⟩)) = some ⟨false, false, 100, (((65530 + k - k) % 65536 : Nat) : Int), 5, 7, 0, 0, [], ⟨#[]⟩, ⟨#[120]⟩⟩) := htr
        generalize textOf x (dataP (base + k) ⟨#[120]⟩) = tx at *
        clear htr Hnum
        rw [show (65530 + k - k) % 65536 = 65530 by omega] at Htr
        generalize dataT (base + k) ⟨#[120]⟩ = dt at *
        go_wp2_with fail
        refine (packet_any ρ mb M sv wv SB WB dt _ OM5.out Hok.out (by unfold maxLen; omega)).mono ?_
        rintro e w6 ⟨cv, tv, rfl, hmv⟩
        obtain ⟨a1, a2⟩ := Hst.out cv
        obtain ⟨hO6, hrow, hs6⟩ := Hmv.out w6 tv cv _ hmv
        rw [a2] at hrow
        rw [a1]
        have HO6 : Hid (OnceAt w base wn mb cb (i + 1) (some k) w6) := hO6
        clear hmv a1 a2 hO6 Hst Hmv
        obtain ⟨g, cap, rfl, hcell, hg⟩ := row_one hrow
        clear hrow
        go_wp2_with fail
        refine (parsePacket_any tx _ (by unfold maxLen; omega)).mono ?_
        rintro e w7 ⟨hb7, hr7⟩
        rw [Htr.out] at hr7
        obtain ⟨v7, he7, hown7⟩ := hr7
        obtain ⟨a7, c7, hv7⟩ := hown7.shape
        subst hv7
        simp only [okV] at he7
        subst he7
        have HO7 : Hid (OnceAt w base wn mb cb (i + 1) (some k) w7) := HO6.out.below hb7
        clear hb7 hown7 hcell HO6
        go_wp2
        go_roundw
        case rel => exact ⟨i + 1, some k, by omega, by omega, by go_num, rfl, HO7.out.below ((Below.refl _ _).alloc (Nat.le_refl _) _)⟩
        case measure => simp [intOf]; omega
      | some b0 =>
        rw [show bgI (some b0) = (b0 : Int) from rfl]
        have hbn : ¬ (b0 : Int) < 0 := by omega
        by_cases hkb : b0 ≤ k
        · have hkb' : (b0 : Int) ≤ (k : Int) := by omega
          cases hcm : cm k with
          | false =>
            rw [hcm] at e0
            have HPS : Hid ((some b0).getD k ≤ k ∧ cm k = false) := ⟨hkb, hcm⟩
            clear hcm
            go_wp2_with fail
            refine (data_any (base + k) ⟨#[120]⟩ _ (by omega) (by unfold maxLen; decide)).mono ?_
            rintro e w5 ⟨rfl, hb5⟩
            have OM5 : Hid (MdAt w5 ρ mb M sv wv SB WB) := OM.out.below hb5
            have OS5 : Hid (CameAt cb wn (updB cm k) w5) := OS.out.chg (T := fun _ => False) (Chg.ofBelow hb5) (fun e => e)
            have OB5 : Hid (Below w.heap.size w w5) := OB.out.trans (hb5.mono OB.out.size)
            clear hb5 OM OS OB
            have Hok : Hid (MOk M) := O1.out.ok hwl.1 hwl.2 (by omega)
            have Hst : Hid (∀ cv, (packetM M (dataT (base + k) ⟨#[120]⟩) cv).2.2 = 0 ∧ (packetM M (dataT (base + k) ⟨#[120]⟩) cv).2.1 = [textOf x (dataP (base + k) ⟨#[120]⟩)]) := fun cv => by
              obtain ⟨-, a1, a2, -⟩ := once_step O1.out hwl.2 hk ⟨#[120]⟩ cv
              refine ⟨a1, a2.trans ?_⟩
              exact if_pos HPS.out
            have Hmv : Hid (∀ (w' : World) (tv cv : Value) (L : List ByteArray), MovedT w5 w' ρ mb (packetM M (dataT (base + k) ⟨#[120]⟩) cv).1 tv L → OnceAt w base wn mb cb (i + 1) (some b0) w' ∧ w'.ownsRow w5.heap.size 9 1 tv L.length (L.map Value.string) ∧ w5.heap.size ≤ w'.heap.size) := fun w' tv cv L h => OnceAt.step O1.out O3.out O4.out OS5.out OB5.out hwl.2 hk ⟨#[120]⟩ h
            have hds := (dataT_read (base + k) ⟨#[120]⟩).2
            have Hnum : Hid (numOf x ((base + k) % 65536) = (65530 + k - b0) % 65536) := (once_step O1.out hwl.2 hk ⟨#[120]⟩ (.bool true)).2.2.2 HPS.out.1
            obtain ⟨htr, hts⟩ := textOf_read x (base + k) ⟨#[120]⟩ (by rw [O1.out.pl]; decide) (by rw [O1.out.src]; decide)
            rw [Hnum.out, O1.out.pl, O1.out.src] at htr
            have Htr : Hid (readP (textOf x (dataP (base + k) ⟨#[120]⟩)) = some ⟨false, false, 100, (((65530 + k - b0) % 65536 : Nat) : Int), 5, 7, 0, 0, [], ⟨#[]⟩, ⟨#[120]⟩⟩) := htr
            generalize textOf x (dataP (base + k) ⟨#[120]⟩) = tx at *
            clear htr Hnum
            obtain ⟨nq, hnq⟩ : ∃ nq : Nat, (65530 + k - b0) % 65536 = nq := ⟨_, rfl⟩
            rw [hnq] at Htr
            have hm1 : (65530 + (k : Int) - (b0 : Int)).tmod 65536 = (nq : Int) := by rw [Int.tmod_eq_emod_of_nonneg (by omega)]; omega
            have hm2 : (65530 + (k : Int) - (b0 : Int)) % 65536 = (nq : Int) := by omega
            clear hnq
            generalize dataT (base + k) ⟨#[120]⟩ = dt at *
            go_wp2_with fail
            refine (packet_any ρ mb M sv wv SB WB dt _ OM5.out Hok.out (by unfold maxLen; omega)).mono ?_
            rintro e w6 ⟨cv, tv, rfl, hmv⟩
            obtain ⟨a1, a2⟩ := Hst.out cv
            obtain ⟨hO6, hrow, hs6⟩ := Hmv.out w6 tv cv _ hmv
            rw [a2] at hrow
            rw [a1]
            have HO6 : Hid (OnceAt w base wn mb cb (i + 1) (some b0) w6) := hO6
            clear hmv a1 a2 hO6 Hst Hmv
            obtain ⟨g, cap, rfl, hcell, hg⟩ := row_one hrow
            clear hrow
            go_wp2_with fail
            refine (parsePacket_any tx _ (by unfold maxLen; omega)).mono ?_
            rintro e w7 ⟨hb7, hr7⟩
            rw [Htr.out] at hr7
            obtain ⟨v7, he7, hown7⟩ := hr7
            obtain ⟨a7, c7, hv7⟩ := hown7.shape
            subst hv7
            simp only [okV] at he7
            subst he7
            have HO7 : Hid (OnceAt w base wn mb cb (i + 1) (some b0) w7) := HO6.out.below hb7
            clear hb7 hown7 hcell HO6
            go_wp2
            go_roundw
            case rel => exact ⟨i + 1, some b0, by omega, by omega, by go_num, rfl, HO7.out.below ((Below.refl _ _).alloc (Nat.le_refl _) _)⟩
            case measure => simp [intOf]; omega
          | true =>
            rw [hcm] at e0
            have HPS : Hid (¬ ((some b0).getD k ≤ k ∧ cm k = false)) := fun h => by rw [hcm] at h; exact absurd h.2 (by decide)
            clear hcm
            go_wp2_with fail
            refine (data_any (base + k) ⟨#[120]⟩ _ (by omega) (by unfold maxLen; decide)).mono ?_
            rintro e w5 ⟨rfl, hb5⟩
            have OM5 : Hid (MdAt w5 ρ mb M sv wv SB WB) := OM.out.below hb5
            have OS5 : Hid (CameAt cb wn (updB cm k) w5) := OS.out.chg (T := fun _ => False) (Chg.ofBelow hb5) (fun e => e)
            have OB5 : Hid (Below w.heap.size w w5) := OB.out.trans (hb5.mono OB.out.size)
            clear hb5 OM OS OB
            have Hok : Hid (MOk M) := O1.out.ok hwl.1 hwl.2 (by omega)
            have Hst : Hid (∀ cv, (packetM M (dataT (base + k) ⟨#[120]⟩) cv).2.2 = 0 ∧ (packetM M (dataT (base + k) ⟨#[120]⟩) cv).2.1 = []) := fun cv => by
              obtain ⟨-, a1, a2, -⟩ := once_step O1.out hwl.2 hk ⟨#[120]⟩ cv
              refine ⟨a1, a2.trans ?_⟩
              exact if_neg HPS.out
            have Hmv : Hid (∀ (w' : World) (tv cv : Value) (L : List ByteArray), MovedT w5 w' ρ mb (packetM M (dataT (base + k) ⟨#[120]⟩) cv).1 tv L → OnceAt w base wn mb cb (i + 1) (some b0) w' ∧ w'.ownsRow w5.heap.size 9 1 tv L.length (L.map Value.string) ∧ w5.heap.size ≤ w'.heap.size) := fun w' tv cv L h => OnceAt.step O1.out O3.out O4.out OS5.out OB5.out hwl.2 hk ⟨#[120]⟩ h
            have hds := (dataT_read (base + k) ⟨#[120]⟩).2
            generalize dataT (base + k) ⟨#[120]⟩ = dt at *
            go_wp2_with fail
            refine (packet_any ρ mb M sv wv SB WB dt _ OM5.out Hok.out (by unfold maxLen; omega)).mono ?_
            rintro e w6 ⟨cv, tv, rfl, hmv⟩
            obtain ⟨a1, a2⟩ := Hst.out cv
            obtain ⟨hO6, hrow, hs6⟩ := Hmv.out w6 tv cv _ hmv
            rw [a2] at hrow
            rw [a1]
            have HO6 : Hid (OnceAt w base wn mb cb (i + 1) (some b0) w6) := hO6
            clear hmv a1 a2 hO6 Hst Hmv
            obtain ⟨a6, c6, rfl⟩ := row_none hrow
            clear hrow
            go_wp2
            go_roundw
            case rel => exact ⟨i + 1, some b0, by omega, by omega, by go_num, rfl, HO6.out⟩
            case measure => simp [intOf]; omega
        · have hkb' : ¬ (b0 : Int) ≤ (k : Int) := by omega
          have HPS : Hid (¬ ((some b0).getD k ≤ k ∧ cm k = false)) := fun h => hkb h.1
          go_wp2_with fail
          refine (data_any (base + k) ⟨#[120]⟩ _ (by omega) (by unfold maxLen; decide)).mono ?_
          rintro e w5 ⟨rfl, hb5⟩
          have OM5 : Hid (MdAt w5 ρ mb M sv wv SB WB) := OM.out.below hb5
          have OS5 : Hid (CameAt cb wn (updB cm k) w5) := OS.out.chg (T := fun _ => False) (Chg.ofBelow hb5) (fun e => e)
          have OB5 : Hid (Below w.heap.size w w5) := OB.out.trans (hb5.mono OB.out.size)
          clear hb5 OM OS OB
          have Hok : Hid (MOk M) := O1.out.ok hwl.1 hwl.2 (by omega)
          have Hst : Hid (∀ cv, (packetM M (dataT (base + k) ⟨#[120]⟩) cv).2.2 = 0 ∧ (packetM M (dataT (base + k) ⟨#[120]⟩) cv).2.1 = []) := fun cv => by
            obtain ⟨-, a1, a2, -⟩ := once_step O1.out hwl.2 hk ⟨#[120]⟩ cv
            refine ⟨a1, a2.trans ?_⟩
            exact if_neg HPS.out
          have Hmv : Hid (∀ (w' : World) (tv cv : Value) (L : List ByteArray), MovedT w5 w' ρ mb (packetM M (dataT (base + k) ⟨#[120]⟩) cv).1 tv L → OnceAt w base wn mb cb (i + 1) (some b0) w' ∧ w'.ownsRow w5.heap.size 9 1 tv L.length (L.map Value.string) ∧ w5.heap.size ≤ w'.heap.size) := fun w' tv cv L h => OnceAt.step O1.out O3.out O4.out OS5.out OB5.out hwl.2 hk ⟨#[120]⟩ h
          have hds := (dataT_read (base + k) ⟨#[120]⟩).2
          generalize dataT (base + k) ⟨#[120]⟩ = dt at *
          go_wp2_with fail
          refine (packet_any ρ mb M sv wv SB WB dt _ OM5.out Hok.out (by unfold maxLen; omega)).mono ?_
          rintro e w6 ⟨cv, tv, rfl, hmv⟩
          obtain ⟨a1, a2⟩ := Hst.out cv
          obtain ⟨hO6, hrow, hs6⟩ := Hmv.out w6 tv cv _ hmv
          rw [a2] at hrow
          rw [a1]
          have HO6 : Hid (OnceAt w base wn mb cb (i + 1) (some b0) w6) := hO6
          clear hmv a1 a2 hO6 Hst Hmv
          obtain ⟨a6, c6, rfl⟩ := row_none hrow
          clear hrow
          go_wp2
          go_roundw
          case rel => exact ⟨i + 1, some b0, by omega, by omega, by go_num, rfl, HO6.out⟩
          case measure => simp [intOf]; omega
    · by_cases h1 : (i : Int) < l.length
      · have h2 : ¬ (i : Int) < 100000 := by omega
        obtain ⟨_, _, _, _, _, _, _, _, _, _, _, _, _, _, _, o6⟩ := HO.out
        have O6 : Hid (Below w.heap.size w wr) := o6
        clear o6
        go_wp2
        go_ret
        exact ⟨rfl, O6.out⟩
      · obtain ⟨_, _, _, _, _, _, _, _, _, _, _, _, _, _, _, o6⟩ := HO.out
        have O6 : Hid (Below w.heap.size w wr) := o6
        clear o6
        go_wp2
        go_ret
        exact ⟨rfl, O6.out⟩

end Go.Proofs.Ytdjhhnolcafkiaa

/-
  Whatever first number, whatever offsets and whatever window it is given, menderkeep.Once returns true and leaves its arguments as they were: of packets within one window each goes to the want once, when it comes first, if it is not behind the one that came first of all, and then is as far from that one as it was. No condition beyond the row's own.
-/
namespace Go.Proofs.Ytdjhhnolcafkiaa
open Go.ChangeShapes Go.WideShapes Go.ChangeAt Go.RowKit
open Go.ChangeMaps (open_string shut_string)
namespace Oc

theorem own : ownKnob Try.prog.godebug = none := by kernel_rfl
theorem laidOut : laidOutB Try.prog = true := by kernel_rfl

theorem wf64 {n : Int} (h : (Lit.int .i64 n).wf = true) : -9223372036854775808 ≤ n ∧ n ≤ 9223372036854775807 := by
  simp only [Lit.wf, IntKind.min, IntKind.max, IntKind.signed, IntKind.bits, Bool.and_eq_true, decide_eq_true_eq, if_true] at h
  omega

section
variable {H : Type} {enc : TypeId × Value → H} {W : World} {base : Nat} {spare : Nat → Bool} {held : Bool}

/-- a list of numbers that came in -/
theorem ints_in {fuel : Nat} {c : Value} {x : DataW H × List MemPlace} (h : DataW.trod enc Try.prog W base spare held fuel 27 [c] = some x) :
    ∃ l : List Int, Pk.IsInts W.heap.size W c l ∧ l.length ≤ maxLen ∧ ∀ n ∈ l, -9223372036854775808 ≤ n ∧ n ≤ 9223372036854775807 := by
  rcases open_ints Try.underlying27 Try.underlying3 (by kernel_rfl) h with ⟨hcs, _⟩ | ⟨a, len, cap, zs, hcs, _, hl, hm, hz, _, hcell, hwz⟩
  · simp only [List.cons.injEq, and_true] at hcs
    subst hcs
    exact ⟨[], ⟨none, 0, rfl, fun j hj => absurd hj (by simp)⟩, Nat.zero_le _, by simp⟩
  · simp only [List.cons.injEq, and_true] at hcs
    subst hcs
    have hlz : len ≤ zs.length := by split at hz <;> omega
    have hlen : (zs.take len).length = len := by rw [List.length_take]; omega
    refine ⟨zs.take len, ⟨some a, cap, by rw [hlen], fun j hj => ?_⟩, by omega, fun n hn => wf64 (hwz n (List.mem_of_mem_take hn))⟩
    rw [hlen] at hj
    obtain ⟨b, off, rfl, hcells⟩ := ints_at hcell (by omega)
    have h1 := hcells j (by omega)
    refine ⟨b, off, rfl, Pk.lt_of_cell h1, ?_⟩
    rw [h1]
    simp [List.getD, hj]
end

set_option maxRecDepth 100000 in
theorem lifted (os : Os) (started : os.Started) (H : Type) (enc : TypeId × Value → H) :
    ReturnsInHanded {} Try.checked os 7 .any (Rows.onceSpec.pre6 enc Try.prog Try.f7 Rows.onceRow.domain false) (Rows.onceSpec.post enc Try.prog Try.f7 false true false false) := by
  refine returnsInHanded_of_change (C := Try.checked) own started (by kernel_rfl) Try.func7
    (ChangeSpec.witness6 (enc := enc) (C := Try.checked) false ⟨#[], #[.int .i64 0, .slice none 0 0, .int .i64 0], []⟩ 8 (by kernel_rfl) (by kernel_rfl) (by kernel_rfl) (by kernel_rfl)) ?_
  intro W base args ds gs before hval0 hW hcnd _
  have hval : ∀ (j : Nat) t v, Try.f7.params[j]? = some t → args[j]? = some v → Value.okWide Try.prog W .any base t v := hval0
  have hW' := hW
  obtain ⟨p, q, hA0, hV, rfl, hfz, hnd⟩ := hW
  have hA : DataW.TrodAll enc Try.prog W 0 (fun _ => true) true Try.f7.params.toList args.toList ds p := hA0
  rw [Try.params7] at hA hval
  obtain ⟨v0, vs0, d0, ds0, p0, q0, hargs, rfl, rfl, h0, r0⟩ := trodAll_cons hA
  obtain ⟨v1, vs1, d1, ds1, p1, q1, rfl, rfl, rfl, h1, r1⟩ := trodAll_cons r0
  obtain ⟨v2, vs2, d2, ds2, p2, q2, rfl, rfl, rfl, h2, r2⟩ := trodAll_cons r1
  obtain ⟨rfl, rfl, rfl⟩ := trodAll_nil r2
  obtain rfl : args = #[v0, v1, v2] := by cases args; simp_all
  obtain ⟨rfl, rfl⟩ := trodVars_none hV
  have k1 := h1
  have lt1 : ∀ x ∈ p1, x.block < W.heap.size := by obtain ⟨m, hm⟩ := k1; exact DataW.trod_lt m _ _ _ hm
  obtain ⟨n0, rfl, rfl, rfl, w0⟩ := open_int Try.underlying3 (hval 0 3 v0 rfl rfl) h0
  obtain ⟨n2, rfl, rfl, rfl, w2⟩ := open_int Try.underlying3 (hval 2 3 v2 rfl rfl) h2
  obtain ⟨_, _, _, rfl⟩ := okWide_slice Try.underlying27 (hval 1 27 v1 rfl rfl)
  obtain ⟨_, f1⟩ := h1
  obtain ⟨l, l1, l2, l3⟩ := ints_in f1
  clear hA0 hval0
  refine (once_walk n0 n2 _ l W l1 (wf64 w0) (wf64 w2) l3 l2).mono fun e W' ⟨he, bel⟩ => ?_
  subst he
  exact ⟨_, rfl, _, _, _, [], _, [], hW', trodAll_mk1 (shut_bool Try.underlying4 _), (trodAll_cons_mk (shut_int Try.underlying3 w0) (trodAll_cons_mk (Below.trod laidOut (by kernel_rfl) (of_decide_eq_true (by kernel_rfl)) k1 bel lt1) (trodAll_cons_mk (shut_int Try.underlying3 w2) trodAll_mk0))), rfl, bel.frame _, fun h => by cases h⟩

end Oc

theorem once_holds : Rows.OnceSaid :=
  OpenClaim.holds_of_wide 7 Try.f7 rfl rfl rfl rfl rfl rfl rfl ⟨rfl, rfl, rfl, rfl, rfl⟩ rfl rfl rfl rfl rfl (by kernel_rfl) Try.func7 (by kernel_rfl)
    (of_decide_eq_true (by kernel_rfl)) (by unfold Func.isWrapper; first | (rw [if_pos (by decide +kernel)]; kernel_rfl) | (rw [if_neg (by decide +kernel)]; exact ⟨rfl, rfl⟩))
    (fun os started H enc _ => Oc.lifted os started H enc)

end Go.Proofs.Ytdjhhnolcafkiaa
