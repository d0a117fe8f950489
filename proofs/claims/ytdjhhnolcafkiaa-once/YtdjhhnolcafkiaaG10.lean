/- menderkeep: data, begun. -/
import Derived.Test.YtdjhhnolcafkiaaG09
import Derived.Test.YtdjhhnolcafkiaaG01
namespace Go.Proofs.Ytdjhhnolcafkiaa
open Go.RowKit
namespace Pk
/-- a mender in blocks from B on -/
def Fresh (B : Nat) (W : World) (mb : Nat) (M : Md) : Prop := ∃ ρ sv wv SB WB, MdAt W ρ mb M sv wv SB WB ∧ ∀ b, b < B → ρ b = 0
theorem Fresh.moved {B : Nat} {W W' : World} {ρ : Nat → Nat} {mb : Nat} {M' : Md} (hB : B ≤ W.heap.size) (h0 : ∀ b, b < B → ρ b = 0) (h : Moved W W' ρ mb M') : Fresh B W' mb M' ∧ Below B W W' := by
  obtain ⟨ρ', a, b, c, d, h1, h2, h3⟩ := h
  refine ⟨⟨ρ', a, b, c, d, h1, fun x hx => h2 x (by omega) (h0 x hx)⟩, h3.below hB (fun x hx => ?_)⟩
  rcases Nat.lt_or_ge x B with e | e
  · exact absurd (h0 x e) hx
  · exact e
def plan0 : Plan := ⟨7, 8, 100, 101, 65530, 65534⟩
/-- the mender that the statements begin with -/
def bM (c : Cfg) : Md := ⟨c, ⟨0, c.burst, 0, 0, 0, 0, 0, 0, 0, 0, 0⟩, [⟨3, false, [], 0⟩], [newW 1 3 plan0 65534], 1⟩
def bM1 (c : Cfg) : Md := ⟨c, ⟨0, c.burst, 0, 0, 0, 0, 0, 0, 0, 0, 0⟩, [⟨3, false, [], 0⟩], [], 0⟩
theorem addS_b (c : Cfg) : addSM (newM c) 3 = (bM1 c, 0) := by
  unfold addSM
  rw [if_neg (by omega), if_neg (by simp [knowsF, sndPos, hasPos, newM]), if_neg (by simp [newM])]
  rfl
theorem addW_b (c : Cfg) : addWM (bM1 c) 3 plan0 = (bM c, 1, 0) := by
  unfold addWM
  rw [if_neg (by simp [sndPos, bM1]), if_neg (by simp [plOk, plan0]), if_neg (by simp [knowsF, sndPos, hasPos, bM1, plan0]), if_neg (by simp [bM1])]
  rfl
def dataT (n : Nat) (py : ByteArray) : ByteArray := (tellR false false 96 ((n % 65536 : Nat) : Int) 5 3 0 0 [] ⟨#[]⟩ (cutF py 100)).1
end Pk
open Pk

set_option maxHeartbeats 1000000 in
theorem data_any (n : Nat) (py : ByteArray) (w : World) (hn : n ≤ 1000000000) (hpy : py.size ≤ maxLen) :
    Calls Try.prog 28 #[.int .i64 n, .string py] w fun e w' => e = .returned (.string (dataT n py)) ∧ Below w.heap.size w w' := by
  have hm : (n : Int).tmod 65536 = ((n % 65536 : Nat) : Int) := by rw [Int.tmod_eq_emod_of_nonneg (by omega)]; omega
  have hlt : n % 65536 < 65536 := Nat.mod_lt _ (by decide)
  obtain ⟨q, hq⟩ : ∃ q, n % 65536 = q := ⟨_, rfl⟩
  have Hd : Hid (dataT n py = (tellR false false 96 (q : Int) 5 3 0 0 [] ⟨#[]⟩ (cutF py 100)).1) := by show _ = _; unfold dataT; rw [hq]
  have hcs : (cutF py 100).size ≤ 140737488355328 := by
    unfold cutF maxLen at *
    split
    · rw [ByteArray.size_extract]; omega
    · omega
  rw [hq] at hm hlt
  clear hq
  go_enter Try.func28, Try.ntmps28
  go_wp2_with fail
  refine (cut_any py 100 _ hpy (by omega)).mono ?_
  rintro e w1 ⟨rfl, hw1⟩
  rw [hw1]
  clear hw1
  generalize cutF py 100 = cp at *
  go_wp2_with fail
  refine (tellPacket_any false false 96 q 5 3 0 0 (.slice none 0 0) [] ⟨#[]⟩ cp _ _ (Nat.le_refl _) ⟨none, 0, rfl, fun j hj => absurd hj (by simp)⟩ (Nat.zero_le _) (Nat.zero_le _) hcs).mono ?_
  rintro e w1 ⟨rfl, hb1⟩
  have Hb1 : Hid (Below w.heap.size w w1) := hb1
  clear hb1
  generalize (tellR false false 96 (q : Int) 5 3 0 0 [] ⟨#[]⟩ cp).1 = t1 at *
  generalize (tellR false false 96 (q : Int) 5 3 0 0 [] ⟨#[]⟩ cp).2 = e1 at *
  go_wp2
  go_ret
  exact ⟨by rw [Hd.out]; rfl, Hb1.out⟩

set_option maxRecDepth 20000 in
set_option maxHeartbeats 1000000 in
theorem begun_any (c : Cfg) (w : World) (hc : cfgOk c = true) :
    Calls Try.prog 25 #[.agg #[.int .i64 c.ring, .int .i64 c.window, .int .i64 c.delay, .int .i64 c.rate, .int .i64 c.burst, .int .i64 c.retry, .int .i64 c.tries]] w fun e w' => ∃ mb, e = .returned (.pointer (some ⟨mb, 0, none⟩)) ∧ Below w.heap.size w w' ∧ Fresh w.heap.size w' mb (bM c) := by
  have hr1 : 1 ≤ c.ring := by
    have := of_decide_eq_true hc
    omega
  have Hc : Hid (cfgOk c = true) := hc
  clear hc
  go_enter Try.func25, Try.ntmps25
  go_wp2_with fail
  refine (new_any c _).mono ?_
  rintro e w1 ⟨hb1, ⟨hf, -⟩ | ⟨-, mb, ρ1, hmb, rfl, hM1, hρ1⟩⟩
  · rw [Hc.out] at hf; cases hf
  have Hb1 : Hid (Below w.heap.size w w1) := ((Below.refl _ _).alloc (Nat.le_refl _) _).trans (hb1.mono (by simp))
  have hs1 := Hb1.out.size
  have H1 : Hid (MdAt w1 ρ1 mb (newM c) (.slice none 0 0) (.slice none 0 0) [] []) := hM1
  have HZ1 : Hid (∀ b, b < w.heap.size → ρ1 b = 0) := fun b hb => by
    rcases Nat.eq_zero_or_pos (ρ1 b) with e | e
    · exact e
    · have := hρ1 b (by omega)
      simp at this
      omega
  clear hb1 hM1 hρ1 hmb
  go_wp2_with fail
  refine (addSender_any ρ1 mb (newM c) _ _ [] [] 3 _ H1.out (by simp [newM]) hr1).mono ?_
  rintro e w2 ⟨rfl, hmv⟩
  rw [addS_b] at hmv ⊢
  obtain ⟨⟨ρ2, sv2, wv2, SB2, WB2, hM2, hZ2⟩, hb2⟩ := Fresh.moved hs1 HZ1.out hmv
  have Hb2 : Hid (Below w.heap.size w w2) := Hb1.out.trans hb2
  have H2 : Hid (MdAt w2 ρ2 mb (bM1 c) sv2 wv2 SB2 WB2) := hM2
  have HZ2 : Hid (∀ b, b < w.heap.size → ρ2 b = 0) := hZ2
  have hs2 := Hb2.out.size
  clear hmv hM2 hZ2 hb2 H1 HZ1
  go_wp2_with fail
  refine (addWant_any ρ2 mb (bM1 c) _ _ SB2 WB2 3 plan0 _ H2.out (by simp [bM1]) (by simp [bM1]) (by simp [bM1]) (by simp [bM1])).mono ?_
  rintro e w3 ⟨rfl, hmv⟩
  rw [addW_b] at hmv ⊢
  obtain ⟨hF, hb3⟩ := Fresh.moved hs2 HZ2.out hmv
  have Hb3 : Hid (Below w.heap.size w w3) := Hb2.out.trans hb3
  have HF : Hid (Fresh w.heap.size w3 mb (bM c)) := hF
  clear hmv hF hb3 H2 HZ2
  go_wp2
  go_ret
  exact ⟨mb, rfl, Hb3.out, HF.out⟩

end Go.Proofs.Ytdjhhnolcafkiaa

/- menderkeep: config. -/
namespace Go.Proofs.Ytdjhhnolcafkiaa
open Go.RowKit
namespace Pk
def cfgF (cl : List Int) : Cfg := ⟨1 + pickF (cl.getD 0 0) 64, 1 + pickF (cl.getD 1 0) 200, pickF (cl.getD 2 0) 30, pickF (cl.getD 3 0) 40, pickF (cl.getD 4 0) 400, 1 + pickF (cl.getD 5 0) 30, pickF (cl.getD 6 0) 5⟩
def CfS (L : Nat) (a0 a1 a2 a3 a4 a5 a6 : Int) (W : World) : Prop := W.cell? ⟨L, 0, none⟩ = some (.int .i64 a0) ∧ W.cell? ⟨L, 1, none⟩ = some (.int .i64 a1) ∧ W.cell? ⟨L, 2, none⟩ = some (.int .i64 a2) ∧ W.cell? ⟨L, 3, none⟩ = some (.int .i64 a3) ∧ W.cell? ⟨L, 4, none⟩ = some (.int .i64 a4) ∧ W.cell? ⟨L, 5, none⟩ = some (.int .i64 a5) ∧ W.cell? ⟨L, 6, none⟩ = some (.int .i64 a6)
/-- cells stored one behind the other -/
def setAll (W : World) (b : Nat) : List Value → Nat → World
  | [], _ => W
  | c :: r, off => setAll (W.setCell ⟨b, off, none⟩ c) b r (off + 1)
theorem setAll_chg (b : Nat) : ∀ (l : List Value) (W : World) (off : Nat), Chg (fun x => x = b) W (setAll W b l off)
  | [], _W, _ => Chg.refl _ _
  | c :: r, _W, off => ((Chg.refl (fun x => x = b) _).setCell ⟨b, off, none⟩ (.inl rfl) c).trans (setAll_chg b r _ (off + 1)) (fun _ _ e => e)
theorem setAll_lt (b : Nat) : ∀ (l : List Value) (W : World) (off j : Nat), j < off → (setAll W b l off).cell? ⟨b, j, none⟩ = W.cell? ⟨b, j, none⟩
  | [], W, _, _, _ => rfl
  | c :: r, W, off, j, h => (setAll_lt b r _ (off + 1) j (by omega)).trans (World.cell?_setCell_other _ _ _ _ (fun e => by injection e with _ e _; omega))
theorem setAll_cell (b : Nat) : ∀ (l : List Value) (W : World) (off : Nat), (∀ i, i < l.length → ∃ u, W.cell? ⟨b, off + i, none⟩ = some u) → ∀ i u, l[i]? = some u → (setAll W b l off).cell? ⟨b, off + i, none⟩ = some u
  | [], W, _, _, i, u, h => by simp at h
  | c :: r, W, off, hW, 0, u, h => by
    simp at h
    subst h
    show (setAll (W.setCell ⟨b, off, none⟩ c) b r (off + 1)).cell? ⟨b, off, none⟩ = some c
    rw [setAll_lt b r _ (off + 1) off (by omega)]
    obtain ⟨u, hu⟩ := hW 0 (by simp)
    exact World.cell?_setCell_same _ _ _ hu
  | c :: r, W, off, hW, i + 1, u, h => by
    have hh := setAll_cell b r (W.setCell ⟨b, off, none⟩ c) (off + 1) (fun j hj => by
      obtain ⟨u, hu⟩ := hW (j + 1) (by simpa using hj)
      refine ⟨u, (World.cell?_setCell_other _ _ _ _ (fun e => by injection e with _ e _; omega)).trans ?_⟩
      rw [show off + 1 + j = off + (j + 1) by omega]
      exact hu) i u (by simpa using h)
    rw [setAll, show off + (i + 1) = off + 1 + i by omega]
    exact hh
theorem setAll_cell0 (b : Nat) (l : List Value) (W : World) (h : ∀ i, i < l.length → ∃ u, W.cell? ⟨b, i, none⟩ = some u) (i : Nat) (u : Value) (hu : l[i]? = some u) : (setAll W b l 0).drew.cell? ⟨b, i, none⟩ = some u := by
  have hh := setAll_cell b l W 0 (fun j hj => by rw [Nat.zero_add]; exact h j hj) i u hu
  rw [Nat.zero_add] at hh
  exact hh
theorem chain7 (W : World) (b : Nat) (c0 c1 c2 c3 c4 c5 c6 : Value) : (((((((W.setCell ⟨b, 0, none⟩ c0).setCell ⟨b, 1, none⟩ c1).setCell ⟨b, 2, none⟩ c2).setCell ⟨b, 3, none⟩ c3).setCell ⟨b, 4, none⟩ c4).setCell ⟨b, 5, none⟩ c5).setCell ⟨b, 6, none⟩ c6) = setAll W b [c0, c1, c2, c3, c4, c5, c6] 0 := by
  simp only [setAll]
theorem CfS.chg {T : Nat → Prop} {W W' : World} {L : Nat} {a0 a1 a2 a3 a4 a5 a6 : Int} (h : CfS L a0 a1 a2 a3 a4 a5 a6 W) (hc : Chg T W W') (hn : ¬ T L) : CfS L a0 a1 a2 a3 a4 a5 a6 W' := by
  obtain ⟨b0, b1, b2, b3, b4, b5, b6⟩ := h
  exact ⟨hc.cell b0 hn, hc.cell b1 hn, hc.cell b2 hn, hc.cell b3 hn, hc.cell b4 hn, hc.cell b5 hn, hc.cell b6 hn⟩
theorem getD_in {cl : List Int} (h : ∀ c ∈ cl, -9223372036854775808 ≤ c ∧ c ≤ 9223372036854775807) (i : Nat) : -9223372036854775808 ≤ cl.getD i 0 ∧ cl.getD i 0 ≤ 9223372036854775807 := by
  rcases Nat.lt_or_ge i cl.length with hi | hi
  · rw [List.getD_eq_getElem?_getD, List.getElem?_eq_getElem hi]
    exact h _ (List.getElem_mem hi)
  · rw [List.getD_eq_getElem?_getD, List.getElem?_eq_none hi]
    exact ⟨by decide, by decide⟩
theorem cfgF_ok (cl : List Int) : cfgOk (cfgF cl) = true := by
  have a := pickF_lo (cl.getD 0 0) 64 (by omega); have a' := pickF_hi (cl.getD 0 0) 64 (by omega)
  have b := pickF_lo (cl.getD 1 0) 200 (by omega); have b' := pickF_hi (cl.getD 1 0) 200 (by omega)
  have c := pickF_lo (cl.getD 2 0) 30 (by omega); have c' := pickF_hi (cl.getD 2 0) 30 (by omega)
  have d := pickF_lo (cl.getD 3 0) 40 (by omega); have d' := pickF_hi (cl.getD 3 0) 40 (by omega)
  have e := pickF_lo (cl.getD 4 0) 400 (by omega); have e' := pickF_hi (cl.getD 4 0) 400 (by omega)
  have f := pickF_lo (cl.getD 5 0) 30 (by omega); have f' := pickF_hi (cl.getD 5 0) 30 (by omega)
  have g := pickF_lo (cl.getD 6 0) 5 (by omega); have g' := pickF_hi (cl.getD 6 0) 5 (by omega)
  unfold cfgOk cfgF
  refine decide_eq_true ?_
  simp only
  omega
/-- the list of seven numbers, the first k of them taken over; the box of the answer -/
structure CfR (w : World) (cl : List Int) (k : Nat) (W : World) : Prop where
  bel : Below w.heap.size w W
  c : ∀ j, j < 7 → W.cell? ⟨w.heap.size + 1, j, none⟩ = some (.int .i64 (if j < k then cl.getD j 0 else 0))
  z : ∀ j, j < 7 → W.cell? ⟨w.heap.size, j, none⟩ = some (.int .i64 0)
  f : ∀ o, W.frozen? ⟨w.heap.size + 1, o, none⟩ = false ∧ W.frozen? ⟨w.heap.size, o, none⟩ = false
theorem CfR.step {w W : World} {cl : List Int} {k : Nat} (h : CfR w cl k W) (hk : k < 7) : CfR w cl (k + 1) (W.setCell ⟨w.heap.size + 1, k, none⟩ (.int .i64 (cl.getD k 0))) := by
  refine ⟨h.bel.setCell (p := ⟨w.heap.size + 1, k, none⟩) (by simp) _, fun j hj => ?_, fun j hj => ?_, fun o => ?_⟩
  · by_cases e : j = k
    · subst e
      rw [if_pos (by omega)]
      exact World.cell?_setCell_same _ _ _ (h.c j hj)
    · rw [World.cell?_setCell_other _ _ _ _ (fun e' => e (by injection e' with _ e2 _; exact e2.symm)), h.c j hj]
      by_cases hjk : j < k
      · rw [if_pos hjk, if_pos (by omega)]
      · rw [if_neg hjk, if_neg (by omega)]
  · rw [World.cell?_setCell_other _ _ _ _ (fun e' => by injection e' with e2 _ _; omega)]
    exact h.z j hj
  · rw [World.frozen?_setCell, World.frozen?_setCell]
    exact h.f o
end Pk
open Pk

set_option maxRecDepth 20000 in
set_option maxHeartbeats 8000000 in
theorem config_any (cv : Value) (cl : List Int) (w : World) (hv : IsInts w.heap.size w cv cl) (hin : ∀ c ∈ cl, -9223372036854775808 ≤ c ∧ c ≤ 9223372036854775807) (_hl : cl.length ≤ maxLen) :
    Calls Try.prog 29 #[cv] w fun e w' => e = .returned (.agg #[.int .i64 (cfgF cl).ring, .int .i64 (cfgF cl).window, .int .i64 (cfgF cl).delay, .int .i64 (cfgF cl).rate, .int .i64 (cfgF cl).burst, .int .i64 (cfgF cl).retry, .int .i64 (cfgF cl).tries]) ∧ Below w.heap.size w w' := by
  obtain ⟨ao, cap, rfl, hc⟩ := hv
  have Hc : Hid (∀ j, j < cl.length → ∃ b off, ao = some ⟨b, off, none⟩ ∧ b < w.heap.size ∧ w.cell? ⟨b, off + j, none⟩ = some (.int .i64 (cl.getD j 0))) := hc
  have Hin : Hid (∀ c ∈ cl, -9223372036854775808 ≤ c ∧ c ≤ 9223372036854775807) := hin
  unfold maxLen at _hl
  have HR0 : Hid (CfR w cl 0 ((w.alloc (.cells #[.int .i64 0, .int .i64 0, .int .i64 0, .int .i64 0, .int .i64 0, .int .i64 0, .int .i64 0] 63)).alloc (.cells #[.int .i64 0, .int .i64 0, .int .i64 0, .int .i64 0, .int .i64 0, .int .i64 0, .int .i64 0] 3))) := by
    have e7 : ∀ j, j < 7 → (#[.int .i64 0, .int .i64 0, .int .i64 0, .int .i64 0, .int .i64 0, .int .i64 0, .int .i64 0] : Array Value)[j]? = some (.int .i64 0) := fun j hj => by
      match j, hj with
      | 0, _ => rfl
      | 1, _ => rfl
      | 2, _ => rfl
      | 3, _ => rfl
      | 4, _ => rfl
      | 5, _ => rfl
      | 6, _ => rfl
    refine ⟨((Below.refl _ _).alloc (Nat.le_refl _) _).alloc (by simp) _, fun j hj => ?_, fun j hj => ?_, fun o => ⟨?_, ?_⟩⟩
    · rw [if_neg (by omega)]
      have h := cell_new (w.alloc (.cells #[.int .i64 0, .int .i64 0, .int .i64 0, .int .i64 0, .int .i64 0, .int .i64 0, .int .i64 0] 63)) #[.int .i64 0, .int .i64 0, .int .i64 0, .int .i64 0, .int .i64 0, .int .i64 0, .int .i64 0] 3 j
      rw [World.size_alloc] at h
      exact h.trans (e7 j hj)
    · exact (World.cell?_alloc_lt _ _ _ (by simp)).trans ((cell_new _ _ _ j).trans (e7 j hj))
    · have h := frozen_new (w.alloc (.cells #[.int .i64 0, .int .i64 0, .int .i64 0, .int .i64 0, .int .i64 0, .int .i64 0, .int .i64 0] 63)) #[.int .i64 0, .int .i64 0, .int .i64 0, .int .i64 0, .int .i64 0, .int .i64 0, .int .i64 0] 3 o
      rw [World.size_alloc] at h
      exact h
    · exact (((Below.refl (w.heap.size + 1) (w.alloc (.cells #[.int .i64 0, .int .i64 0, .int .i64 0, .int .i64 0, .int .i64 0, .int .i64 0, .int .i64 0] 63))).alloc (by simp) _).frozen (p := ⟨w.heap.size, o, none⟩) (by simp)).trans (frozen_new _ _ _ o)
  clear hc hin
  go_enter Try.func29, Try.ntmps29
  go_wp2
  go_loopw [4] (fun s4 wr => ∃ k : Nat, k ≤ 7 ∧ k ≤ cl.length ∧ s4 = .int .i64 k ∧ CfR w cl k wr) (fun s4 _ => 7 - (intOf s4).toNat)
  case atStart => exact ⟨0, by omega, Nat.zero_le _, rfl, HR0.out⟩
  case round =>
    obtain ⟨k, hk7, hkl, rfl, hR⟩ := hrel
    have HR : Hid (CfR w cl k wr) := hR
    clear hR
    by_cases hgo : k < 7 ∧ k < cl.length
    · have h1 : (k : Int) < 7 := by omega
      have h2 : (k : Int) < cl.length := by omega
      obtain ⟨b, off, rfl, hb, hcell⟩ := Hc.out k hgo.2
      have d0 : wr.cell? ⟨b, off + k, none⟩ = some (.int .i64 (cl.getD k 0)) := (HR.out.bel.cell (p := ⟨b, off + k, none⟩) hb).trans hcell
      have d1 := HR.out.c k hgo.1
      have df : wr.frozen? ⟨w.heap.size + 1, k, none⟩ = false := (HR.out.f k).1
      have HR' : Hid (CfR w cl (k + 1) (wr.setCell ⟨w.heap.size + 1, k, none⟩ (.int .i64 (cl.getD k 0)))) := HR.out.step hgo.1
      have hk7' := hgo.1
      have hkl' := hgo.2
      clear hcell hgo
      generalize cl.getD k 0 = ck at *
      go_wp2
      go_roundw
      case rel => exact ⟨k + 1, by omega, by omega, by go_num, HR'.out⟩
      case measure => simp [intOf]; omega
    · have hh : ∀ j, j < 7 → wr.cell? ⟨w.heap.size + 1, j, none⟩ = some (.int .i64 (cl.getD j 0)) := fun j hj => by
        rw [HR.out.c j hj]
        by_cases hjk : j < k
        · rw [if_pos hjk]
        · rw [if_neg hjk, List.getD_eq_getElem?_getD, List.getElem?_eq_none (by omega)]
          rfl
      have hg : ∀ i, -9223372036854775808 ≤ cl.getD i 0 ∧ cl.getD i 0 ≤ 9223372036854775807 := getD_in Hin.out
      obtain ⟨a0, e0⟩ : ∃ a, cl.getD 0 0 = a := ⟨_, rfl⟩
      have s0 := hh 0 (by omega)
      have r0 := hg 0
      have m0 := pickF_lo a0 64 (by omega)
      have n0 := pickF_hi a0 64 (by omega)
      obtain ⟨p0, hp0⟩ : ∃ q, pickF a0 64 = q := ⟨_, rfl⟩
      have Hp0 : Hid (pickF a0 64 = p0) := hp0
      rw [hp0] at m0 n0
      obtain ⟨a1, e1⟩ : ∃ a, cl.getD 1 0 = a := ⟨_, rfl⟩
      have s1 := hh 1 (by omega)
      have r1 := hg 1
      have m1 := pickF_lo a1 200 (by omega)
      have n1 := pickF_hi a1 200 (by omega)
      obtain ⟨p1, hp1⟩ : ∃ q, pickF a1 200 = q := ⟨_, rfl⟩
      have Hp1 : Hid (pickF a1 200 = p1) := hp1
      rw [hp1] at m1 n1
      obtain ⟨a2, e2⟩ : ∃ a, cl.getD 2 0 = a := ⟨_, rfl⟩
      have s2 := hh 2 (by omega)
      have r2 := hg 2
      have m2 := pickF_lo a2 30 (by omega)
      have n2 := pickF_hi a2 30 (by omega)
      obtain ⟨p2, hp2⟩ : ∃ q, pickF a2 30 = q := ⟨_, rfl⟩
      have Hp2 : Hid (pickF a2 30 = p2) := hp2
      rw [hp2] at m2 n2
      obtain ⟨a3, e3⟩ : ∃ a, cl.getD 3 0 = a := ⟨_, rfl⟩
      have s3 := hh 3 (by omega)
      have r3 := hg 3
      have m3 := pickF_lo a3 40 (by omega)
      have n3 := pickF_hi a3 40 (by omega)
      obtain ⟨p3, hp3⟩ : ∃ q, pickF a3 40 = q := ⟨_, rfl⟩
      have Hp3 : Hid (pickF a3 40 = p3) := hp3
      rw [hp3] at m3 n3
      obtain ⟨a4, e4⟩ : ∃ a, cl.getD 4 0 = a := ⟨_, rfl⟩
      have s4 := hh 4 (by omega)
      have r4 := hg 4
      have m4 := pickF_lo a4 400 (by omega)
      have n4 := pickF_hi a4 400 (by omega)
      obtain ⟨p4, hp4⟩ : ∃ q, pickF a4 400 = q := ⟨_, rfl⟩
      have Hp4 : Hid (pickF a4 400 = p4) := hp4
      rw [hp4] at m4 n4
      obtain ⟨a5, e5⟩ : ∃ a, cl.getD 5 0 = a := ⟨_, rfl⟩
      have s5 := hh 5 (by omega)
      have r5 := hg 5
      have m5 := pickF_lo a5 30 (by omega)
      have n5 := pickF_hi a5 30 (by omega)
      obtain ⟨p5, hp5⟩ : ∃ q, pickF a5 30 = q := ⟨_, rfl⟩
      have Hp5 : Hid (pickF a5 30 = p5) := hp5
      rw [hp5] at m5 n5
      obtain ⟨a6, e6⟩ : ∃ a, cl.getD 6 0 = a := ⟨_, rfl⟩
      have s6 := hh 6 (by omega)
      have r6 := hg 6
      have m6 := pickF_lo a6 5 (by omega)
      have n6 := pickF_hi a6 5 (by omega)
      obtain ⟨p6, hp6⟩ : ∃ q, pickF a6 5 = q := ⟨_, rfl⟩
      have Hp6 : Hid (pickF a6 5 = p6) := hp6
      rw [hp6] at m6 n6
      have HCf : Hid (cfgF cl = ⟨1 + p0, 1 + p1, p2, p3, p4, 1 + p5, p6⟩) := by
        show _ = _
        unfold cfgF
        rw [e0, e1, e2, e3, e4, e5, e6, hp0, hp1, hp2, hp3, hp4, hp5, hp6]
      rw [e0] at s0 r0
      rw [e1] at s1 r1
      rw [e2] at s2 r2
      rw [e3] at s3 r3
      rw [e4] at s4 r4
      rw [e5] at s5 r5
      rw [e6] at s6 r6
      have HS : Hid (CfS (w.heap.size + 1) a0 a1 a2 a3 a4 a5 a6 wr) := ⟨s0, s1, s2, s3, s4, s5, s6⟩
      have u0 : IntKind.i64.wrap (1 + p0) = 1 + p0 := i64_id _ (by omega) (by omega)
      have u1 : IntKind.i64.wrap (1 + p1) = 1 + p1 := i64_id _ (by omega) (by omega)
      have u5 : IntKind.i64.wrap (1 + p5) = 1 + p5 := i64_id _ (by omega) (by omega)
      clear hh hg e0 e1 e2 e3 e4 e5 e6 hp0 hp1 hp2 hp3 hp4 hp5 hp6 s0 s1 s2 s3 s4 s5 s6
      have z0 := HR.out.z 0 (by omega)
      have z1 := HR.out.z 1 (by omega)
      have z2 := HR.out.z 2 (by omega)
      have z3 := HR.out.z 3 (by omega)
      have z4 := HR.out.z 4 (by omega)
      have z5 := HR.out.z 5 (by omega)
      have z6 := HR.out.z 6 (by omega)
      have zf : ∀ o, wr.frozen? ⟨w.heap.size, o, none⟩ = false := fun o => (HR.out.f o).2
      obtain ⟨W9, hW9⟩ : ∃ W9, setAll wr w.heap.size [.int .i64 (1 + p0), .int .i64 (1 + p1), .int .i64 p2, .int .i64 p3, .int .i64 p4, .int .i64 (1 + p5), .int .i64 p6] 0 = W9 := ⟨_, rfl⟩
      have HE9 : Hid ((((((((wr.setCell ⟨w.heap.size, 0, none⟩ (.int .i64 (1 + p0))).setCell ⟨w.heap.size, 1, none⟩ (.int .i64 (1 + p1))).setCell ⟨w.heap.size, 2, none⟩ (.int .i64 p2)).setCell ⟨w.heap.size, 3, none⟩ (.int .i64 p3)).setCell ⟨w.heap.size, 4, none⟩ (.int .i64 p4)).setCell ⟨w.heap.size, 5, none⟩ (.int .i64 (1 + p5))).setCell ⟨w.heap.size, 6, none⟩ (.int .i64 p6)) = W9) := (chain7 wr w.heap.size _ _ _ _ _ _ _).trans hW9
      have HC9 : Hid (CfS (w.heap.size + 1) a0 a1 a2 a3 a4 a5 a6 W9.drew) := by
        rw [← hW9]
        exact CfS.chg HS.out (setAll_chg w.heap.size [.int .i64 (1 + p0), .int .i64 (1 + p1), .int .i64 p2, .int .i64 p3, .int .i64 p4, .int .i64 (1 + p5), .int .i64 p6] wr 0).drew (by omega)
      have Hb9 : Hid (Below w.heap.size w W9.drew) := by
        rw [← hW9]
        exact HR.out.bel.trans (((setAll_chg w.heap.size [.int .i64 (1 + p0), .int .i64 (1 + p1), .int .i64 p2, .int .i64 p3, .int .i64 p4, .int .i64 (1 + p5), .int .i64 p6] wr 0).drew).below HR.out.bel.size (fun x e => by omega))
      have Hc9 : Hid (∀ (i : Nat) (u : Value), ([.int .i64 (1 + p0), .int .i64 (1 + p1), .int .i64 p2, .int .i64 p3, .int .i64 p4, .int .i64 (1 + p5), .int .i64 p6] : List Value)[i]? = some u → W9.drew.cell? ⟨w.heap.size, i, none⟩ = some u) := by
        subst hW9
        exact setAll_cell0 w.heap.size _ wr (fun j hj => ⟨_, HR.out.z j hj⟩)
      clear hW9
      by_cases h1 : (k : Int) < 7
      · have h2 : ¬ (k : Int) < cl.length := by omega
        clear hgo
        go_wp2
        refine wp_region_noPanic ?_
        refine wp_region_held_drew (S := CfS (w.heap.size + 1) a0 a1 a2 a3 a4 a5 a6) (by kernel_rfl) HS.out (fun hHeld => ?_)
        refine wpAnyH_take (i := 0) (v := ?vt1) rfl (by kernel_rfl) (by kernel_rfl) (by kernel_rfl) (fun _ _ _ h => h) (Or.inl ⟨by rfl, ?yt1⟩) hHeld ?rt1
        case yt1 => ((intro W hSw; obtain ⟨hS0, hS1, hS2, hS3, hS4, hS5, hS6⟩ := hSw; go_simp) <;> with_reducible rfl)
        try simp only [Act.put]
        try simp only [List.getElem_toArray]
        try simp only [List.getElem_cons_succ]
        try simp only [List.getElem_cons_zero]
        try simp only [List.setIfInBounds_toArray]
        try simp only [List.set_cons_succ]
        try simp only [List.set_cons_zero]
        refine wpAnyH_take (i := 1) (v := ?vt2) rfl (by kernel_rfl) (by kernel_rfl) (by kernel_rfl) (fun _ _ _ h => h) (Or.inl ⟨by rfl, ?yt2⟩) hHeld ?rt2
        case yt2 => ((intro W hSw; obtain ⟨hS0, hS1, hS2, hS3, hS4, hS5, hS6⟩ := hSw; go_simp) <;> with_reducible rfl)
        try simp only [Act.put]
        try simp only [List.getElem_toArray]
        try simp only [List.getElem_cons_succ]
        try simp only [List.getElem_cons_zero]
        try simp only [List.setIfInBounds_toArray]
        try simp only [List.set_cons_succ]
        try simp only [List.set_cons_zero]
        refine wpAnyH_take (i := 2) (v := ?vt3) rfl (by kernel_rfl) (by kernel_rfl) (by kernel_rfl) (fun _ _ _ h => h) (Or.inl ⟨by rfl, ?yt3⟩) hHeld ?rt3
        case yt3 => ((intro W hSw; obtain ⟨hS0, hS1, hS2, hS3, hS4, hS5, hS6⟩ := hSw; go_simp) <;> with_reducible rfl)
        try simp only [Act.put]
        try simp only [List.getElem_toArray]
        try simp only [List.getElem_cons_succ]
        try simp only [List.getElem_cons_zero]
        try simp only [List.setIfInBounds_toArray]
        try simp only [List.set_cons_succ]
        try simp only [List.set_cons_zero]
        refine wpAnyH_take (i := 5) (v := ?vt4) rfl (by kernel_rfl) (by kernel_rfl) (by kernel_rfl) (fun _ _ _ h => h) (Or.inl ⟨by rfl, ?yt4⟩) hHeld ?rt4
        case yt4 => ((intro W hSw; obtain ⟨hS0, hS1, hS2, hS3, hS4, hS5, hS6⟩ := hSw; go_simp) <;> with_reducible rfl)
        try simp only [Act.put]
        try simp only [List.getElem_toArray]
        try simp only [List.getElem_cons_succ]
        try simp only [List.getElem_cons_zero]
        try simp only [List.setIfInBounds_toArray]
        try simp only [List.set_cons_succ]
        try simp only [List.set_cons_zero]
        refine wpAnyH_take (i := 6) (v := ?vt5) rfl (by kernel_rfl) (by kernel_rfl) (by kernel_rfl) (fun _ _ _ h => h) (Or.inl ⟨by rfl, ?yt5⟩) hHeld ?rt5
        case yt5 => ((intro W hSw; obtain ⟨hS0, hS1, hS2, hS3, hS4, hS5, hS6⟩ := hSw; go_simp) <;> with_reducible rfl)
        try simp only [Act.put]
        try simp only [List.getElem_toArray]
        try simp only [List.getElem_cons_succ]
        try simp only [List.getElem_cons_zero]
        try simp only [List.setIfInBounds_toArray]
        try simp only [List.set_cons_succ]
        try simp only [List.set_cons_zero]
        refine wpAnyH_take (i := 7) (v := ?vt6) rfl (by kernel_rfl) (by kernel_rfl) (by kernel_rfl) (fun _ _ _ h => h) (Or.inl ⟨by rfl, ?yt6⟩) hHeld ?rt6
        case yt6 => ((intro W hSw; obtain ⟨hS0, hS1, hS2, hS3, hS4, hS5, hS6⟩ := hSw; go_simp) <;> with_reducible rfl)
        try simp only [Act.put]
        try simp only [List.getElem_toArray]
        try simp only [List.getElem_cons_succ]
        try simp only [List.getElem_cons_zero]
        try simp only [List.setIfInBounds_toArray]
        try simp only [List.set_cons_succ]
        try simp only [List.set_cons_zero]
        refine wpAnyH_take (i := 10) (v := ?vt7) rfl (by kernel_rfl) (by kernel_rfl) (by kernel_rfl) (fun _ _ _ h => h) (Or.inl ⟨by rfl, ?yt7⟩) hHeld ?rt7
        case yt7 => ((intro W hSw; obtain ⟨hS0, hS1, hS2, hS3, hS4, hS5, hS6⟩ := hSw; go_simp) <;> with_reducible rfl)
        try simp only [Act.put]
        try simp only [List.getElem_toArray]
        try simp only [List.getElem_cons_succ]
        try simp only [List.getElem_cons_zero]
        try simp only [List.setIfInBounds_toArray]
        try simp only [List.set_cons_succ]
        try simp only [List.set_cons_zero]
        refine wpAnyH_take (i := 11) (v := ?vt8) rfl (by kernel_rfl) (by kernel_rfl) (by kernel_rfl) (fun _ _ _ h => h) (Or.inl ⟨by rfl, ?yt8⟩) hHeld ?rt8
        case yt8 => ((intro W hSw; obtain ⟨hS0, hS1, hS2, hS3, hS4, hS5, hS6⟩ := hSw; go_simp) <;> with_reducible rfl)
        try simp only [Act.put]
        try simp only [List.getElem_toArray]
        try simp only [List.getElem_cons_succ]
        try simp only [List.getElem_cons_zero]
        try simp only [List.setIfInBounds_toArray]
        try simp only [List.set_cons_succ]
        try simp only [List.set_cons_zero]
        refine wpAnyH_take (i := 12) (v := ?vt9) rfl (by kernel_rfl) (by kernel_rfl) (by kernel_rfl) (fun _ _ _ h => h) (Or.inl ⟨by rfl, ?yt9⟩) hHeld ?rt9
        case yt9 => ((intro W hSw; obtain ⟨hS0, hS1, hS2, hS3, hS4, hS5, hS6⟩ := hSw; go_simp) <;> with_reducible rfl)
        try simp only [Act.put]
        try simp only [List.getElem_toArray]
        try simp only [List.getElem_cons_succ]
        try simp only [List.getElem_cons_zero]
        try simp only [List.setIfInBounds_toArray]
        try simp only [List.set_cons_succ]
        try simp only [List.set_cons_zero]
        refine wpAnyH_take (i := 14) (v := ?vt10) rfl (by kernel_rfl) (by kernel_rfl) (by kernel_rfl) (fun _ _ _ h => h) (Or.inl ⟨by rfl, ?yt10⟩) hHeld ?rt10
        case yt10 => ((intro W hSw; obtain ⟨hS0, hS1, hS2, hS3, hS4, hS5, hS6⟩ := hSw; go_simp) <;> with_reducible rfl)
        try simp only [Act.put]
        try simp only [List.getElem_toArray]
        try simp only [List.getElem_cons_succ]
        try simp only [List.getElem_cons_zero]
        try simp only [List.setIfInBounds_toArray]
        try simp only [List.set_cons_succ]
        try simp only [List.set_cons_zero]
        refine wpAnyH_take (i := 15) (v := ?vt11) rfl (by kernel_rfl) (by kernel_rfl) (by kernel_rfl) (fun _ _ _ h => h) (Or.inl ⟨by rfl, ?yt11⟩) hHeld ?rt11
        case yt11 => ((intro W hSw; obtain ⟨hS0, hS1, hS2, hS3, hS4, hS5, hS6⟩ := hSw; go_simp) <;> with_reducible rfl)
        try simp only [Act.put]
        try simp only [List.getElem_toArray]
        try simp only [List.getElem_cons_succ]
        try simp only [List.getElem_cons_zero]
        try simp only [List.setIfInBounds_toArray]
        try simp only [List.set_cons_succ]
        try simp only [List.set_cons_zero]
        refine wpAnyH_take (i := 16) (v := ?vt12) rfl (by kernel_rfl) (by kernel_rfl) (by kernel_rfl) (fun _ _ _ h => h) (Or.inl ⟨by rfl, ?yt12⟩) hHeld ?rt12
        case yt12 => ((intro W hSw; obtain ⟨hS0, hS1, hS2, hS3, hS4, hS5, hS6⟩ := hSw; go_simp) <;> with_reducible rfl)
        try simp only [Act.put]
        try simp only [List.getElem_toArray]
        try simp only [List.getElem_cons_succ]
        try simp only [List.getElem_cons_zero]
        try simp only [List.setIfInBounds_toArray]
        try simp only [List.set_cons_succ]
        try simp only [List.set_cons_zero]
        refine wpAnyH_take (i := 18) (v := ?vt13) rfl (by kernel_rfl) (by kernel_rfl) (by kernel_rfl) (fun _ _ _ h => h) (Or.inl ⟨by rfl, ?yt13⟩) hHeld ?rt13
        case yt13 => ((intro W hSw; obtain ⟨hS0, hS1, hS2, hS3, hS4, hS5, hS6⟩ := hSw; go_simp) <;> with_reducible rfl)
        try simp only [Act.put]
        try simp only [List.getElem_toArray]
        try simp only [List.getElem_cons_succ]
        try simp only [List.getElem_cons_zero]
        try simp only [List.setIfInBounds_toArray]
        try simp only [List.set_cons_succ]
        try simp only [List.set_cons_zero]
        refine wpAnyH_take (i := 19) (v := ?vt14) rfl (by kernel_rfl) (by kernel_rfl) (by kernel_rfl) (fun _ _ _ h => h) (Or.inl ⟨by rfl, ?yt14⟩) hHeld ?rt14
        case yt14 => ((intro W hSw; obtain ⟨hS0, hS1, hS2, hS3, hS4, hS5, hS6⟩ := hSw; go_simp) <;> with_reducible rfl)
        try simp only [Act.put]
        try simp only [List.getElem_toArray]
        try simp only [List.getElem_cons_succ]
        try simp only [List.getElem_cons_zero]
        try simp only [List.setIfInBounds_toArray]
        try simp only [List.set_cons_succ]
        try simp only [List.set_cons_zero]
        refine wpAnyH_take (i := 20) (v := ?vt15) rfl (by kernel_rfl) (by kernel_rfl) (by kernel_rfl) (fun _ _ _ h => h) (Or.inl ⟨by rfl, ?yt15⟩) hHeld ?rt15
        case yt15 => ((intro W hSw; obtain ⟨hS0, hS1, hS2, hS3, hS4, hS5, hS6⟩ := hSw; go_simp) <;> with_reducible rfl)
        try simp only [Act.put]
        try simp only [List.getElem_toArray]
        try simp only [List.getElem_cons_succ]
        try simp only [List.getElem_cons_zero]
        try simp only [List.setIfInBounds_toArray]
        try simp only [List.set_cons_succ]
        try simp only [List.set_cons_zero]
        refine wpAnyH_take (i := 22) (v := ?vt16) rfl (by kernel_rfl) (by kernel_rfl) (by kernel_rfl) (fun _ _ _ h => h) (Or.inl ⟨by rfl, ?yt16⟩) hHeld ?rt16
        case yt16 => ((intro W hSw; obtain ⟨hS0, hS1, hS2, hS3, hS4, hS5, hS6⟩ := hSw; go_simp) <;> with_reducible rfl)
        try simp only [Act.put]
        try simp only [List.getElem_toArray]
        try simp only [List.getElem_cons_succ]
        try simp only [List.getElem_cons_zero]
        try simp only [List.setIfInBounds_toArray]
        try simp only [List.set_cons_succ]
        try simp only [List.set_cons_zero]
        refine wpAnyH_take (i := 23) (v := ?vt17) rfl (by kernel_rfl) (by kernel_rfl) (by kernel_rfl) (fun _ _ _ h => h) (Or.inl ⟨by rfl, ?yt17⟩) hHeld ?rt17
        case yt17 => ((intro W hSw; obtain ⟨hS0, hS1, hS2, hS3, hS4, hS5, hS6⟩ := hSw; go_simp) <;> with_reducible rfl)
        try simp only [Act.put]
        try simp only [List.getElem_toArray]
        try simp only [List.getElem_cons_succ]
        try simp only [List.getElem_cons_zero]
        try simp only [List.setIfInBounds_toArray]
        try simp only [List.set_cons_succ]
        try simp only [List.set_cons_zero]
        refine wpAnyH_take (i := 24) (v := ?vt18) rfl (by kernel_rfl) (by kernel_rfl) (by kernel_rfl) (fun _ _ _ h => h) (Or.inl ⟨by rfl, ?yt18⟩) hHeld ?rt18
        case yt18 => ((intro W hSw; obtain ⟨hS0, hS1, hS2, hS3, hS4, hS5, hS6⟩ := hSw; go_simp) <;> with_reducible rfl)
        try simp only [Act.put]
        try simp only [List.getElem_toArray]
        try simp only [List.getElem_cons_succ]
        try simp only [List.getElem_cons_zero]
        try simp only [List.setIfInBounds_toArray]
        try simp only [List.set_cons_succ]
        try simp only [List.set_cons_zero]
        refine wpAnyH_take (i := 27) (v := ?vt19) rfl (by kernel_rfl) (by kernel_rfl) (by kernel_rfl) (fun _ _ _ h => h) (Or.inl ⟨by rfl, ?yt19⟩) hHeld ?rt19
        case yt19 => ((intro W hSw; obtain ⟨hS0, hS1, hS2, hS3, hS4, hS5, hS6⟩ := hSw; go_simp) <;> with_reducible rfl)
        try simp only [Act.put]
        try simp only [List.getElem_toArray]
        try simp only [List.getElem_cons_succ]
        try simp only [List.getElem_cons_zero]
        try simp only [List.setIfInBounds_toArray]
        try simp only [List.set_cons_succ]
        try simp only [List.set_cons_zero]
        refine wpAnyH_take (i := 28) (v := ?vt20) rfl (by kernel_rfl) (by kernel_rfl) (by kernel_rfl) (fun _ _ _ h => h) (Or.inl ⟨by rfl, ?yt20⟩) hHeld ?rt20
        case yt20 => ((intro W hSw; obtain ⟨hS0, hS1, hS2, hS3, hS4, hS5, hS6⟩ := hSw; go_simp) <;> with_reducible rfl)
        try simp only [Act.put]
        try simp only [List.getElem_toArray]
        try simp only [List.getElem_cons_succ]
        try simp only [List.getElem_cons_zero]
        try simp only [List.setIfInBounds_toArray]
        try simp only [List.set_cons_succ]
        try simp only [List.set_cons_zero]
        refine wpAnyH_take (i := 29) (v := ?vt21) rfl (by kernel_rfl) (by kernel_rfl) (by kernel_rfl) (fun _ _ _ h => h) (Or.inl ⟨by rfl, ?yt21⟩) hHeld ?rt21
        case yt21 => ((intro W hSw; obtain ⟨hS0, hS1, hS2, hS3, hS4, hS5, hS6⟩ := hSw; go_simp) <;> with_reducible rfl)
        try simp only [Act.put]
        try simp only [List.getElem_toArray]
        try simp only [List.getElem_cons_succ]
        try simp only [List.getElem_cons_zero]
        try simp only [List.setIfInBounds_toArray]
        try simp only [List.set_cons_succ]
        try simp only [List.set_cons_zero]
        refine wpAnyH_ready (rs := [3]) (by kernel_rfl) (by simp) ?_
        refine AllReadyH.cons rfl (fun K hK => ?_) AllReadyH.nil
        go_simp
        refine (pick_any a0 64 _ r0.1 r0.2 (by omega) (by omega)).mono ?_
        rintro e w0' ⟨rfl, hw⟩
        rw [hw, Hp0.out]
        clear hw
        go_simp
        refine hK.out _ _ hHeld (fun hHeld => ?_)
        clear hK K
        try simp only [Act.put]
        try simp only [List.getElem_toArray]
        try simp only [List.getElem_cons_succ]
        try simp only [List.getElem_cons_zero]
        try simp only [List.setIfInBounds_toArray]
        try simp only [List.set_cons_succ]
        try simp only [List.set_cons_zero]
        refine wpAnyH_take (i := 4) (v := ?vt22) rfl (by kernel_rfl) (by kernel_rfl) (by kernel_rfl) (fun _ _ _ h => h) (Or.inl ⟨by rfl, ?yt22⟩) hHeld ?rt22
        case yt22 => ((intro W hSw; obtain ⟨hS0, hS1, hS2, hS3, hS4, hS5, hS6⟩ := hSw; go_simp) <;> with_reducible rfl)
        try simp only [Act.put]
        try simp only [List.getElem_toArray]
        try simp only [List.getElem_cons_succ]
        try simp only [List.getElem_cons_zero]
        try simp only [List.setIfInBounds_toArray]
        try simp only [List.set_cons_succ]
        try simp only [List.set_cons_zero]
        refine wpAnyH_ready (rs := [8]) (by kernel_rfl) (by simp) ?_
        refine AllReadyH.cons rfl (fun K hK => ?_) AllReadyH.nil
        go_simp
        refine (pick_any a1 200 _ r1.1 r1.2 (by omega) (by omega)).mono ?_
        rintro e w1' ⟨rfl, hw⟩
        rw [hw, Hp1.out]
        clear hw
        go_simp
        refine hK.out _ _ hHeld (fun hHeld => ?_)
        clear hK K
        try simp only [Act.put]
        try simp only [List.getElem_toArray]
        try simp only [List.getElem_cons_succ]
        try simp only [List.getElem_cons_zero]
        try simp only [List.setIfInBounds_toArray]
        try simp only [List.set_cons_succ]
        try simp only [List.set_cons_zero]
        refine wpAnyH_take (i := 9) (v := ?vt23) rfl (by kernel_rfl) (by kernel_rfl) (by kernel_rfl) (fun _ _ _ h => h) (Or.inl ⟨by rfl, ?yt23⟩) hHeld ?rt23
        case yt23 => ((intro W hSw; obtain ⟨hS0, hS1, hS2, hS3, hS4, hS5, hS6⟩ := hSw; go_simp) <;> with_reducible rfl)
        try simp only [Act.put]
        try simp only [List.getElem_toArray]
        try simp only [List.getElem_cons_succ]
        try simp only [List.getElem_cons_zero]
        try simp only [List.setIfInBounds_toArray]
        try simp only [List.set_cons_succ]
        try simp only [List.set_cons_zero]
        refine wpAnyH_ready (rs := [13]) (by kernel_rfl) (by simp) ?_
        refine AllReadyH.cons rfl (fun K hK => ?_) AllReadyH.nil
        go_simp
        refine (pick_any a2 30 _ r2.1 r2.2 (by omega) (by omega)).mono ?_
        rintro e w2' ⟨rfl, hw⟩
        rw [hw, Hp2.out]
        clear hw
        go_simp
        refine hK.out _ _ hHeld (fun hHeld => ?_)
        clear hK K
        try simp only [Act.put]
        try simp only [List.getElem_toArray]
        try simp only [List.getElem_cons_succ]
        try simp only [List.getElem_cons_zero]
        try simp only [List.setIfInBounds_toArray]
        try simp only [List.set_cons_succ]
        try simp only [List.set_cons_zero]
        refine wpAnyH_ready (rs := [17]) (by kernel_rfl) (by simp) ?_
        refine AllReadyH.cons rfl (fun K hK => ?_) AllReadyH.nil
        go_simp
        refine (pick_any a3 40 _ r3.1 r3.2 (by omega) (by omega)).mono ?_
        rintro e w3' ⟨rfl, hw⟩
        rw [hw, Hp3.out]
        clear hw
        go_simp
        refine hK.out _ _ hHeld (fun hHeld => ?_)
        clear hK K
        try simp only [Act.put]
        try simp only [List.getElem_toArray]
        try simp only [List.getElem_cons_succ]
        try simp only [List.getElem_cons_zero]
        try simp only [List.setIfInBounds_toArray]
        try simp only [List.set_cons_succ]
        try simp only [List.set_cons_zero]
        refine wpAnyH_ready (rs := [21]) (by kernel_rfl) (by simp) ?_
        refine AllReadyH.cons rfl (fun K hK => ?_) AllReadyH.nil
        go_simp
        refine (pick_any a4 400 _ r4.1 r4.2 (by omega) (by omega)).mono ?_
        rintro e w4' ⟨rfl, hw⟩
        rw [hw, Hp4.out]
        clear hw
        go_simp
        refine hK.out _ _ hHeld (fun hHeld => ?_)
        clear hK K
        try simp only [Act.put]
        try simp only [List.getElem_toArray]
        try simp only [List.getElem_cons_succ]
        try simp only [List.getElem_cons_zero]
        try simp only [List.setIfInBounds_toArray]
        try simp only [List.set_cons_succ]
        try simp only [List.set_cons_zero]
        refine wpAnyH_ready (rs := [25]) (by kernel_rfl) (by simp) ?_
        refine AllReadyH.cons rfl (fun K hK => ?_) AllReadyH.nil
        go_simp
        refine (pick_any a5 30 _ r5.1 r5.2 (by omega) (by omega)).mono ?_
        rintro e w5' ⟨rfl, hw⟩
        rw [hw, Hp5.out]
        clear hw
        go_simp
        refine hK.out _ _ hHeld (fun hHeld => ?_)
        clear hK K
        try simp only [Act.put]
        try simp only [List.getElem_toArray]
        try simp only [List.getElem_cons_succ]
        try simp only [List.getElem_cons_zero]
        try simp only [List.setIfInBounds_toArray]
        try simp only [List.set_cons_succ]
        try simp only [List.set_cons_zero]
        refine wpAnyH_take (i := 26) (v := ?vt24) rfl (by kernel_rfl) (by kernel_rfl) (by kernel_rfl) (fun _ _ _ h => h) (Or.inl ⟨by rfl, ?yt24⟩) hHeld ?rt24
        case yt24 => ((intro W hSw; obtain ⟨hS0, hS1, hS2, hS3, hS4, hS5, hS6⟩ := hSw; go_simp) <;> with_reducible rfl)
        try simp only [Act.put]
        try simp only [List.getElem_toArray]
        try simp only [List.getElem_cons_succ]
        try simp only [List.getElem_cons_zero]
        try simp only [List.setIfInBounds_toArray]
        try simp only [List.set_cons_succ]
        try simp only [List.set_cons_zero]
        refine wpAnyH_ready (rs := [30]) (by kernel_rfl) (by simp) ?_
        refine AllReadyH.cons rfl (fun K hK => ?_) AllReadyH.nil
        go_simp
        refine (pick_any a6 5 _ r6.1 r6.2 (by omega) (by omega)).mono ?_
        rintro e w6' ⟨rfl, hw⟩
        rw [hw, Hp6.out]
        clear hw
        go_simp
        refine hK.out _ _ hHeld (fun hHeld => ?_)
        clear hK K
        try simp only [Act.put]
        try simp only [List.getElem_toArray]
        try simp only [List.getElem_cons_succ]
        try simp only [List.getElem_cons_zero]
        try simp only [List.setIfInBounds_toArray]
        try simp only [List.set_cons_succ]
        try simp only [List.set_cons_zero]
        refine wpAnyH_take (i := 31) (v := ?vt25) rfl (by kernel_rfl) (by kernel_rfl) (by kernel_rfl) (fun _ _ _ h => h) (Or.inl ⟨by rfl, ?yt25⟩) hHeld ?rt25
        case yt25 => ((intro W hSw; obtain ⟨hS0, hS1, hS2, hS3, hS4, hS5, hS6⟩ := hSw; go_simp) <;> with_reducible rfl)
        try simp only [Act.put]
        try simp only [List.getElem_toArray]
        try simp only [List.getElem_cons_succ]
        try simp only [List.getElem_cons_zero]
        try simp only [List.setIfInBounds_toArray]
        try simp only [List.set_cons_succ]
        try simp only [List.set_cons_zero]
        refine wpAnyH_ready (rs := [32]) (by kernel_rfl) (by simp) ?_
        refine AllReadyH.cons rfl (fun K hK => ?_) AllReadyH.nil
        go_simp
        rw [HE9.out]
        refine hK.out _ _ HC9.out (fun hHeld => ?_)
        clear hK K
        refine wpAnyH_done (by kernel_rfl) ?_ _
        refine NoPanic.normal ?_
        clear hHeld HE9 HS z0 z1 z2 z3 z4 z5 z6 zf
        have g0 := Hc9.out 0 _ rfl
        have g1 := Hc9.out 1 _ rfl
        have g2 := Hc9.out 2 _ rfl
        have g3 := Hc9.out 3 _ rfl
        have g4 := Hc9.out 4 _ rfl
        have g5 := Hc9.out 5 _ rfl
        have g6 := Hc9.out 6 _ rfl
        generalize W9.drew = W8 at *
        go_wp2
        refine bodyPost_ret (v := .agg #[.int .i64 (1 + p0), .int .i64 (1 + p1), .int .i64 p2, .int .i64 p3, .int .i64 p4, .int .i64 (1 + p5), .int .i64 p6]) (by simp [results, Try.results29, go_sem, g0, g1, g2, g3, g4, g5, g6]) rfl ⟨?_, Hb9.out⟩
        rw [HCf.out]
      · clear hgo
        go_wp2
        refine wp_region_noPanic ?_
        refine wp_region_held_drew (S := CfS (w.heap.size + 1) a0 a1 a2 a3 a4 a5 a6) (by kernel_rfl) HS.out (fun hHeld => ?_)
        refine wpAnyH_take (i := 0) (v := ?vt26) rfl (by kernel_rfl) (by kernel_rfl) (by kernel_rfl) (fun _ _ _ h => h) (Or.inl ⟨by rfl, ?yt26⟩) hHeld ?rt26
        case yt26 => ((intro W hSw; obtain ⟨hS0, hS1, hS2, hS3, hS4, hS5, hS6⟩ := hSw; go_simp) <;> with_reducible rfl)
        try simp only [Act.put]
        try simp only [List.getElem_toArray]
        try simp only [List.getElem_cons_succ]
        try simp only [List.getElem_cons_zero]
        try simp only [List.setIfInBounds_toArray]
        try simp only [List.set_cons_succ]
        try simp only [List.set_cons_zero]
        refine wpAnyH_take (i := 1) (v := ?vt27) rfl (by kernel_rfl) (by kernel_rfl) (by kernel_rfl) (fun _ _ _ h => h) (Or.inl ⟨by rfl, ?yt27⟩) hHeld ?rt27
        case yt27 => ((intro W hSw; obtain ⟨hS0, hS1, hS2, hS3, hS4, hS5, hS6⟩ := hSw; go_simp) <;> with_reducible rfl)
        try simp only [Act.put]
        try simp only [List.getElem_toArray]
        try simp only [List.getElem_cons_succ]
        try simp only [List.getElem_cons_zero]
        try simp only [List.setIfInBounds_toArray]
        try simp only [List.set_cons_succ]
        try simp only [List.set_cons_zero]
        refine wpAnyH_take (i := 2) (v := ?vt28) rfl (by kernel_rfl) (by kernel_rfl) (by kernel_rfl) (fun _ _ _ h => h) (Or.inl ⟨by rfl, ?yt28⟩) hHeld ?rt28
        case yt28 => ((intro W hSw; obtain ⟨hS0, hS1, hS2, hS3, hS4, hS5, hS6⟩ := hSw; go_simp) <;> with_reducible rfl)
        try simp only [Act.put]
        try simp only [List.getElem_toArray]
        try simp only [List.getElem_cons_succ]
        try simp only [List.getElem_cons_zero]
        try simp only [List.setIfInBounds_toArray]
        try simp only [List.set_cons_succ]
        try simp only [List.set_cons_zero]
        refine wpAnyH_take (i := 5) (v := ?vt29) rfl (by kernel_rfl) (by kernel_rfl) (by kernel_rfl) (fun _ _ _ h => h) (Or.inl ⟨by rfl, ?yt29⟩) hHeld ?rt29
        case yt29 => ((intro W hSw; obtain ⟨hS0, hS1, hS2, hS3, hS4, hS5, hS6⟩ := hSw; go_simp) <;> with_reducible rfl)
        try simp only [Act.put]
        try simp only [List.getElem_toArray]
        try simp only [List.getElem_cons_succ]
        try simp only [List.getElem_cons_zero]
        try simp only [List.setIfInBounds_toArray]
        try simp only [List.set_cons_succ]
        try simp only [List.set_cons_zero]
        refine wpAnyH_take (i := 6) (v := ?vt30) rfl (by kernel_rfl) (by kernel_rfl) (by kernel_rfl) (fun _ _ _ h => h) (Or.inl ⟨by rfl, ?yt30⟩) hHeld ?rt30
        case yt30 => ((intro W hSw; obtain ⟨hS0, hS1, hS2, hS3, hS4, hS5, hS6⟩ := hSw; go_simp) <;> with_reducible rfl)
        try simp only [Act.put]
        try simp only [List.getElem_toArray]
        try simp only [List.getElem_cons_succ]
        try simp only [List.getElem_cons_zero]
        try simp only [List.setIfInBounds_toArray]
        try simp only [List.set_cons_succ]
        try simp only [List.set_cons_zero]
        refine wpAnyH_take (i := 7) (v := ?vt31) rfl (by kernel_rfl) (by kernel_rfl) (by kernel_rfl) (fun _ _ _ h => h) (Or.inl ⟨by rfl, ?yt31⟩) hHeld ?rt31
        case yt31 => ((intro W hSw; obtain ⟨hS0, hS1, hS2, hS3, hS4, hS5, hS6⟩ := hSw; go_simp) <;> with_reducible rfl)
        try simp only [Act.put]
        try simp only [List.getElem_toArray]
        try simp only [List.getElem_cons_succ]
        try simp only [List.getElem_cons_zero]
        try simp only [List.setIfInBounds_toArray]
        try simp only [List.set_cons_succ]
        try simp only [List.set_cons_zero]
        refine wpAnyH_take (i := 10) (v := ?vt32) rfl (by kernel_rfl) (by kernel_rfl) (by kernel_rfl) (fun _ _ _ h => h) (Or.inl ⟨by rfl, ?yt32⟩) hHeld ?rt32
        case yt32 => ((intro W hSw; obtain ⟨hS0, hS1, hS2, hS3, hS4, hS5, hS6⟩ := hSw; go_simp) <;> with_reducible rfl)
        try simp only [Act.put]
        try simp only [List.getElem_toArray]
        try simp only [List.getElem_cons_succ]
        try simp only [List.getElem_cons_zero]
        try simp only [List.setIfInBounds_toArray]
        try simp only [List.set_cons_succ]
        try simp only [List.set_cons_zero]
        refine wpAnyH_take (i := 11) (v := ?vt33) rfl (by kernel_rfl) (by kernel_rfl) (by kernel_rfl) (fun _ _ _ h => h) (Or.inl ⟨by rfl, ?yt33⟩) hHeld ?rt33
        case yt33 => ((intro W hSw; obtain ⟨hS0, hS1, hS2, hS3, hS4, hS5, hS6⟩ := hSw; go_simp) <;> with_reducible rfl)
        try simp only [Act.put]
        try simp only [List.getElem_toArray]
        try simp only [List.getElem_cons_succ]
        try simp only [List.getElem_cons_zero]
        try simp only [List.setIfInBounds_toArray]
        try simp only [List.set_cons_succ]
        try simp only [List.set_cons_zero]
        refine wpAnyH_take (i := 12) (v := ?vt34) rfl (by kernel_rfl) (by kernel_rfl) (by kernel_rfl) (fun _ _ _ h => h) (Or.inl ⟨by rfl, ?yt34⟩) hHeld ?rt34
        case yt34 => ((intro W hSw; obtain ⟨hS0, hS1, hS2, hS3, hS4, hS5, hS6⟩ := hSw; go_simp) <;> with_reducible rfl)
        try simp only [Act.put]
        try simp only [List.getElem_toArray]
        try simp only [List.getElem_cons_succ]
        try simp only [List.getElem_cons_zero]
        try simp only [List.setIfInBounds_toArray]
        try simp only [List.set_cons_succ]
        try simp only [List.set_cons_zero]
        refine wpAnyH_take (i := 14) (v := ?vt35) rfl (by kernel_rfl) (by kernel_rfl) (by kernel_rfl) (fun _ _ _ h => h) (Or.inl ⟨by rfl, ?yt35⟩) hHeld ?rt35
        case yt35 => ((intro W hSw; obtain ⟨hS0, hS1, hS2, hS3, hS4, hS5, hS6⟩ := hSw; go_simp) <;> with_reducible rfl)
        try simp only [Act.put]
        try simp only [List.getElem_toArray]
        try simp only [List.getElem_cons_succ]
        try simp only [List.getElem_cons_zero]
        try simp only [List.setIfInBounds_toArray]
        try simp only [List.set_cons_succ]
        try simp only [List.set_cons_zero]
        refine wpAnyH_take (i := 15) (v := ?vt36) rfl (by kernel_rfl) (by kernel_rfl) (by kernel_rfl) (fun _ _ _ h => h) (Or.inl ⟨by rfl, ?yt36⟩) hHeld ?rt36
        case yt36 => ((intro W hSw; obtain ⟨hS0, hS1, hS2, hS3, hS4, hS5, hS6⟩ := hSw; go_simp) <;> with_reducible rfl)
        try simp only [Act.put]
        try simp only [List.getElem_toArray]
        try simp only [List.getElem_cons_succ]
        try simp only [List.getElem_cons_zero]
        try simp only [List.setIfInBounds_toArray]
        try simp only [List.set_cons_succ]
        try simp only [List.set_cons_zero]
        refine wpAnyH_take (i := 16) (v := ?vt37) rfl (by kernel_rfl) (by kernel_rfl) (by kernel_rfl) (fun _ _ _ h => h) (Or.inl ⟨by rfl, ?yt37⟩) hHeld ?rt37
        case yt37 => ((intro W hSw; obtain ⟨hS0, hS1, hS2, hS3, hS4, hS5, hS6⟩ := hSw; go_simp) <;> with_reducible rfl)
        try simp only [Act.put]
        try simp only [List.getElem_toArray]
        try simp only [List.getElem_cons_succ]
        try simp only [List.getElem_cons_zero]
        try simp only [List.setIfInBounds_toArray]
        try simp only [List.set_cons_succ]
        try simp only [List.set_cons_zero]
        refine wpAnyH_take (i := 18) (v := ?vt38) rfl (by kernel_rfl) (by kernel_rfl) (by kernel_rfl) (fun _ _ _ h => h) (Or.inl ⟨by rfl, ?yt38⟩) hHeld ?rt38
        case yt38 => ((intro W hSw; obtain ⟨hS0, hS1, hS2, hS3, hS4, hS5, hS6⟩ := hSw; go_simp) <;> with_reducible rfl)
        try simp only [Act.put]
        try simp only [List.getElem_toArray]
        try simp only [List.getElem_cons_succ]
        try simp only [List.getElem_cons_zero]
        try simp only [List.setIfInBounds_toArray]
        try simp only [List.set_cons_succ]
        try simp only [List.set_cons_zero]
        refine wpAnyH_take (i := 19) (v := ?vt39) rfl (by kernel_rfl) (by kernel_rfl) (by kernel_rfl) (fun _ _ _ h => h) (Or.inl ⟨by rfl, ?yt39⟩) hHeld ?rt39
        case yt39 => ((intro W hSw; obtain ⟨hS0, hS1, hS2, hS3, hS4, hS5, hS6⟩ := hSw; go_simp) <;> with_reducible rfl)
        try simp only [Act.put]
        try simp only [List.getElem_toArray]
        try simp only [List.getElem_cons_succ]
        try simp only [List.getElem_cons_zero]
        try simp only [List.setIfInBounds_toArray]
        try simp only [List.set_cons_succ]
        try simp only [List.set_cons_zero]
        refine wpAnyH_take (i := 20) (v := ?vt40) rfl (by kernel_rfl) (by kernel_rfl) (by kernel_rfl) (fun _ _ _ h => h) (Or.inl ⟨by rfl, ?yt40⟩) hHeld ?rt40
        case yt40 => ((intro W hSw; obtain ⟨hS0, hS1, hS2, hS3, hS4, hS5, hS6⟩ := hSw; go_simp) <;> with_reducible rfl)
        try simp only [Act.put]
        try simp only [List.getElem_toArray]
        try simp only [List.getElem_cons_succ]
        try simp only [List.getElem_cons_zero]
        try simp only [List.setIfInBounds_toArray]
        try simp only [List.set_cons_succ]
        try simp only [List.set_cons_zero]
        refine wpAnyH_take (i := 22) (v := ?vt41) rfl (by kernel_rfl) (by kernel_rfl) (by kernel_rfl) (fun _ _ _ h => h) (Or.inl ⟨by rfl, ?yt41⟩) hHeld ?rt41
        case yt41 => ((intro W hSw; obtain ⟨hS0, hS1, hS2, hS3, hS4, hS5, hS6⟩ := hSw; go_simp) <;> with_reducible rfl)
        try simp only [Act.put]
        try simp only [List.getElem_toArray]
        try simp only [List.getElem_cons_succ]
        try simp only [List.getElem_cons_zero]
        try simp only [List.setIfInBounds_toArray]
        try simp only [List.set_cons_succ]
        try simp only [List.set_cons_zero]
        refine wpAnyH_take (i := 23) (v := ?vt42) rfl (by kernel_rfl) (by kernel_rfl) (by kernel_rfl) (fun _ _ _ h => h) (Or.inl ⟨by rfl, ?yt42⟩) hHeld ?rt42
        case yt42 => ((intro W hSw; obtain ⟨hS0, hS1, hS2, hS3, hS4, hS5, hS6⟩ := hSw; go_simp) <;> with_reducible rfl)
        try simp only [Act.put]
        try simp only [List.getElem_toArray]
        try simp only [List.getElem_cons_succ]
        try simp only [List.getElem_cons_zero]
        try simp only [List.setIfInBounds_toArray]
        try simp only [List.set_cons_succ]
        try simp only [List.set_cons_zero]
        refine wpAnyH_take (i := 24) (v := ?vt43) rfl (by kernel_rfl) (by kernel_rfl) (by kernel_rfl) (fun _ _ _ h => h) (Or.inl ⟨by rfl, ?yt43⟩) hHeld ?rt43
        case yt43 => ((intro W hSw; obtain ⟨hS0, hS1, hS2, hS3, hS4, hS5, hS6⟩ := hSw; go_simp) <;> with_reducible rfl)
        try simp only [Act.put]
        try simp only [List.getElem_toArray]
        try simp only [List.getElem_cons_succ]
        try simp only [List.getElem_cons_zero]
        try simp only [List.setIfInBounds_toArray]
        try simp only [List.set_cons_succ]
        try simp only [List.set_cons_zero]
        refine wpAnyH_take (i := 27) (v := ?vt44) rfl (by kernel_rfl) (by kernel_rfl) (by kernel_rfl) (fun _ _ _ h => h) (Or.inl ⟨by rfl, ?yt44⟩) hHeld ?rt44
        case yt44 => ((intro W hSw; obtain ⟨hS0, hS1, hS2, hS3, hS4, hS5, hS6⟩ := hSw; go_simp) <;> with_reducible rfl)
        try simp only [Act.put]
        try simp only [List.getElem_toArray]
        try simp only [List.getElem_cons_succ]
        try simp only [List.getElem_cons_zero]
        try simp only [List.setIfInBounds_toArray]
        try simp only [List.set_cons_succ]
        try simp only [List.set_cons_zero]
        refine wpAnyH_take (i := 28) (v := ?vt45) rfl (by kernel_rfl) (by kernel_rfl) (by kernel_rfl) (fun _ _ _ h => h) (Or.inl ⟨by rfl, ?yt45⟩) hHeld ?rt45
        case yt45 => ((intro W hSw; obtain ⟨hS0, hS1, hS2, hS3, hS4, hS5, hS6⟩ := hSw; go_simp) <;> with_reducible rfl)
        try simp only [Act.put]
        try simp only [List.getElem_toArray]
        try simp only [List.getElem_cons_succ]
        try simp only [List.getElem_cons_zero]
        try simp only [List.setIfInBounds_toArray]
        try simp only [List.set_cons_succ]
        try simp only [List.set_cons_zero]
        refine wpAnyH_take (i := 29) (v := ?vt46) rfl (by kernel_rfl) (by kernel_rfl) (by kernel_rfl) (fun _ _ _ h => h) (Or.inl ⟨by rfl, ?yt46⟩) hHeld ?rt46
        case yt46 => ((intro W hSw; obtain ⟨hS0, hS1, hS2, hS3, hS4, hS5, hS6⟩ := hSw; go_simp) <;> with_reducible rfl)
        try simp only [Act.put]
        try simp only [List.getElem_toArray]
        try simp only [List.getElem_cons_succ]
        try simp only [List.getElem_cons_zero]
        try simp only [List.setIfInBounds_toArray]
        try simp only [List.set_cons_succ]
        try simp only [List.set_cons_zero]
        refine wpAnyH_ready (rs := [3]) (by kernel_rfl) (by simp) ?_
        refine AllReadyH.cons rfl (fun K hK => ?_) AllReadyH.nil
        go_simp
        refine (pick_any a0 64 _ r0.1 r0.2 (by omega) (by omega)).mono ?_
        rintro e w0' ⟨rfl, hw⟩
        rw [hw, Hp0.out]
        clear hw
        go_simp
        refine hK.out _ _ hHeld (fun hHeld => ?_)
        clear hK K
        try simp only [Act.put]
        try simp only [List.getElem_toArray]
        try simp only [List.getElem_cons_succ]
        try simp only [List.getElem_cons_zero]
        try simp only [List.setIfInBounds_toArray]
        try simp only [List.set_cons_succ]
        try simp only [List.set_cons_zero]
        refine wpAnyH_take (i := 4) (v := ?vt47) rfl (by kernel_rfl) (by kernel_rfl) (by kernel_rfl) (fun _ _ _ h => h) (Or.inl ⟨by rfl, ?yt47⟩) hHeld ?rt47
        case yt47 => ((intro W hSw; obtain ⟨hS0, hS1, hS2, hS3, hS4, hS5, hS6⟩ := hSw; go_simp) <;> with_reducible rfl)
        try simp only [Act.put]
        try simp only [List.getElem_toArray]
        try simp only [List.getElem_cons_succ]
        try simp only [List.getElem_cons_zero]
        try simp only [List.setIfInBounds_toArray]
        try simp only [List.set_cons_succ]
        try simp only [List.set_cons_zero]
        refine wpAnyH_ready (rs := [8]) (by kernel_rfl) (by simp) ?_
        refine AllReadyH.cons rfl (fun K hK => ?_) AllReadyH.nil
        go_simp
        refine (pick_any a1 200 _ r1.1 r1.2 (by omega) (by omega)).mono ?_
        rintro e w1' ⟨rfl, hw⟩
        rw [hw, Hp1.out]
        clear hw
        go_simp
        refine hK.out _ _ hHeld (fun hHeld => ?_)
        clear hK K
        try simp only [Act.put]
        try simp only [List.getElem_toArray]
        try simp only [List.getElem_cons_succ]
        try simp only [List.getElem_cons_zero]
        try simp only [List.setIfInBounds_toArray]
        try simp only [List.set_cons_succ]
        try simp only [List.set_cons_zero]
        refine wpAnyH_take (i := 9) (v := ?vt48) rfl (by kernel_rfl) (by kernel_rfl) (by kernel_rfl) (fun _ _ _ h => h) (Or.inl ⟨by rfl, ?yt48⟩) hHeld ?rt48
        case yt48 => ((intro W hSw; obtain ⟨hS0, hS1, hS2, hS3, hS4, hS5, hS6⟩ := hSw; go_simp) <;> with_reducible rfl)
        try simp only [Act.put]
        try simp only [List.getElem_toArray]
        try simp only [List.getElem_cons_succ]
        try simp only [List.getElem_cons_zero]
        try simp only [List.setIfInBounds_toArray]
        try simp only [List.set_cons_succ]
        try simp only [List.set_cons_zero]
        refine wpAnyH_ready (rs := [13]) (by kernel_rfl) (by simp) ?_
        refine AllReadyH.cons rfl (fun K hK => ?_) AllReadyH.nil
        go_simp
        refine (pick_any a2 30 _ r2.1 r2.2 (by omega) (by omega)).mono ?_
        rintro e w2' ⟨rfl, hw⟩
        rw [hw, Hp2.out]
        clear hw
        go_simp
        refine hK.out _ _ hHeld (fun hHeld => ?_)
        clear hK K
        try simp only [Act.put]
        try simp only [List.getElem_toArray]
        try simp only [List.getElem_cons_succ]
        try simp only [List.getElem_cons_zero]
        try simp only [List.setIfInBounds_toArray]
        try simp only [List.set_cons_succ]
        try simp only [List.set_cons_zero]
        refine wpAnyH_ready (rs := [17]) (by kernel_rfl) (by simp) ?_
        refine AllReadyH.cons rfl (fun K hK => ?_) AllReadyH.nil
        go_simp
        refine (pick_any a3 40 _ r3.1 r3.2 (by omega) (by omega)).mono ?_
        rintro e w3' ⟨rfl, hw⟩
        rw [hw, Hp3.out]
        clear hw
        go_simp
        refine hK.out _ _ hHeld (fun hHeld => ?_)
        clear hK K
        try simp only [Act.put]
        try simp only [List.getElem_toArray]
        try simp only [List.getElem_cons_succ]
        try simp only [List.getElem_cons_zero]
        try simp only [List.setIfInBounds_toArray]
        try simp only [List.set_cons_succ]
        try simp only [List.set_cons_zero]
        refine wpAnyH_ready (rs := [21]) (by kernel_rfl) (by simp) ?_
        refine AllReadyH.cons rfl (fun K hK => ?_) AllReadyH.nil
        go_simp
        refine (pick_any a4 400 _ r4.1 r4.2 (by omega) (by omega)).mono ?_
        rintro e w4' ⟨rfl, hw⟩
        rw [hw, Hp4.out]
        clear hw
        go_simp
        refine hK.out _ _ hHeld (fun hHeld => ?_)
        clear hK K
        try simp only [Act.put]
        try simp only [List.getElem_toArray]
        try simp only [List.getElem_cons_succ]
        try simp only [List.getElem_cons_zero]
        try simp only [List.setIfInBounds_toArray]
        try simp only [List.set_cons_succ]
        try simp only [List.set_cons_zero]
        refine wpAnyH_ready (rs := [25]) (by kernel_rfl) (by simp) ?_
        refine AllReadyH.cons rfl (fun K hK => ?_) AllReadyH.nil
        go_simp
        refine (pick_any a5 30 _ r5.1 r5.2 (by omega) (by omega)).mono ?_
        rintro e w5' ⟨rfl, hw⟩
        rw [hw, Hp5.out]
        clear hw
        go_simp
        refine hK.out _ _ hHeld (fun hHeld => ?_)
        clear hK K
        try simp only [Act.put]
        try simp only [List.getElem_toArray]
        try simp only [List.getElem_cons_succ]
        try simp only [List.getElem_cons_zero]
        try simp only [List.setIfInBounds_toArray]
        try simp only [List.set_cons_succ]
        try simp only [List.set_cons_zero]
        refine wpAnyH_take (i := 26) (v := ?vt49) rfl (by kernel_rfl) (by kernel_rfl) (by kernel_rfl) (fun _ _ _ h => h) (Or.inl ⟨by rfl, ?yt49⟩) hHeld ?rt49
        case yt49 => ((intro W hSw; obtain ⟨hS0, hS1, hS2, hS3, hS4, hS5, hS6⟩ := hSw; go_simp) <;> with_reducible rfl)
        try simp only [Act.put]
        try simp only [List.getElem_toArray]
        try simp only [List.getElem_cons_succ]
        try simp only [List.getElem_cons_zero]
        try simp only [List.setIfInBounds_toArray]
        try simp only [List.set_cons_succ]
        try simp only [List.set_cons_zero]
        refine wpAnyH_ready (rs := [30]) (by kernel_rfl) (by simp) ?_
        refine AllReadyH.cons rfl (fun K hK => ?_) AllReadyH.nil
        go_simp
        refine (pick_any a6 5 _ r6.1 r6.2 (by omega) (by omega)).mono ?_
        rintro e w6' ⟨rfl, hw⟩
        rw [hw, Hp6.out]
        clear hw
        go_simp
        refine hK.out _ _ hHeld (fun hHeld => ?_)
        clear hK K
        try simp only [Act.put]
        try simp only [List.getElem_toArray]
        try simp only [List.getElem_cons_succ]
        try simp only [List.getElem_cons_zero]
        try simp only [List.setIfInBounds_toArray]
        try simp only [List.set_cons_succ]
        try simp only [List.set_cons_zero]
        refine wpAnyH_take (i := 31) (v := ?vt50) rfl (by kernel_rfl) (by kernel_rfl) (by kernel_rfl) (fun _ _ _ h => h) (Or.inl ⟨by rfl, ?yt50⟩) hHeld ?rt50
        case yt50 => ((intro W hSw; obtain ⟨hS0, hS1, hS2, hS3, hS4, hS5, hS6⟩ := hSw; go_simp) <;> with_reducible rfl)
        try simp only [Act.put]
        try simp only [List.getElem_toArray]
        try simp only [List.getElem_cons_succ]
        try simp only [List.getElem_cons_zero]
        try simp only [List.setIfInBounds_toArray]
        try simp only [List.set_cons_succ]
        try simp only [List.set_cons_zero]
        refine wpAnyH_ready (rs := [32]) (by kernel_rfl) (by simp) ?_
        refine AllReadyH.cons rfl (fun K hK => ?_) AllReadyH.nil
        go_simp
        rw [HE9.out]
        refine hK.out _ _ HC9.out (fun hHeld => ?_)
        clear hK K
        refine wpAnyH_done (by kernel_rfl) ?_ _
        refine NoPanic.normal ?_
        clear hHeld HE9 HS z0 z1 z2 z3 z4 z5 z6 zf
        have g0 := Hc9.out 0 _ rfl
        have g1 := Hc9.out 1 _ rfl
        have g2 := Hc9.out 2 _ rfl
        have g3 := Hc9.out 3 _ rfl
        have g4 := Hc9.out 4 _ rfl
        have g5 := Hc9.out 5 _ rfl
        have g6 := Hc9.out 6 _ rfl
        generalize W9.drew = W8 at *
        go_wp2
        refine bodyPost_ret (v := .agg #[.int .i64 (1 + p0), .int .i64 (1 + p1), .int .i64 p2, .int .i64 p3, .int .i64 p4, .int .i64 (1 + p5), .int .i64 p6]) (by simp [results, Try.results29, go_sem, g0, g1, g2, g3, g4, g5, g6]) rfl ⟨?_, Hb9.out⟩
        rw [HCf.out]

end Go.Proofs.Ytdjhhnolcafkiaa

/- Once: what the mender does, in numbers. -/
namespace Go.Proofs.Ytdjhhnolcafkiaa
open Go.RowKit
namespace Pk
theorem posF_neg (x : Nat) : ∀ l : List Nat, posF x l < 0 ↔ x ∉ l
  | [] => by simp [posF]
  | y :: r => by
    have ih := posF_neg x r
    rw [posF]
    by_cases e : y = x
    · simp [e]
    · rw [if_neg e]
      have e' : ¬ x = y := fun h => e h.symm
      by_cases h : posF x r < 0
      · rw [if_pos h]
        simp [e', ih.1 h]
      · rw [if_neg h]
        have := fun hh => h (ih.2 hh)
        simp only [List.mem_cons, e', false_or]
        constructor
        · intro h2; omega
        · intro h2; exact absurd h2 this
theorem rmF_names {α : Type} (nf : α → Nat) (num : Nat) : ∀ l : List α, (rmF nf num l).map nf = (l.map nf).erase num
  | [] => by simp [rmF, posF]
  | a :: r => by
    have ih := rmF_names nf num r
    by_cases e : nf a = num
    · have hp : posF num ((a :: r).map nf) = 0 := by simp [posF, e]
      unfold rmF
      rw [hp]
      simp [e]
    · rw [List.map_cons, List.erase_cons_tail (by simpa using e), ← ih]
      unfold rmF
      rw [List.map_cons, posF, if_neg e]
      by_cases h : posF num (r.map nf) < 0
      · simp [h]
      · rw [if_neg h, if_neg h, if_neg (by omega)]
        have : (posF num (r.map nf) + 1).toNat = (posF num (r.map nf)).toNat + 1 := by omega
        rw [this]
        simp
theorem addsF_names (now : Int) : ∀ (c n : Nat) (l : List Gp), n < 65536 → (l.map Gp.n).Nodup → ((addsF now c n l).map Gp.n).Nodup ∧ ∀ m, m ∈ (addsF now c n l).map Gp.n ↔ m ∈ l.map Gp.n ∨ ∃ j, j < c ∧ m = (n + j) % 65536
  | 0, n, l, _, hd => ⟨hd, fun m => by simp [addsF]⟩
  | c + 1, n, l, hn, hd => by
    have hd' : ((rmF Gp.n n l ++ [(⟨n, now, 0⟩ : Gp)]).map Gp.n).Nodup := by
      rw [List.map_append, rmF_names, List.nodup_append]
      refine ⟨hd.erase n, by simp, fun a ha b hb => ?_⟩
      simp at hb
      subst hb
      exact ((hd.mem_erase_iff).1 ha).1
    obtain ⟨h1, h2⟩ := addsF_names now c ((n + 1) % 65536) (rmF Gp.n n l ++ [⟨n, now, 0⟩]) (Nat.mod_lt _ (by decide)) hd'
    refine ⟨h1, fun m => ?_⟩
    rw [addsF, h2 m, List.map_append, rmF_names, List.mem_append, hd.mem_erase_iff]
    constructor
    · rintro ((⟨-, h⟩ | h) | ⟨j, hj, e⟩)
      · exact .inl h
      · simp at h; subst h; exact .inr ⟨0, by omega, by omega⟩
      · exact .inr ⟨j + 1, by omega, by omega⟩
    · rintro (h | ⟨j, hj, e⟩)
      · by_cases hm : m = n
        · exact .inl (.inr (by simp [hm]))
        · exact .inl (.inl ⟨hm, h⟩)
      · cases j with
        | zero => exact .inl (.inr (by simp; omega))
        | succ j => exact .inr ⟨j, by omega, by omega⟩
theorem guN_none (newest window : Nat) (l : List Gp) (h : ∀ m ∈ l.map Gp.n, stepsTo newest m < window) : guN newest window l = 0 := by
  cases l with
  | nil => rfl
  | cons x r => rw [guN, if_neg (by have := h x.n (by simp); omega)]
def updB (cm : Nat → Bool) (k : Nat) : Nat → Bool := fun j => if j = k then true else cm j
/-- a sender that has taken the packets cm, b the first, mx the newest -/
structure Took (base b mx : Nat) (cm : Nat → Bool) (sd : Sd) : Prop where
  src : sd.src = 3
  bg : sd.begun = true
  nw : sd.newest = (base + mx) % 65536
  mem : ∀ n, n ∈ sd.gaps.map Gp.n ↔ ∃ k, b < k ∧ k < mx ∧ cm k = false ∧ n = (base + k) % 65536
  nd : (sd.gaps.map Gp.n).Nodup
  len : sd.gaps.length ≤ mx - b
  le : b ≤ mx
  cb : cm b = true
  cx : cm mx = true
  ab : ∀ k, mx < k → cm k = false
theorem Took.first {base k : Nat} {cm : Nat → Bool} {sd : Sd} (hs : sd.src = 3) (hb : sd.begun = false) (hg : sd.gaps = []) (hc : ∀ j, cm j = false) (now : Int) (window : Nat) :
    Took base k k (updB cm k) (takeF sd ((base + k) % 65536) now window).1 ∧ (takeF sd ((base + k) % 65536) now window).2 = (0, 0) := by
  unfold takeF
  rw [if_pos hb]
  refine ⟨⟨hs, rfl, rfl, fun n => ?_, by simp [hg], by simp [hg], Nat.le_refl _, by simp [updB], by simp [updB], fun j hj => ?_⟩, rfl⟩
  · simp only [hg]
    constructor
    · intro h; simp at h
    · rintro ⟨j, h1, h2, -⟩; omega
  · unfold updB
    rw [if_neg (by omega)]
    exact hc j
theorem Took.step {base b mx k : Nat} {cm : Nat → Bool} {sd : Sd} {window : Nat} (h : Took base b mx cm sd) (now : Int) (hm : mx < window) (hk : k < window) (hw : window ≤ 200) :
    ∃ mx', mx' < window ∧ Took base b mx' (updB cm k) (takeF sd ((base + k) % 65536) now window).1 ∧ (takeF sd ((base + k) % 65536) now window).2.2 = 0 ∧ (takeF sd ((base + k) % 65536) now window).2.1 = if b ≤ k ∧ cm k = false then 0 else 2 := by
  have hst : stepsTo ((base + k) % 65536) sd.newest = if mx ≤ k then k - mx else 65536 - (mx - k) := by
    rw [h.nw]
    unfold stepsTo
    split <;> omega
  have hst2 : k ≤ mx → stepsTo sd.newest ((base + k) % 65536) = mx - k := by
    intro hh
    rw [h.nw]
    unfold stepsTo
    omega
  have hle := h.le
  unfold takeF
  rw [if_neg (by simp [h.bg])]
  by_cases hlt : mx < k
  · rw [if_pos (by rw [hst, if_pos (by omega)]; omega)]
    have hG : gapsOn sd ((base + k) % 65536) now window = addsF now (k - mx - 1) ((sd.newest + 1) % 65536) sd.gaps := by
      unfold gapsOn
      rw [hst, if_pos (show mx ≤ k by omega), if_pos (show k - mx ≤ window by omega)]
    obtain ⟨n1, n2⟩ := addsF_names now (k - mx - 1) ((sd.newest + 1) % 65536) sd.gaps (Nat.mod_lt _ (by decide)) h.nd
    have hl := addsF_len now (k - mx - 1) ((sd.newest + 1) % 65536) sd.gaps
    have hmem : ∀ n, n ∈ (gapsOn sd ((base + k) % 65536) now window).map Gp.n ↔ ∃ j, b < j ∧ j < k ∧ updB cm k j = false ∧ n = (base + j) % 65536 := by
      intro n
      rw [hG, n2 n, h.mem n]
      unfold updB
      constructor
      · rintro (⟨j, h1, h2, h3, h4⟩ | ⟨j, h1, h2⟩)
        · exact ⟨j, h1, by omega, by rw [if_neg (by omega)]; exact h3, h4⟩
        · refine ⟨mx + 1 + j, by omega, by omega, by rw [if_neg (by omega)]; exact h.ab _ (by omega), ?_⟩
          rw [h2, h.nw]; omega
      · rintro ⟨j, h1, h2, h3, h4⟩
        rw [if_neg (by omega)] at h3
        rcases Nat.lt_trichotomy j mx with e | e | e
        · exact .inl ⟨j, h1, e, h3, h4⟩
        · rw [e, h.cx] at h3; cases h3
        · refine .inr ⟨j - mx - 1, by omega, ?_⟩
          rw [h4, h.nw]; omega
    have hgu : guN ((base + k) % 65536) window (gapsOn sd ((base + k) % 65536) now window) = 0 := by
      refine guN_none _ _ _ (fun m hm => ?_)
      obtain ⟨j, h1, h2, -, h4⟩ := (hmem m).1 hm
      rw [h4]
      unfold stepsTo
      omega
    refine ⟨k, hk, ⟨h.src, h.bg, rfl, ?_, ?_, ?_, by omega, ?_, by simp [updB], fun j hj => ?_⟩, hgu, ?_⟩
    · unfold goOnF
      simp only [hgu, List.drop_zero]
      exact hmem
    · unfold goOnF
      simp only [hgu, List.drop_zero]
      rw [hG]
      exact n1
    · unfold goOnF
      simp only [hgu, List.drop_zero]
      rw [hG]
      have := h.len
      omega
    · unfold updB
      rw [if_neg (by omega)]
      exact h.cb
    · unfold updB
      rw [if_neg (by omega)]
      exact h.ab j (by omega)
    · rw [if_pos ⟨by omega, h.ab k hlt⟩]
  · rw [if_neg (by rw [hst]; split <;> omega)]
    have hin : (0 ≤ posF ((base + k) % 65536) (sd.gaps.map Gp.n)) ↔ b ≤ k ∧ cm k = false := by
      have e := posF_neg ((base + k) % 65536) (sd.gaps.map Gp.n)
      rw [h.mem] at e
      have : (0 ≤ posF ((base + k) % 65536) (sd.gaps.map Gp.n)) ↔ ∃ j, b < j ∧ j < mx ∧ cm j = false ∧ (base + k) % 65536 = (base + j) % 65536 := by
        constructor
        · intro h0
          exact Classical.byContradiction fun hn => by have := e.2 hn; omega
        · intro h0
          rcases Int.lt_or_le (posF ((base + k) % 65536) (sd.gaps.map Gp.n)) 0 with hh | hh
          · exact absurd h0 (e.1 hh)
          · exact hh
      rw [this]
      constructor
      · rintro ⟨j, h1, h2, h3, h4⟩
        have : j = k := by omega
        subst this
        exact ⟨by omega, h3⟩
      · rintro ⟨h1, h2⟩
        refine ⟨k, ?_, ?_, h2, rfl⟩
        · rcases Nat.lt_or_ge b k with e | e
          · exact e
          · have : b = k := by omega
            rw [← this, h.cb] at h2; cases h2
        · rcases Nat.lt_or_ge k mx with e | e
          · exact e
          · have : k = mx := by omega
            rw [this, h.cx] at h2; cases h2
    unfold lookBackF
    rw [hst2 (by omega), if_neg (by omega)]
    by_cases hp : b ≤ k ∧ cm k = false
    · rw [if_pos (hin.2 hp), if_pos hp]
      have hkb : b ≠ k := fun e => by rw [← e, h.cb] at hp; exact absurd hp.2 (by decide)
      have hkx : k ≠ mx := fun e => by rw [e, h.cx] at hp; exact absurd hp.2 (by decide)
      refine ⟨mx, hm, ⟨h.src, h.bg, h.nw, fun n => ?_, ?_, Nat.le_trans (rmF_length _ _ _) h.len, h.le, ?_, ?_, fun j hj => ?_⟩, rfl, rfl⟩
      · simp only
        rw [rmF_names, h.nd.mem_erase_iff, h.mem]
        unfold updB
        constructor
        · rintro ⟨hne, j, h1, h2, h3, h4⟩
          exact ⟨j, h1, h2, by rw [if_neg (fun e => hne (by rw [h4, e]))]; exact h3, h4⟩
        · rintro ⟨j, h1, h2, h3, h4⟩
          split at h3
          · cases h3
          · exact ⟨by omega, j, h1, h2, h3, h4⟩
      · simp only
        rw [rmF_names]
        exact h.nd.erase _
      · unfold updB; rw [if_neg hkb]; exact h.cb
      · unfold updB; rw [if_neg (fun e => hkx e.symm)]; exact h.cx
      · unfold updB; rw [if_neg (by omega)]; exact h.ab j hj
    · rw [if_neg (fun e => hp (hin.1 e)), if_neg hp]
      refine ⟨mx, hm, ⟨h.src, h.bg, h.nw, fun n => ?_, h.nd, h.len, h.le, ?_, ?_, fun j hj => ?_⟩, rfl, rfl⟩
      · rw [h.mem]
        unfold updB
        constructor
        · rintro ⟨j, h1, h2, h3, h4⟩
          refine ⟨j, h1, h2, ?_, h4⟩
          rw [if_neg (fun e => hp ⟨by omega, by rw [← e]; exact h3⟩)]
          exact h3
        · rintro ⟨j, h1, h2, h3, h4⟩
          split at h3
          · cases h3
          · exact ⟨j, h1, h2, h3, h4⟩
      · unfold updB; split
        · rfl
        · exact h.cb
      · unfold updB; split
        · rfl
        · exact h.cx
      · unfold updB; rw [if_neg (by omega)]; exact h.ab j hj
/-- the sender's packet, as it is read -/
def dataP (n : Nat) (py : ByteArray) : PP := ⟨false, false, 96, ((n % 65536 : Nat) : Int), 5, 3, 0, 0, [], ⟨#[]⟩, cutF py 100⟩
theorem told_read (ty nu so : Int) (py : ByteArray) (h1 : 0 ≤ ty ∧ ty ≤ 127) (h2 : 0 ≤ nu ∧ nu ≤ 65535) (h3 : 0 ≤ so ∧ so ≤ 4294967295) (hp : py.size ≤ 100) :
    readP (tellR false false ty nu 5 so 0 0 [] ⟨#[]⟩ py).1 = some ⟨false, false, ty, nu, 5, so, 0, 0, [], ⟨#[]⟩, py⟩ ∧ (tellR false false ty nu 5 so 0 0 [] ⟨#[]⟩ py).1.size ≤ 1500 := by
  have hok : tellOk false ty nu 5 so 0 0 [] ⟨#[]⟩ = true := by
    have hh : headOk ty nu 5 so [] = true := by
      simp only [headOk, allIn, Bool.and_eq_true, decide_eq_true_eq]
      exact ⟨⟨⟨⟨⟨h1, h2⟩, by omega⟩, h3⟩, by simp⟩, by simp⟩
    unfold tellOk
    rw [hh]
    rfl
  have hl : plen false [] ⟨#[]⟩ py 0 ≤ 1500 := by
    unfold plen
    simp
    omega
  have hs := tellB_length false false ty nu 5 so 0 0 [] ⟨#[]⟩ py (by omega)
  unfold tellR
  rw [if_pos hok, if_neg (by omega)]
  refine ⟨read_of_told false false ty nu 5 so 0 0 [] ⟨#[]⟩ py hok hl, ?_⟩
  rw [Lib.size_eq]
  simp only
  omega
theorem dataT_read (n : Nat) (py : ByteArray) : readP (dataT n py) = some (dataP n py) ∧ (dataT n py).size ≤ 1500 :=
  told_read 96 ((n % 65536 : Nat) : Int) 3 (cutF py 100) (by omega) (by omega) (by omega) (cutF_size py 100)
theorem textOf_read (x : Wn) (n : Nat) (py : ByteArray) (h1 : 0 ≤ x.pl.ty ∧ x.pl.ty ≤ 127) (h3 : 0 ≤ x.src ∧ x.src ≤ 4294967295) :
    readP (textOf x (dataP n py)) = some ⟨false, false, x.pl.ty, (numOf x (n % 65536) : Nat), 5, x.src, 0, 0, [], ⟨#[]⟩, cutF py 100⟩ ∧ (textOf x (dataP n py)).size ≤ 1500 := by
  have hn : numOf x (n % 65536) < 65536 := Nat.mod_lt _ (by decide)
  have := told_read x.pl.ty (numOf x (n % 65536) : Nat) x.src (cutF py 100) h1 (by omega) h3 (cutF_size py 100)
  exact this
/-- a packet for one sender and its want -/
def packet1 (c : Cfg) (s : Stt) (sd : Sd) (x : Wn) (l : Int) (n : Nat) (py : ByteArray) (cv : Value) : Md × List ByteArray × Int :=
  if (takeF sd (n % 65536) s.now c.window.toNat).2.1 = 1 then (⟨c, { s with givenUp := s.givenUp + (takeF sd (n % 65536) s.now c.window.toNat).2.2, late := s.late + 1 }, [(takeF sd (n % 65536) s.now c.window.toNat).1], [x], l⟩, [], 0)
  else if (takeF sd (n % 65536) s.now c.window.toNat).2.1 = 2 then (⟨c, { s with givenUp := s.givenUp + (takeF sd (n % 65536) s.now c.window.toNat).2.2, doubled := s.doubled + 1 }, [(takeF sd (n % 65536) s.now c.window.toNat).1], [x], l⟩, [], 0)
  else (⟨c, { s with givenUp := s.givenUp + (takeF sd (n % 65536) s.now c.window.toNat).2.2, passed := s.passed + 1 }, [(takeF sd (n % 65536) s.now c.window.toNat).1], [passW x (dataP n py) cv c.ring.toNat], l⟩, [textOf x (dataP n py)], 0)
theorem packetM_one (c : Cfg) (s : Stt) (sd : Sd) (x : Wn) (l : Int) (n : Nat) (py : ByteArray) (cv : Value) (h1 : sd.src = 3) (h2 : x.of_ = 3) :
    packetM ⟨c, s, [sd], [x], l⟩ (dataT n py) cv = packet1 c s sd x l n py cv := by
  have hs : sndPos ⟨c, s, [sd], [x], l⟩ (dataP n py).so = some 0 := by simp [sndPos, dataP, h1]
  have hn : (dataP n py).nu.toNat = n % 65536 := by simp only [dataP, Int.toNat_natCast]
  have hso : (dataP n py).so = 3 := rfl
  unfold packetM
  rw [(dataT_read n py).1]
  simp only [hs, List.getElem?_cons_zero, hn]
  unfold packet1
  split
  · simp [tookM]
  · split
    · simp [tookM]
    · simp [tookM, passTo, textsTo, hso, h2]
structure OnceSt (base w : Nat) (bg : Option Nat) (cm : Nat → Bool) (i : Nat) (M : Md) (s : Stt) (sd : Sd) (x : Wn) : Prop where
  eq : M = ⟨⟨4, w, 0, 0, 0, 1, 1⟩, s, [sd], [x], 1⟩
  now : s.now = 0
  tok : s.tokens = 0
  cnt : ∀ c ∈ [s.passed, s.late, s.doubled, s.wrong, s.unknown, s.again, s.refused, s.asked, s.givenUp], 0 ≤ c ∧ c ≤ i
  src : x.src = 7
  of_ : x.of_ = 3
  pl : x.pl = plan0
  kept : x.kept.length ≤ 4
  st : match bg with
    | none => sd.src = 3 ∧ sd.begun = false ∧ sd.gaps = [] ∧ sd.newest = 0 ∧ x.begun = false ∧ x.shift = 0 ∧ ∀ k, cm k = false
    | some b => (∃ mx, mx < w ∧ Took base b mx cm sd) ∧ x.begun = true ∧ x.shift = (65530 + 65536 - (base + b) % 65536) % 65536
theorem keepsF_len (x : Wn) (p : PP) (cv : Value) (ring : Nat) (h : x.kept.length ≤ ring) : (keepsF x p cv ring).length ≤ ring := by
  have := rmF_length Kp.n (numOf x p.nu.toNat) x.kept
  unfold keepsF
  split
  · rw [List.length_drop, List.length_append]
    simp only [List.length_cons, List.length_nil]
    omega
  · omega
theorem OnceSt.ok {base w i : Nat} {bg : Option Nat} {cm : Nat → Bool} {M : Md} {s : Stt} {sd : Sd} {x : Wn} (h : OnceSt base w bg cm i M s sd x) (hw1 : 1 ≤ w) (hw : w ≤ 200) (hi : i ≤ 1000000) : MOk M := by
  have hpl := h.pl
  have hk := h.kept
  have hst := h.st
  rw [h.eq]
  refine ⟨?_, ?_, ?_, fun c hc => ?_, by simp, fun s' hs' => ?_, fun x' hx' => ?_⟩
  · unfold cfgOk
    refine decide_eq_true ?_
    simp only
    omega
  · simp [h.now]
  · simp [h.tok]
  · have := h.cnt c hc
    omega
  · simp only [List.mem_singleton] at hs'
    subst hs'
    cases bg with
    | none =>
      obtain ⟨-, -, hg, hn, -⟩ := hst
      rw [hg, hn]
      exact ⟨fun x hx => by simp at hx, by omega, by simp⟩
    | some b =>
      obtain ⟨⟨mx, hmx, hT⟩, -⟩ := hst
      refine ⟨fun g hg => ?_, ?_, ?_⟩
      · obtain ⟨k, -, -, -, e⟩ := (hT.mem g.n).1 (List.mem_map_of_mem hg)
        omega
      · rw [hT.nw]; omega
      · have := hT.len; omega
  · simp only [List.mem_singleton] at hx'
    subst hx'
    unfold WOk
    rw [hpl]
    refine ⟨by simp [plan0], by simp [plan0], ?_, by omega⟩
    cases bg with
    | none => obtain ⟨-, -, -, -, -, hs, -⟩ := hst; omega
    | some b => obtain ⟨-, -, hs⟩ := hst; omega
theorem cnt_up {s s' : Stt} {i : Nat} (h : ∀ c ∈ [s.passed, s.late, s.doubled, s.wrong, s.unknown, s.again, s.refused, s.asked, s.givenUp], 0 ≤ c ∧ c ≤ (i : Int)) (h0 : s'.passed = s.passed ∨ s'.passed = s.passed + 1) (h1 : s'.late = s.late ∨ s'.late = s.late + 1) (h2 : s'.doubled = s.doubled ∨ s'.doubled = s.doubled + 1) (h3 : s'.wrong = s.wrong ∨ s'.wrong = s.wrong + 1) (h4 : s'.unknown = s.unknown ∨ s'.unknown = s.unknown + 1) (h5 : s'.again = s.again ∨ s'.again = s.again + 1) (h6 : s'.refused = s.refused ∨ s'.refused = s.refused + 1) (h7 : s'.asked = s.asked ∨ s'.asked = s.asked + 1) (h8 : s'.givenUp = s.givenUp) : ∀ c ∈ [s'.passed, s'.late, s'.doubled, s'.wrong, s'.unknown, s'.again, s'.refused, s'.asked, s'.givenUp], 0 ≤ c ∧ c ≤ ((i + 1 : Nat) : Int) := by
  have a0 := h s.passed (by simp)
  have a1 := h s.late (by simp)
  have a2 := h s.doubled (by simp)
  have a3 := h s.wrong (by simp)
  have a4 := h s.unknown (by simp)
  have a5 := h s.again (by simp)
  have a6 := h s.refused (by simp)
  have a7 := h s.asked (by simp)
  have a8 := h s.givenUp (by simp)
  intro c hc
  simp only [List.mem_cons, List.not_mem_nil, or_false] at hc
  rcases hc with rfl | rfl | rfl | rfl | rfl | rfl | rfl | rfl | rfl <;> omega
set_option maxHeartbeats 800000 in
theorem once_step {base w i k : Nat} {bg : Option Nat} {cm : Nat → Bool} {M : Md} {s : Stt} {sd : Sd} {x : Wn} (h : OnceSt base w bg cm i M s sd x) (hw : w ≤ 200) (hk : k < w) (py : ByteArray) (cv : Value) :
    (∃ s' sd' x', OnceSt base w (some (bg.getD k)) (updB cm k) (i + 1) (packetM M (dataT (base + k) py) cv).1 s' sd' x') ∧ (packetM M (dataT (base + k) py) cv).2.2 = 0 ∧
      (packetM M (dataT (base + k) py) cv).2.1 = (if bg.getD k ≤ k ∧ cm k = false then [textOf x (dataP (base + k) py)] else []) ∧
      (bg.getD k ≤ k → numOf x ((base + k) % 65536) = (65530 + k - bg.getD k) % 65536) := by
  have hst := h.st
  have hcnt := h.cnt
  have hsd : sd.src = 3 := by
    cases bg with
    | none => exact hst.1
    | some b => obtain ⟨⟨mx, hmx, hT⟩, -⟩ := hst; exact hT.src
  have hwt : ((w : Int)).toNat = w := by omega
  rw [h.eq, packetM_one _ s sd x 1 (base + k) py cv hsd h.of_]
  unfold packet1
  simp only [hwt]
  cases bg with
  | none =>
    obtain ⟨-, hb, hg, -, hxb, hxs, hc⟩ := hst
    obtain ⟨hT, e2⟩ := Took.first (base := base) (k := k) hsd hb hg hc s.now w
    simp only [Option.getD_none]
    rw [e2]
    rw [if_neg (by simp), if_neg (by simp), if_pos ⟨Nat.le_refl _, hc k⟩]
    have hsh : shiftOf x ((base + k) % 65536) = (65530 + 65536 - (base + k) % 65536) % 65536 := by
      unfold shiftOf
      rw [hxb, h.pl]
      rfl
    refine ⟨⟨_, _, _, rfl, h.now, h.tok, cnt_up hcnt (.inr rfl) (.inl rfl) (.inl rfl) (.inl rfl) (.inl rfl) (.inl rfl) (.inl rfl) (.inl rfl) (Int.add_zero _), h.src, h.of_, h.pl, keepsF_len _ _ _ _ h.kept, ⟨k, hk, hT⟩, rfl, ?_⟩, rfl, rfl, fun _ => ?_⟩
    · exact hsh
    · unfold numOf
      rw [hsh]
      omega
  | some b =>
    obtain ⟨⟨mx, hmx, hT⟩, hxb, hxs⟩ := hst
    obtain ⟨mx', hmx', hT', e1, e2⟩ := hT.step s.now hmx hk hw
    simp only [Option.getD_some]
    rw [e1, e2]
    have hsh : ∀ n, shiftOf x n = x.shift := fun n => by
      unfold shiftOf
      rw [hxb]
      rfl
    have hnum : b ≤ k → numOf x ((base + k) % 65536) = (65530 + k - b) % 65536 := fun hbk => by
      unfold numOf
      rw [hsh, hxs]
      omega
    by_cases hp : b ≤ k ∧ cm k = false
    · simp only [if_pos hp]
      rw [if_neg (by omega), if_neg (by omega)]
      refine ⟨⟨_, _, _, rfl, h.now, h.tok, cnt_up hcnt (.inr rfl) (.inl rfl) (.inl rfl) (.inl rfl) (.inl rfl) (.inl rfl) (.inl rfl) (.inl rfl) (Int.add_zero _), h.src, h.of_, h.pl, keepsF_len _ _ _ _ h.kept, ⟨mx', hmx', hT'⟩, rfl, ?_⟩, rfl, rfl, hnum⟩
      · exact (hsh _).trans hxs
    · simp only [if_neg hp]
      rw [if_neg (by omega), if_pos trivial]
      refine ⟨⟨_, _, _, rfl, h.now, h.tok, cnt_up hcnt (.inl rfl) (.inl rfl) (.inr rfl) (.inl rfl) (.inl rfl) (.inl rfl) (.inl rfl) (.inl rfl) (Int.add_zero _), h.src, h.of_, h.pl, h.kept, ⟨mx', hmx', hT'⟩, hxb, hxs⟩, rfl, rfl, hnum⟩
theorem once_begin (base w : Nat) : OnceSt base w none (fun _ => false) 0 (bM ⟨4, w, 0, 0, 0, 1, 1⟩) ⟨0, 0, 0, 0, 0, 0, 0, 0, 0, 0, 0⟩ ⟨3, false, [], 0⟩ (newW 1 3 plan0 65534) :=
  ⟨rfl, rfl, rfl, fun c hc => by simp at hc; omega, rfl, rfl, rfl, by simp [newW], rfl, rfl, rfl, rfl, rfl, rfl, fun _ => rfl⟩
theorem row_forms {w : World} {B : Nat} {e : TypeId} {k : Nat} {v : Value} {n : Nat} {xs : List Value} (h : w.ownsRow B e k v n xs) : (v = .slice none 0 0 ∧ n = 0) ∨ ∃ g cap, v = .slice (some ⟨g, 0, none⟩) n cap := by
  rcases h.2 with ⟨h1, h2⟩ | ⟨g, cap, _, h1, _⟩
  · exact .inl ⟨h1, h2⟩
  · exact .inr ⟨g, cap, h1⟩
theorem row_one {w : World} {B : Nat} {e : TypeId} {v : Value} {t : ByteArray} (h : w.ownsRow B e 1 v 1 [.string t]) : ∃ g cap, v = .slice (some ⟨g, 0, none⟩) 1 cap ∧ w.cell? ⟨g, 0, none⟩ = some (.string t) ∧ g < w.heap.size := by
  rcases row_forms h with ⟨_, h1⟩ | ⟨g, cap, rfl⟩
  · cases h1
  · have hc := h.cellAt 0 (by omega)
    exact ⟨g, cap, rfl, hc, (h.lt g rfl).2⟩
theorem row_none {w : World} {B : Nat} {e : TypeId} {v : Value} {xs : List Value} (h : w.ownsRow B e 1 v 0 xs) : ∃ a cap, v = .slice a 0 cap := by
  rcases row_forms h with ⟨rfl, _⟩ | ⟨g, cap, rfl⟩
  · exact ⟨none, 0, rfl⟩
  · exact ⟨some ⟨g, 0, none⟩, cap, rfl⟩
end Pk
end Go.Proofs.Ytdjhhnolcafkiaa

/- menderkeep.known returns true. -/
namespace Go.Proofs.Ytdjhhnolcafkiaa
open Go.RowKit Pk

/-- the mender that is begun, ahead of all packets -/
theorem bM_ok (c : Cfg) (h : cfgOk c = true) : MOk (bM c) := by
  have hh := of_decide_eq_true h
  refine ⟨h, by simp [bM], ?_, ?_, by simp [bM], ?_, ?_⟩
  · simp only [bM]; omega
  · intro x hx
    simp only [bM, List.mem_cons, List.not_mem_nil, or_false] at hx
    omega
  · intro s hs
    simp only [bM, List.mem_singleton] at hs
    subst hs
    exact ⟨fun x hx => by simp at hx, by simp, by simp⟩
  · intro x hx
    simp only [bM, List.mem_singleton] at hx
    subst hx
    exact ⟨by simp [newW, plan0], by simp [newW, plan0], by simp [newW], by simp [newW]⟩
/-- the first packet -/
theorem bM_packet (c : Cfg) (n : Nat) (py : ByteArray) (cv : Value) : (packetM (bM c) (dataT n py) cv).2 = ([textOf (newW 1 3 plan0 65534) (dataP n py)], 0) := by
  unfold bM
  rw [packetM_one _ _ _ _ _ n py cv rfl rfl]
  unfold packet1
  rw [show takeF ⟨3, false, [], 0⟩ (n % 65536) 0 c.window.toNat = (⟨3, true, [], n % 65536⟩, 0, 0) from rfl]
  rw [if_neg (by simp), if_neg (by simp)]

set_option maxRecDepth 20000 in
set_option maxHeartbeats 2000000 in
theorem known_any (w : World) : Calls Try.prog 26 #[] w fun e w' => e = .returned (.bool true) ∧ Below w.heap.size w w' := by
  go_enter Try.func26, Try.ntmps26
  go_wp2_with fail
  refine (config_any (.slice none 0 0) [] w ⟨none, 0, rfl, fun j hj => absurd hj (by simp)⟩ (fun c hc => by simp at hc) (by simp [maxLen])).mono ?_
  rintro e w1 ⟨rfl, hb1⟩
  have HB1 : Hid (Below w.heap.size w w1) := hb1
  have hs1 := hb1.size
  have Hc : Hid (cfgOk (cfgF []) = true) := cfgF_ok []
  clear hb1
  generalize cfgF [] = c at *
  go_wp2_with fail
  refine (begun_any c _ Hc.out).mono ?_
  rintro e w2 ⟨mb, rfl, hb2, ρ, sv, wv, SB, WB, hM, hρ⟩
  have HB2 : Hid (Below w.heap.size w w2) := HB1.out.trans (hb2.mono hs1)
  have HM : Hid (MdAt w2 ρ mb (bM c) sv wv SB WB) := hM
  have HP : Hid (∀ b, b < w1.heap.size → ρ b = 0) := hρ
  clear hb2 hM hρ
  go_wp2_with fail
  refine (data_any 9 ⟨#[97, 98]⟩ _ (by omega) (by unfold maxLen; decide)).mono ?_
  rintro e w3 ⟨rfl, hb3⟩
  have HB3 : Hid (Below w.heap.size w w3) := HB2.out.trans (hb3.mono HB2.out.size)
  have HM3 : Hid (MdAt w3 ρ mb (bM c) sv wv SB WB) := HM.out.below hb3
  obtain ⟨hdr, hds⟩ := dataT_read 9 ⟨#[97, 98]⟩
  have Hp : Hid (∀ cv, (packetM (bM c) (dataT 9 ⟨#[97, 98]⟩) cv).2 = ([textOf (newW 1 3 plan0 65534) (dataP 9 ⟨#[97, 98]⟩)], 0)) := fun cv => bM_packet c 9 _ cv
  have Hok : Hid (MOk (bM c)) := bM_ok c Hc.out
  obtain ⟨htr, hts⟩ := textOf_read (newW 1 3 plan0 65534) 9 ⟨#[97, 98]⟩ (by decide) (by decide)
  have Htr : Hid (readP (textOf (newW 1 3 plan0 65534) (dataP 9 ⟨#[97, 98]⟩)) = some ⟨false, false, 100, 65530, 5, 7, 0, 0, [], ⟨#[]⟩, ⟨#[97, 98]⟩⟩) := htr
  generalize textOf (newW 1 3 plan0 65534) (dataP 9 ⟨#[97, 98]⟩) = tx at *
  clear hb3 HM hdr htr
  generalize dataT 9 ⟨#[97, 98]⟩ = dt at *
  go_wp2_with fail
  refine (packet_any ρ mb (bM c) sv wv SB WB dt _ HM3.out Hok.out (by unfold maxLen; omega)).mono ?_
  rintro e w4 ⟨cv, tv, rfl, ρ', sv', wv', SB', WB', hM', hMv, hrow, hrz⟩
  have hp := Hp.out cv
  generalize (packetM (bM c) dt cv).1 = M1 at *
  generalize (packetM (bM c) dt cv).2 = A2 at *
  subst hp
  obtain ⟨g, cap, rfl, hcell, hg⟩ := row_one hrow
  have hs3 := HB3.out.size
  have HB4 : Hid (Below w.heap.size w w4) := HB3.out.trans (hMv.2.below hs3 (fun x hx => by
    rcases Nat.lt_or_ge x w.heap.size with e | e
    · exact absurd (HP.out x (by omega)) hx
    · exact e))
  clear hM' hMv hrow hrz
  go_wp2_with fail
  refine (parsePacket_any tx _ (by unfold maxLen; omega)).mono ?_
  rintro e w5 ⟨hb5, hr5⟩
  rw [Htr.out] at hr5
  obtain ⟨v5, he5, hown5⟩ := hr5
  obtain ⟨a5, c5, hv5⟩ := hown5.shape
  subst hv5
  simp only [okV] at he5
  subst he5
  have HB5 : Hid (Below w.heap.size w w5) := HB4.out.trans (hb5.mono HB4.out.size)
  have hs5 := HB5.out.size
  clear hb5 hown5 hcell
  go_wp2
  go_ret
  exact ⟨ret_bool (by simp), HB5.out.alloc hs5 _⟩

end Go.Proofs.Ytdjhhnolcafkiaa
