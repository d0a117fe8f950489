/- menderkeep: data, begun. -/
import Derived.Test.YtdjhhnolcafkiaaG09
import Derived.Test.YtdjhhnolcafkiaaG01
import Derived.Test.YtdjhhnolcafkiaaG08
import Derived.Test.YtdjhhnolcafkiaaG06
import Derived.Laws.EntriesVeiled
namespace Go.Proofs.Ytdjhhnolcafkiaa
open Go.RowKit
namespace Pk
/-- a mender in blocks from B on -/
def Fresh (B : Nat) (W : World) (mb : Nat) (M : Md) : Prop := ∃ ρ sv wv SB WB, MdAt W ρ mb M sv wv SB WB ∧ ∀ b, b < B → ρ b = 0
theorem Fresh.moved {B : Nat} {W W' : World} {ρ : Nat → Nat} {mb : Nat} {M' : Md} (hB : B ≤ W.heap.size) (h0 : ∀ b, b < B → ρ b = 0) (h : Moved W W' ρ mb M') : Fresh B W' mb M' ∧ Below B W W' := by
  obtain ⟨ρ', a, b, c, d, h1, h2, h3⟩ := h
  refine ⟨⟨ρ', a, b, c, d, h1, fun x hx => h2 x (by omega) (h0 x hx)⟩, h3.below hB (fun x hx => ?_)⟩
  rcases Nat.lt_or_ge x B with e | e
  · exact absurd (h0 x e) hx
  · exact e
def plan0 : Plan := ⟨7, 8, 100, 101, 65530, 65534⟩
/-- the mender that the statements begin with -/
def bM (c : Cfg) : Md := ⟨c, ⟨0, c.burst, 0, 0, 0, 0, 0, 0, 0, 0, 0⟩, [⟨3, false, [], 0⟩], [newW 1 3 plan0 65534], 1⟩
def bM1 (c : Cfg) : Md := ⟨c, ⟨0, c.burst, 0, 0, 0, 0, 0, 0, 0, 0, 0⟩, [⟨3, false, [], 0⟩], [], 0⟩
theorem addS_b (c : Cfg) : addSM (newM c) 3 = (bM1 c, 0) := by
  unfold addSM
  rw [if_neg (by omega), if_neg (by simp [knowsF, sndPos, hasPos, newM]), if_neg (by simp [newM])]
  rfl
theorem addW_b (c : Cfg) : addWM (bM1 c) 3 plan0 = (bM c, 1, 0) := by
  unfold addWM
  rw [if_neg (by simp [sndPos, bM1]), if_neg (by simp [plOk, plan0]), if_neg (by simp [knowsF, sndPos, hasPos, bM1, plan0]), if_neg (by simp [bM1])]
  rfl
def dataT (n : Nat) (py : ByteArray) : ByteArray := (tellR false false 96 ((n % 65536 : Nat) : Int) 5 3 0 0 [] ⟨#[]⟩ (cutF py 100)).1
end Pk
open Pk

set_option maxHeartbeats 1000000 in
theorem data_any (n : Nat) (py : ByteArray) (w : World) (hn : n ≤ 1000000000) (hpy : py.size ≤ maxLen) :
    Calls Try.prog 28 #[.int .i64 n, .string py] w fun e w' => e = .returned (.string (dataT n py)) ∧ Below w.heap.size w w' := by
  have hm : (n : Int).tmod 65536 = ((n % 65536 : Nat) : Int) := by rw [Int.tmod_eq_emod_of_nonneg (by omega)]; omega
  have hlt : n % 65536 < 65536 := Nat.mod_lt _ (by decide)
  obtain ⟨q, hq⟩ : ∃ q, n % 65536 = q := ⟨_, rfl⟩
  have Hd : Hid (dataT n py = (tellR false false 96 (q : Int) 5 3 0 0 [] ⟨#[]⟩ (cutF py 100)).1) := by show _ = _; unfold dataT; rw [hq]
  have hcs : (cutF py 100).size ≤ 140737488355328 := by
    unfold cutF maxLen at *
    split
    · rw [ByteArray.size_extract]; omega
    · omega
  rw [hq] at hm hlt
  clear hq
  go_enter Try.func28, Try.ntmps28
  go_wp2_with fail
  refine (cut_any py 100 _ hpy (by omega)).mono ?_
  rintro e w1 ⟨rfl, hw1⟩
  rw [hw1]
  clear hw1
  generalize cutF py 100 = cp at *
  go_wp2_with fail
  refine (tellPacket_any false false 96 q 5 3 0 0 (.slice none 0 0) [] ⟨#[]⟩ cp _ _ (Nat.le_refl _) ⟨none, 0, rfl, fun j hj => absurd hj (by simp)⟩ (Nat.zero_le _) (Nat.zero_le _) hcs).mono ?_
  rintro e w1 ⟨rfl, hb1⟩
  have Hb1 : Hid (Below w.heap.size w w1) := hb1
  clear hb1
  generalize (tellR false false 96 (q : Int) 5 3 0 0 [] ⟨#[]⟩ cp).1 = t1 at *
  generalize (tellR false false 96 (q : Int) 5 3 0 0 [] ⟨#[]⟩ cp).2 = e1 at *
  go_wp2
  go_ret
  exact ⟨by rw [Hd.out]; rfl, Hb1.out⟩

set_option maxRecDepth 20000 in
set_option maxHeartbeats 1000000 in
theorem begun_any (c : Cfg) (w : World) (hc : cfgOk c = true) :
    Calls Try.prog 25 #[.agg #[.int .i64 c.ring, .int .i64 c.window, .int .i64 c.delay, .int .i64 c.rate, .int .i64 c.burst, .int .i64 c.retry, .int .i64 c.tries]] w fun e w' => ∃ mb, e = .returned (.pointer (some ⟨mb, 0, none⟩)) ∧ Below w.heap.size w w' ∧ Fresh w.heap.size w' mb (bM c) := by
  have hr1 : 1 ≤ c.ring := by
    have := of_decide_eq_true hc
    omega
  have Hc : Hid (cfgOk c = true) := hc
  clear hc
  go_enter Try.func25, Try.ntmps25
  go_wp2_with fail
  refine (new_any c _).mono ?_
  rintro e w1 ⟨hb1, ⟨hf, -⟩ | ⟨-, mb, ρ1, hmb, rfl, hM1, hρ1⟩⟩
  · rw [Hc.out] at hf; cases hf
  have Hb1 : Hid (Below w.heap.size w w1) := ((Below.refl _ _).alloc (Nat.le_refl _) _).trans (hb1.mono (by simp))
  have hs1 := Hb1.out.size
  have H1 : Hid (MdAt w1 ρ1 mb (newM c) (.slice none 0 0) (.slice none 0 0) [] []) := hM1
  have HZ1 : Hid (∀ b, b < w.heap.size → ρ1 b = 0) := fun b hb => by
    rcases Nat.eq_zero_or_pos (ρ1 b) with e | e
    · exact e
    · have := hρ1 b (by omega)
      simp at this
      omega
  clear hb1 hM1 hρ1 hmb
  go_wp2_with fail
  refine (addSender_any ρ1 mb (newM c) _ _ [] [] 3 _ H1.out (by simp [newM]) hr1).mono ?_
  rintro e w2 ⟨rfl, hmv⟩
  rw [addS_b] at hmv ⊢
  obtain ⟨⟨ρ2, sv2, wv2, SB2, WB2, hM2, hZ2⟩, hb2⟩ := Fresh.moved hs1 HZ1.out hmv
  have Hb2 : Hid (Below w.heap.size w w2) := Hb1.out.trans hb2
  have H2 : Hid (MdAt w2 ρ2 mb (bM1 c) sv2 wv2 SB2 WB2) := hM2
  have HZ2 : Hid (∀ b, b < w.heap.size → ρ2 b = 0) := hZ2
  have hs2 := Hb2.out.size
  clear hmv hM2 hZ2 hb2 H1 HZ1
  go_wp2_with fail
  refine (addWant_any ρ2 mb (bM1 c) _ _ SB2 WB2 3 plan0 _ H2.out (by simp [bM1]) (by simp [bM1]) (by simp [bM1]) (by simp [bM1])).mono ?_
  rintro e w3 ⟨rfl, hmv⟩
  rw [addW_b] at hmv ⊢
  obtain ⟨hF, hb3⟩ := Fresh.moved hs2 HZ2.out hmv
  have Hb3 : Hid (Below w.heap.size w w3) := Hb2.out.trans hb3
  have HF : Hid (Fresh w.heap.size w3 mb (bM c)) := hF
  clear hmv hF hb3 H2 HZ2
  go_wp2
  go_ret
  exact ⟨mb, rfl, Hb3.out, HF.out⟩

end Go.Proofs.Ytdjhhnolcafkiaa

/- Once: what the mender does, in numbers. -/
namespace Go.Proofs.Ytdjhhnolcafkiaa
open Go.RowKit
namespace Pk
theorem posF_neg (x : Nat) : ∀ l : List Nat, posF x l < 0 ↔ x ∉ l
  | [] => by simp [posF]
  | y :: r => by
    have ih := posF_neg x r
    rw [posF]
    by_cases e : y = x
    · simp [e]
    · rw [if_neg e]
      have e' : ¬ x = y := fun h => e h.symm
      by_cases h : posF x r < 0
      · rw [if_pos h]
        simp [e', ih.1 h]
      · rw [if_neg h]
        have := fun hh => h (ih.2 hh)
        simp only [List.mem_cons, e', false_or]
        constructor
        · intro h2; omega
        · intro h2; exact absurd h2 this
theorem rmF_names {α : Type} (nf : α → Nat) (num : Nat) : ∀ l : List α, (rmF nf num l).map nf = (l.map nf).erase num
  | [] => by simp [rmF, posF]
  | a :: r => by
    have ih := rmF_names nf num r
    by_cases e : nf a = num
    · have hp : posF num ((a :: r).map nf) = 0 := by simp [posF, e]
      unfold rmF
      rw [hp]
      simp [e]
    · rw [List.map_cons, List.erase_cons_tail (by simpa using e), ← ih]
      unfold rmF
      rw [List.map_cons, posF, if_neg e]
      by_cases h : posF num (r.map nf) < 0
      · simp [h]
      · rw [if_neg h, if_neg h, if_neg (by omega)]
        have : (posF num (r.map nf) + 1).toNat = (posF num (r.map nf)).toNat + 1 := by omega
        rw [this]
        simp
theorem addsF_names (now : Int) : ∀ (c n : Nat) (l : List Gp), n < 65536 → (l.map Gp.n).Nodup → ((addsF now c n l).map Gp.n).Nodup ∧ ∀ m, m ∈ (addsF now c n l).map Gp.n ↔ m ∈ l.map Gp.n ∨ ∃ j, j < c ∧ m = (n + j) % 65536
  | 0, n, l, _, hd => ⟨hd, fun m => by simp [addsF]⟩
  | c + 1, n, l, hn, hd => by
    have hd' : ((rmF Gp.n n l ++ [(⟨n, now, 0⟩ : Gp)]).map Gp.n).Nodup := by
      rw [List.map_append, rmF_names, List.nodup_append]
      refine ⟨hd.erase n, by simp, fun a ha b hb => ?_⟩
      simp at hb
      subst hb
      exact ((hd.mem_erase_iff).1 ha).1
    obtain ⟨h1, h2⟩ := addsF_names now c ((n + 1) % 65536) (rmF Gp.n n l ++ [⟨n, now, 0⟩]) (Nat.mod_lt _ (by decide)) hd'
    refine ⟨h1, fun m => ?_⟩
    rw [addsF, h2 m, List.map_append, rmF_names, List.mem_append, hd.mem_erase_iff]
    constructor
    · rintro ((⟨-, h⟩ | h) | ⟨j, hj, e⟩)
      · exact .inl h
      · simp at h; subst h; exact .inr ⟨0, by omega, by omega⟩
      · exact .inr ⟨j + 1, by omega, by omega⟩
    · rintro (h | ⟨j, hj, e⟩)
      · by_cases hm : m = n
        · exact .inl (.inr (by simp [hm]))
        · exact .inl (.inl ⟨hm, h⟩)
      · cases j with
        | zero => exact .inl (.inr (by simp; omega))
        | succ j => exact .inr ⟨j, by omega, by omega⟩
theorem guN_none (newest window : Nat) (l : List Gp) (h : ∀ m ∈ l.map Gp.n, stepsTo newest m < window) : guN newest window l = 0 := by
  cases l with
  | nil => rfl
  | cons x r => rw [guN, if_neg (by have := h x.n (by simp); omega)]
def updB (cm : Nat → Bool) (k : Nat) : Nat → Bool := fun j => if j = k then true else cm j
/-- a sender that has taken the packets cm, b the first, mx the newest -/
structure Took (base b mx : Nat) (cm : Nat → Bool) (sd : Sd) : Prop where
  src : sd.src = 3
  bg : sd.begun = true
  nw : sd.newest = (base + mx) % 65536
  mem : ∀ n, n ∈ sd.gaps.map Gp.n ↔ ∃ k, b < k ∧ k < mx ∧ cm k = false ∧ n = (base + k) % 65536
  nd : (sd.gaps.map Gp.n).Nodup
  len : sd.gaps.length ≤ mx - b
  le : b ≤ mx
  cb : cm b = true
  cx : cm mx = true
  ab : ∀ k, mx < k → cm k = false
theorem Took.first {base k : Nat} {cm : Nat → Bool} {sd : Sd} (hs : sd.src = 3) (hb : sd.begun = false) (hg : sd.gaps = []) (hc : ∀ j, cm j = false) (now : Int) (window : Nat) :
    Took base k k (updB cm k) (takeF sd ((base + k) % 65536) now window).1 ∧ (takeF sd ((base + k) % 65536) now window).2 = (0, 0) := by
  unfold takeF
  rw [if_pos hb]
  refine ⟨⟨hs, rfl, rfl, fun n => ?_, by simp [hg], by simp [hg], Nat.le_refl _, by simp [updB], by simp [updB], fun j hj => ?_⟩, rfl⟩
  · simp only [hg]
    constructor
    · intro h; simp at h
    · rintro ⟨j, h1, h2, -⟩; omega
  · unfold updB
    rw [if_neg (by omega)]
    exact hc j
theorem Took.step {base b mx k : Nat} {cm : Nat → Bool} {sd : Sd} {window : Nat} (h : Took base b mx cm sd) (now : Int) (hm : mx < window) (hk : k < window) (hw : window ≤ 200) :
    ∃ mx', mx' < window ∧ Took base b mx' (updB cm k) (takeF sd ((base + k) % 65536) now window).1 ∧ (takeF sd ((base + k) % 65536) now window).2.2 = 0 ∧ (takeF sd ((base + k) % 65536) now window).2.1 = if b ≤ k ∧ cm k = false then 0 else 2 := by
  have hst : stepsTo ((base + k) % 65536) sd.newest = if mx ≤ k then k - mx else 65536 - (mx - k) := by
    rw [h.nw]
    unfold stepsTo
    split <;> omega
  have hst2 : k ≤ mx → stepsTo sd.newest ((base + k) % 65536) = mx - k := by
    intro hh
    rw [h.nw]
    unfold stepsTo
    omega
  have hle := h.le
  unfold takeF
  rw [if_neg (by simp [h.bg])]
  by_cases hlt : mx < k
  · rw [if_pos (by rw [hst, if_pos (by omega)]; omega)]
    have hG : gapsOn sd ((base + k) % 65536) now window = addsF now (k - mx - 1) ((sd.newest + 1) % 65536) sd.gaps := by
      unfold gapsOn
      rw [hst, if_pos (show mx ≤ k by omega), if_pos (show k - mx ≤ window by omega)]
    obtain ⟨n1, n2⟩ := addsF_names now (k - mx - 1) ((sd.newest + 1) % 65536) sd.gaps (Nat.mod_lt _ (by decide)) h.nd
    have hl := addsF_len now (k - mx - 1) ((sd.newest + 1) % 65536) sd.gaps
    have hmem : ∀ n, n ∈ (gapsOn sd ((base + k) % 65536) now window).map Gp.n ↔ ∃ j, b < j ∧ j < k ∧ updB cm k j = false ∧ n = (base + j) % 65536 := by
      intro n
      rw [hG, n2 n, h.mem n]
      unfold updB
      constructor
      · rintro (⟨j, h1, h2, h3, h4⟩ | ⟨j, h1, h2⟩)
        · exact ⟨j, h1, by omega, by rw [if_neg (by omega)]; exact h3, h4⟩
        · refine ⟨mx + 1 + j, by omega, by omega, by rw [if_neg (by omega)]; exact h.ab _ (by omega), ?_⟩
          rw [h2, h.nw]; omega
      · rintro ⟨j, h1, h2, h3, h4⟩
        rw [if_neg (by omega)] at h3
        rcases Nat.lt_trichotomy j mx with e | e | e
        · exact .inl ⟨j, h1, e, h3, h4⟩
        · rw [e, h.cx] at h3; cases h3
        · refine .inr ⟨j - mx - 1, by omega, ?_⟩
          rw [h4, h.nw]; omega
    have hgu : guN ((base + k) % 65536) window (gapsOn sd ((base + k) % 65536) now window) = 0 := by
      refine guN_none _ _ _ (fun m hm => ?_)
      obtain ⟨j, h1, h2, -, h4⟩ := (hmem m).1 hm
      rw [h4]
      unfold stepsTo
      omega
    refine ⟨k, hk, ⟨h.src, h.bg, rfl, ?_, ?_, ?_, by omega, ?_, by simp [updB], fun j hj => ?_⟩, hgu, ?_⟩
    · unfold goOnF
      simp only [hgu, List.drop_zero]
      exact hmem
    · unfold goOnF
      simp only [hgu, List.drop_zero]
      rw [hG]
      exact n1
    · unfold goOnF
      simp only [hgu, List.drop_zero]
      rw [hG]
      have := h.len
      omega
    · unfold updB
      rw [if_neg (by omega)]
      exact h.cb
    · unfold updB
      rw [if_neg (by omega)]
      exact h.ab j (by omega)
    · rw [if_pos ⟨by omega, h.ab k hlt⟩]
  · rw [if_neg (by rw [hst]; split <;> omega)]
    have hin : (0 ≤ posF ((base + k) % 65536) (sd.gaps.map Gp.n)) ↔ b ≤ k ∧ cm k = false := by
      have e := posF_neg ((base + k) % 65536) (sd.gaps.map Gp.n)
      rw [h.mem] at e
      have : (0 ≤ posF ((base + k) % 65536) (sd.gaps.map Gp.n)) ↔ ∃ j, b < j ∧ j < mx ∧ cm j = false ∧ (base + k) % 65536 = (base + j) % 65536 := by
        constructor
        · intro h0
          exact Classical.byContradiction fun hn => by have := e.2 hn; omega
        · intro h0
          rcases Int.lt_or_le (posF ((base + k) % 65536) (sd.gaps.map Gp.n)) 0 with hh | hh
          · exact absurd h0 (e.1 hh)
          · exact hh
      rw [this]
      constructor
      · rintro ⟨j, h1, h2, h3, h4⟩
        have : j = k := by omega
        subst this
        exact ⟨by omega, h3⟩
      · rintro ⟨h1, h2⟩
        refine ⟨k, ?_, ?_, h2, rfl⟩
        · rcases Nat.lt_or_ge b k with e | e
          · exact e
          · have : b = k := by omega
            rw [← this, h.cb] at h2; cases h2
        · rcases Nat.lt_or_ge k mx with e | e
          · exact e
          · have : k = mx := by omega
            rw [this, h.cx] at h2; cases h2
    unfold lookBackF
    rw [hst2 (by omega), if_neg (by omega)]
    by_cases hp : b ≤ k ∧ cm k = false
    · rw [if_pos (hin.2 hp), if_pos hp]
      have hkb : b ≠ k := fun e => by rw [← e, h.cb] at hp; exact absurd hp.2 (by decide)
      have hkx : k ≠ mx := fun e => by rw [e, h.cx] at hp; exact absurd hp.2 (by decide)
      refine ⟨mx, hm, ⟨h.src, h.bg, h.nw, fun n => ?_, ?_, Nat.le_trans (rmF_length _ _ _) h.len, h.le, ?_, ?_, fun j hj => ?_⟩, rfl, rfl⟩
      · simp only
        rw [rmF_names, h.nd.mem_erase_iff, h.mem]
        unfold updB
        constructor
        · rintro ⟨hne, j, h1, h2, h3, h4⟩
          exact ⟨j, h1, h2, by rw [if_neg (fun e => hne (by rw [h4, e]))]; exact h3, h4⟩
        · rintro ⟨j, h1, h2, h3, h4⟩
          split at h3
          · cases h3
          · exact ⟨by omega, j, h1, h2, h3, h4⟩
      · simp only
        rw [rmF_names]
        exact h.nd.erase _
      · unfold updB; rw [if_neg hkb]; exact h.cb
      · unfold updB; rw [if_neg (fun e => hkx e.symm)]; exact h.cx
      · unfold updB; rw [if_neg (by omega)]; exact h.ab j hj
    · rw [if_neg (fun e => hp (hin.1 e)), if_neg hp]
      refine ⟨mx, hm, ⟨h.src, h.bg, h.nw, fun n => ?_, h.nd, h.len, h.le, ?_, ?_, fun j hj => ?_⟩, rfl, rfl⟩
      · rw [h.mem]
        unfold updB
        constructor
        · rintro ⟨j, h1, h2, h3, h4⟩
          refine ⟨j, h1, h2, ?_, h4⟩
          rw [if_neg (fun e => hp ⟨by omega, by rw [← e]; exact h3⟩)]
          exact h3
        · rintro ⟨j, h1, h2, h3, h4⟩
          split at h3
          · cases h3
          · exact ⟨j, h1, h2, h3, h4⟩
      · unfold updB; split
        · rfl
        · exact h.cb
      · unfold updB; split
        · rfl
        · exact h.cx
      · unfold updB; rw [if_neg (by omega)]; exact h.ab j hj
/-- the sender's packet, as it is read -/
def dataP (n : Nat) (py : ByteArray) : PP := ⟨false, false, 96, ((n % 65536 : Nat) : Int), 5, 3, 0, 0, [], ⟨#[]⟩, cutF py 100⟩
theorem told_read (ty nu so : Int) (py : ByteArray) (h1 : 0 ≤ ty ∧ ty ≤ 127) (h2 : 0 ≤ nu ∧ nu ≤ 65535) (h3 : 0 ≤ so ∧ so ≤ 4294967295) (hp : py.size ≤ 100) :
    readP (tellR false false ty nu 5 so 0 0 [] ⟨#[]⟩ py).1 = some ⟨false, false, ty, nu, 5, so, 0, 0, [], ⟨#[]⟩, py⟩ ∧ (tellR false false ty nu 5 so 0 0 [] ⟨#[]⟩ py).1.size ≤ 1500 := by
  have hok : tellOk false ty nu 5 so 0 0 [] ⟨#[]⟩ = true := by
    have hh : headOk ty nu 5 so [] = true := by
      simp only [headOk, allIn, Bool.and_eq_true, decide_eq_true_eq]
      exact ⟨⟨⟨⟨⟨h1, h2⟩, by omega⟩, h3⟩, by simp⟩, by simp⟩
    unfold tellOk
    rw [hh]
    rfl
  have hl : plen false [] ⟨#[]⟩ py 0 ≤ 1500 := by
    unfold plen
    simp
    omega
  have hs := tellB_length false false ty nu 5 so 0 0 [] ⟨#[]⟩ py (by omega)
  unfold tellR
  rw [if_pos hok, if_neg (by omega)]
  refine ⟨read_of_told false false ty nu 5 so 0 0 [] ⟨#[]⟩ py hok hl, ?_⟩
  rw [Lib.size_eq]
  simp only
  omega
theorem dataT_read (n : Nat) (py : ByteArray) : readP (dataT n py) = some (dataP n py) ∧ (dataT n py).size ≤ 1500 :=
  told_read 96 ((n % 65536 : Nat) : Int) 3 (cutF py 100) (by omega) (by omega) (by omega) (cutF_size py 100)
theorem textOf_read (x : Wn) (n : Nat) (py : ByteArray) (h1 : 0 ≤ x.pl.ty ∧ x.pl.ty ≤ 127) (h3 : 0 ≤ x.src ∧ x.src ≤ 4294967295) :
    readP (textOf x (dataP n py)) = some ⟨false, false, x.pl.ty, (numOf x (n % 65536) : Nat), 5, x.src, 0, 0, [], ⟨#[]⟩, cutF py 100⟩ ∧ (textOf x (dataP n py)).size ≤ 1500 := by
  have hn : numOf x (n % 65536) < 65536 := Nat.mod_lt _ (by decide)
  have := told_read x.pl.ty (numOf x (n % 65536) : Nat) x.src (cutF py 100) h1 (by omega) h3 (cutF_size py 100)
  exact this
/-- a packet for one sender and its want -/
def packet1 (c : Cfg) (s : Stt) (sd : Sd) (x : Wn) (l : Int) (n : Nat) (py : ByteArray) (cv : Value) : Md × List ByteArray × Int :=
  if (takeF sd (n % 65536) s.now c.window.toNat).2.1 = 1 then (⟨c, { s with givenUp := s.givenUp + (takeF sd (n % 65536) s.now c.window.toNat).2.2, late := s.late + 1 }, [(takeF sd (n % 65536) s.now c.window.toNat).1], [x], l⟩, [], 0)
  else if (takeF sd (n % 65536) s.now c.window.toNat).2.1 = 2 then (⟨c, { s with givenUp := s.givenUp + (takeF sd (n % 65536) s.now c.window.toNat).2.2, doubled := s.doubled + 1 }, [(takeF sd (n % 65536) s.now c.window.toNat).1], [x], l⟩, [], 0)
  else (⟨c, { s with givenUp := s.givenUp + (takeF sd (n % 65536) s.now c.window.toNat).2.2, passed := s.passed + 1 }, [(takeF sd (n % 65536) s.now c.window.toNat).1], [passW x (dataP n py) cv c.ring.toNat], l⟩, [textOf x (dataP n py)], 0)
theorem packetM_one (c : Cfg) (s : Stt) (sd : Sd) (x : Wn) (l : Int) (n : Nat) (py : ByteArray) (cv : Value) (h1 : sd.src = 3) (h2 : x.of_ = 3) :
    packetM ⟨c, s, [sd], [x], l⟩ (dataT n py) cv = packet1 c s sd x l n py cv := by
  have hs : sndPos ⟨c, s, [sd], [x], l⟩ (dataP n py).so = some 0 := by simp [sndPos, dataP, h1]
  have hn : (dataP n py).nu.toNat = n % 65536 := by simp only [dataP, Int.toNat_natCast]
  have hso : (dataP n py).so = 3 := rfl
  unfold packetM
  rw [(dataT_read n py).1]
  simp only [hs, List.getElem?_cons_zero, hn]
  unfold packet1
  split
  · simp [tookM]
  · split
    · simp [tookM]
    · simp [tookM, passTo, textsTo, hso, h2]
structure OnceSt (base w : Nat) (bg : Option Nat) (cm : Nat → Bool) (i : Nat) (M : Md) (s : Stt) (sd : Sd) (x : Wn) : Prop where
  eq : M = ⟨⟨4, w, 0, 0, 0, 1, 1⟩, s, [sd], [x], 1⟩
  now : s.now = 0
  tok : s.tokens = 0
  cnt : ∀ c ∈ [s.passed, s.late, s.doubled, s.wrong, s.unknown, s.again, s.refused, s.asked, s.givenUp], 0 ≤ c ∧ c ≤ i
  src : x.src = 7
  of_ : x.of_ = 3
  pl : x.pl = plan0
  kept : x.kept.length ≤ 4
  st : match bg with
    | none => sd.src = 3 ∧ sd.begun = false ∧ sd.gaps = [] ∧ sd.newest = 0 ∧ x.begun = false ∧ x.shift = 0 ∧ ∀ k, cm k = false
    | some b => (∃ mx, mx < w ∧ Took base b mx cm sd) ∧ x.begun = true ∧ x.shift = (65530 + 65536 - (base + b) % 65536) % 65536
theorem keepsF_len (x : Wn) (p : PP) (cv : Value) (ring : Nat) (h : x.kept.length ≤ ring) : (keepsF x p cv ring).length ≤ ring := by
  have := rmF_length Kp.n (numOf x p.nu.toNat) x.kept
  unfold keepsF
  split
  · rw [List.length_drop, List.length_append]
    simp only [List.length_cons, List.length_nil]
    omega
  · omega
theorem OnceSt.ok {base w i : Nat} {bg : Option Nat} {cm : Nat → Bool} {M : Md} {s : Stt} {sd : Sd} {x : Wn} (h : OnceSt base w bg cm i M s sd x) (hw1 : 1 ≤ w) (hw : w ≤ 200) (hi : i ≤ 1000000) : MOk M := by
  have hpl := h.pl
  have hk := h.kept
  have hst := h.st
  rw [h.eq]
  refine ⟨?_, ?_, ?_, fun c hc => ?_, by simp, fun s' hs' => ?_, fun x' hx' => ?_⟩
  · unfold cfgOk
    refine decide_eq_true ?_
    simp only
    omega
  · simp [h.now]
  · simp [h.tok]
  · have := h.cnt c hc
    omega
  · simp only [List.mem_singleton] at hs'
    subst hs'
    cases bg with
    | none =>
      obtain ⟨-, -, hg, hn, -⟩ := hst
      rw [hg, hn]
      exact ⟨fun x hx => by simp at hx, by omega, by simp⟩
    | some b =>
      obtain ⟨⟨mx, hmx, hT⟩, -⟩ := hst
      refine ⟨fun g hg => ?_, ?_, ?_⟩
      · obtain ⟨k, -, -, -, e⟩ := (hT.mem g.n).1 (List.mem_map_of_mem hg)
        omega
      · rw [hT.nw]; omega
      · have := hT.len; omega
  · simp only [List.mem_singleton] at hx'
    subst hx'
    unfold WOk
    rw [hpl]
    refine ⟨by simp [plan0], by simp [plan0], ?_, by omega⟩
    cases bg with
    | none => obtain ⟨-, -, -, -, -, hs, -⟩ := hst; omega
    | some b => obtain ⟨-, -, hs⟩ := hst; omega
theorem cnt_up {s s' : Stt} {i : Nat} (h : ∀ c ∈ [s.passed, s.late, s.doubled, s.wrong, s.unknown, s.again, s.refused, s.asked, s.givenUp], 0 ≤ c ∧ c ≤ (i : Int)) (h0 : s'.passed = s.passed ∨ s'.passed = s.passed + 1) (h1 : s'.late = s.late ∨ s'.late = s.late + 1) (h2 : s'.doubled = s.doubled ∨ s'.doubled = s.doubled + 1) (h3 : s'.wrong = s.wrong ∨ s'.wrong = s.wrong + 1) (h4 : s'.unknown = s.unknown ∨ s'.unknown = s.unknown + 1) (h5 : s'.again = s.again ∨ s'.again = s.again + 1) (h6 : s'.refused = s.refused ∨ s'.refused = s.refused + 1) (h7 : s'.asked = s.asked ∨ s'.asked = s.asked + 1) (h8 : s'.givenUp = s.givenUp) : ∀ c ∈ [s'.passed, s'.late, s'.doubled, s'.wrong, s'.unknown, s'.again, s'.refused, s'.asked, s'.givenUp], 0 ≤ c ∧ c ≤ ((i + 1 : Nat) : Int) := by
  have a0 := h s.passed (by simp)
  have a1 := h s.late (by simp)
  have a2 := h s.doubled (by simp)
  have a3 := h s.wrong (by simp)
  have a4 := h s.unknown (by simp)
  have a5 := h s.again (by simp)
  have a6 := h s.refused (by simp)
  have a7 := h s.asked (by simp)
  have a8 := h s.givenUp (by simp)
  intro c hc
  simp only [List.mem_cons, List.not_mem_nil, or_false] at hc
  rcases hc with rfl | rfl | rfl | rfl | rfl | rfl | rfl | rfl | rfl <;> omega
set_option maxHeartbeats 800000 in
theorem once_step {base w i k : Nat} {bg : Option Nat} {cm : Nat → Bool} {M : Md} {s : Stt} {sd : Sd} {x : Wn} (h : OnceSt base w bg cm i M s sd x) (hw : w ≤ 200) (hk : k < w) (py : ByteArray) (cv : Value) :
    (∃ s' sd' x', OnceSt base w (some (bg.getD k)) (updB cm k) (i + 1) (packetM M (dataT (base + k) py) cv).1 s' sd' x') ∧ (packetM M (dataT (base + k) py) cv).2.2 = 0 ∧
      (packetM M (dataT (base + k) py) cv).2.1 = (if bg.getD k ≤ k ∧ cm k = false then [textOf x (dataP (base + k) py)] else []) ∧
      (bg.getD k ≤ k → numOf x ((base + k) % 65536) = (65530 + k - bg.getD k) % 65536) := by
  have hst := h.st
  have hcnt := h.cnt
  have hsd : sd.src = 3 := by
    cases bg with
    | none => exact hst.1
    | some b => obtain ⟨⟨mx, hmx, hT⟩, -⟩ := hst; exact hT.src
  have hwt : ((w : Int)).toNat = w := by omega
  rw [h.eq, packetM_one _ s sd x 1 (base + k) py cv hsd h.of_]
  unfold packet1
  simp only [hwt]
  cases bg with
  | none =>
    obtain ⟨-, hb, hg, -, hxb, hxs, hc⟩ := hst
    obtain ⟨hT, e2⟩ := Took.first (base := base) (k := k) hsd hb hg hc s.now w
    simp only [Option.getD_none]
    rw [e2]
    rw [if_neg (by simp), if_neg (by simp), if_pos ⟨Nat.le_refl _, hc k⟩]
    have hsh : shiftOf x ((base + k) % 65536) = (65530 + 65536 - (base + k) % 65536) % 65536 := by
      unfold shiftOf
      rw [hxb, h.pl]
      rfl
    refine ⟨⟨_, _, _, rfl, h.now, h.tok, cnt_up hcnt (.inr rfl) (.inl rfl) (.inl rfl) (.inl rfl) (.inl rfl) (.inl rfl) (.inl rfl) (.inl rfl) (Int.add_zero _), h.src, h.of_, h.pl, keepsF_len _ _ _ _ h.kept, ⟨k, hk, hT⟩, rfl, ?_⟩, rfl, rfl, fun _ => ?_⟩
    · exact hsh
    · unfold numOf
      rw [hsh]
      omega
  | some b =>
    obtain ⟨⟨mx, hmx, hT⟩, hxb, hxs⟩ := hst
    obtain ⟨mx', hmx', hT', e1, e2⟩ := hT.step s.now hmx hk hw
    simp only [Option.getD_some]
    rw [e1, e2]
    have hsh : ∀ n, shiftOf x n = x.shift := fun n => by
      unfold shiftOf
      rw [hxb]
      rfl
    have hnum : b ≤ k → numOf x ((base + k) % 65536) = (65530 + k - b) % 65536 := fun hbk => by
      unfold numOf
      rw [hsh, hxs]
      omega
    by_cases hp : b ≤ k ∧ cm k = false
    · simp only [if_pos hp]
      rw [if_neg (by omega), if_neg (by omega)]
      refine ⟨⟨_, _, _, rfl, h.now, h.tok, cnt_up hcnt (.inr rfl) (.inl rfl) (.inl rfl) (.inl rfl) (.inl rfl) (.inl rfl) (.inl rfl) (.inl rfl) (Int.add_zero _), h.src, h.of_, h.pl, keepsF_len _ _ _ _ h.kept, ⟨mx', hmx', hT'⟩, rfl, ?_⟩, rfl, rfl, hnum⟩
      · exact (hsh _).trans hxs
    · simp only [if_neg hp]
      rw [if_neg (by omega), if_pos trivial]
      refine ⟨⟨_, _, _, rfl, h.now, h.tok, cnt_up hcnt (.inl rfl) (.inl rfl) (.inr rfl) (.inl rfl) (.inl rfl) (.inl rfl) (.inl rfl) (.inl rfl) (Int.add_zero _), h.src, h.of_, h.pl, h.kept, ⟨mx', hmx', hT'⟩, hxb, hxs⟩, rfl, rfl, hnum⟩
theorem once_begin (base w : Nat) : OnceSt base w none (fun _ => false) 0 (bM ⟨4, w, 0, 0, 0, 1, 1⟩) ⟨0, 0, 0, 0, 0, 0, 0, 0, 0, 0, 0⟩ ⟨3, false, [], 0⟩ (newW 1 3 plan0 65534) :=
  ⟨rfl, rfl, rfl, fun c hc => by simp at hc; omega, rfl, rfl, rfl, by simp [newW], rfl, rfl, rfl, rfl, rfl, rfl, fun _ => rfl⟩
theorem row_forms {w : World} {B : Nat} {e : TypeId} {k : Nat} {v : Value} {n : Nat} {xs : List Value} (h : w.ownsRow B e k v n xs) : (v = .slice none 0 0 ∧ n = 0) ∨ ∃ g cap, v = .slice (some ⟨g, 0, none⟩) n cap := by
  rcases h.2 with ⟨h1, h2⟩ | ⟨g, cap, _, h1, _⟩
  · exact .inl ⟨h1, h2⟩
  · exact .inr ⟨g, cap, h1⟩
theorem row_one {w : World} {B : Nat} {e : TypeId} {v : Value} {t : ByteArray} (h : w.ownsRow B e 1 v 1 [.string t]) : ∃ g cap, v = .slice (some ⟨g, 0, none⟩) 1 cap ∧ w.cell? ⟨g, 0, none⟩ = some (.string t) ∧ g < w.heap.size := by
  rcases row_forms h with ⟨_, h1⟩ | ⟨g, cap, rfl⟩
  · cases h1
  · have hc := h.cellAt 0 (by omega)
    exact ⟨g, cap, rfl, hc, (h.lt g rfl).2⟩
theorem row_none {w : World} {B : Nat} {e : TypeId} {v : Value} {xs : List Value} (h : w.ownsRow B e 1 v 0 xs) : ∃ a cap, v = .slice a 0 cap := by
  rcases row_forms h with ⟨rfl, _⟩ | ⟨g, cap, rfl⟩
  · exact ⟨none, 0, rfl⟩
  · exact ⟨some ⟨g, 0, none⟩, cap, rfl⟩
end Pk
end Go.Proofs.Ytdjhhnolcafkiaa

/- The closures of Ask; IndexFunc and DeleteFunc with them. -/
namespace Go.Proofs.Ytdjhhnolcafkiaa
open Go.RowKit
namespace Pk
def dueB (now retry : Int) (g : Gp) : Bool := decide (retry ≤ now - g.last)
def goneB (now retry tries : Int) (g : Gp) : Bool := dueB now retry g && decide (tries ≤ g.tries)
/-- what the closures hold -/
structure AskEnv (A R D T : Nat) (now retry tries : Int) (W : World) : Prop where
  a : W.cell? ⟨A, 0, none⟩ = some (.int .i64 now)
  r : W.cell? ⟨R, 0, none⟩ = some (.int .i64 retry)
  d : W.cell? ⟨D, 0, none⟩ = some (.func (.func 126) #[] #[.pointer (some ⟨A, 0, none⟩), .pointer (some ⟨R, 0, none⟩)])
  t : W.cell? ⟨T, 0, none⟩ = some (.int .i64 tries)
theorem i64_s (n : Int) (h0 : -9223372036854775808 ≤ n) (h1 : n < 9223372036854775808) : IntKind.i64.wrap n = n := by simp [IntKind.wrap, IntKind.signed, IntKind.bits]; omega
theorem AskEnv.chg {P : Nat → Prop} {A R D T : Nat} {now retry tries : Int} {W W' : World} (h : AskEnv A R D T now retry tries W) (hc : Chg P W W') (h1 : ¬ P A) (h2 : ¬ P R) (h3 : ¬ P D) (h4 : ¬ P T) : AskEnv A R D T now retry tries W' := ⟨hc.cell h.a h1, hc.cell h.r h2, hc.cell h.d h3, hc.cell h.t h4⟩
theorem AskEnv.below {A R D T : Nat} {now retry tries : Int} {W W' : World} (h : AskEnv A R D T now retry tries W) (hb : Below W.heap.size W W') : AskEnv A R D T now retry tries W' := h.chg (P := fun _ => False) (Chg.ofBelow hb) (fun e => e) (fun e => e) (fun e => e) (fun e => e)
def GOk1 (g : Gp) : Prop := (0 ≤ g.last ∧ g.last ≤ 2000000000000000) ∧ 0 ≤ g.tries ∧ g.tries ≤ 2000000000000000
end Pk
open Pk

set_option maxHeartbeats 1000000 in
theorem ask1_any (g : Gp) (A R D T : Nat) (now retry tries : Int) (W : World) (h : AskEnv A R D T now retry tries W) (hg : GOk1 g) (hn : 0 ≤ now ∧ now ≤ 2000000000000000) :
    Calls Try.prog 126 #[.agg #[.int .i64 g.last, .int .i64 g.tries], .pointer (some ⟨A, 0, none⟩), .pointer (some ⟨R, 0, none⟩)] W fun e w' => e = .returned (.bool (dueB now retry g)) ∧ Below W.heap.size W w' := by
  have ya := h.a
  have yr := h.r
  have ha : A < W.heap.size := lt_of_cell ya
  have hr : R < W.heap.size := lt_of_cell yr
  have hna : A ≠ W.heap.size := by omega
  have hnr : R ≠ W.heap.size := by omega
  obtain ⟨gn, gl, gt⟩ := g
  obtain ⟨⟨l0, l1⟩, t0, t1⟩ := hg
  simp only at l0 l1 t0 t1
  have hw : IntKind.i64.wrap (now - gl) = now - gl := i64_s _ (by omega) (by omega)
  clear h
  go_enter Try.func126, Try.ntmps126
  go_wp2
  go_ret
  exact ⟨ret_bool (by unfold dueB; simp), (Below.refl _ _).alloc (Nat.le_refl _) _⟩

set_option maxHeartbeats 1000000 in
theorem ask2_any (g : Gp) (A R D T : Nat) (now retry tries : Int) (W : World) (h : AskEnv A R D T now retry tries W) (hg : GOk1 g) (hn : 0 ≤ now ∧ now ≤ 2000000000000000) :
    Calls Try.prog 128 #[.agg #[.int .u16 g.n, .int .i64 g.last, .int .i64 g.tries], .pointer (some ⟨D, 0, none⟩), .pointer (some ⟨T, 0, none⟩)] W fun e w' => e = .returned (.bool (goneB now retry tries g)) ∧ Below W.heap.size W w' := by
  have H : Hid (AskEnv A R D T now retry tries W) := h
  have Hg : Hid (GOk1 g) := hg
  have yd := h.d
  have hd : D < W.heap.size := lt_of_cell yd
  have ht : T < W.heap.size := lt_of_cell h.t
  have hnd : D ≠ W.heap.size := by omega
  have hnt : T ≠ W.heap.size := by omega
  clear h hg
  go_enter Try.func128, Try.ntmps128
  go_wp2_with fail
  have H1 : Hid (AskEnv A R D T now retry tries (W.alloc (.cells #[.int .u16 g.n, .int .i64 g.last, .int .i64 g.tries] 156))) := H.out.below ((Below.refl _ _).alloc (Nat.le_refl _) _)
  refine (ask1_any g A R D T now retry tries _ H1.out Hg.out hn).mono ?_
  rintro e w1 ⟨rfl, hb1⟩
  have HB : Hid (Below W.heap.size W w1) := ((Below.refl _ _).alloc (Nat.le_refl _) _).trans (hb1.mono (by simp))
  have yt := (H1.out.below hb1).t
  have y2 : w1.cell? ⟨W.heap.size, 2, none⟩ = some (.int .i64 g.tries) := (hb1.cell (p := ⟨W.heap.size, 2, none⟩) (by simp)).trans (cell_new _ _ _ 2)
  clear hb1
  cases hd : dueB now retry g with
  | false =>
    go_wp2
    go_ret
    exact ⟨ret_bool (by unfold goneB; rw [hd]; rfl), HB.out⟩
  | true =>
    go_wp2
    go_ret
    exact ⟨ret_bool (by unfold goneB; rw [hd]; simp), HB.out⟩

set_option maxRecDepth 20000 in
set_option maxHeartbeats 2000000 in
theorem indexA_any (base : Nat) (v : Value) (l : List Gp) (A R D T : Nat) (now retry tries : Int) (w : World) (hown : w.ownsRow base 156 3 v l.length (l.flatMap cellsG)) (h : AskEnv A R D T now retry tries w) (hg : ∀ g ∈ l, GOk1 g) (hnow : 0 ≤ now ∧ now ≤ 2000000000000000) (hn : l.length ≤ 100000) :
    Calls Try.prog 130 #[v, .func (.func 128) #[] #[.pointer (some ⟨D, 0, none⟩), .pointer (some ⟨T, 0, none⟩)]] w fun e w' => e = .returned (.int .i64 (posI (l.findIdx? (goneB now retry tries)))) ∧ Below w.heap.size w w' := by
  obtain ⟨ao, cap, rfl⟩ := rowA_shape hown
  have Hown : Hid (w.ownsRow base 156 3 (.slice ao l.length cap) l.length (l.flatMap cellsG)) := hown
  have H : Hid (AskEnv A R D T now retry tries w) := h
  have Hg : Hid (∀ g ∈ l, GOk1 g) := hg
  clear hown h hg
  go_enter Try.func130, Try.ntmps130
  go_wp2
  go_loopw [8] (fun s8 wr => ∃ k : Nat, k ≤ l.length ∧ s8 = .int .i64 k ∧ (∀ m (hm : m < l.length), m < k → goneB now retry tries l[m] = false) ∧ Below w.heap.size w wr) (fun s8 _ => l.length - (intOf s8).toNat)
  case atStart => exact ⟨0, Nat.zero_le _, rfl, fun m _ hm => by omega, Below.refl _ _⟩
  case round =>
    obtain ⟨k, hk, rfl, hno, hbel⟩ := hrel
    have Hno : Hid (∀ m (hm : m < l.length), m < k → goneB now retry tries l[m] = false) := hno
    have Hbel : Hid (Below w.heap.size w wr) := hbel
    clear hno hbel
    by_cases hlt : k < l.length
    · have hlt' : (k : Int) < l.length := by omega
      obtain ⟨g, rfl⟩ := rowA_some Hown.out (by omega)
      have hglt : g < w.heap.size := (Hown.out.lt g rfl).2
      obtain ⟨x, hx⟩ : ∃ x, l[k] = x := ⟨_, rfl⟩
      have at_ : ∀ j, j < 3 → ∀ u, (cellsG x)[j]? = some u → wr.cell? ⟨g, k * 3 + j, none⟩ = some u := fun j hj u hu => by
        refine (Hbel.out.cell (p := ⟨g, k * 3 + j, none⟩) hglt).trans ?_
        rw [Hown.out.cellAt (k * 3 + j) (by omega), flat_at cellsG_len l k j hlt hj, hx]
        exact hu
      have d0 : wr.cell? ⟨g, k * 3, none⟩ = some (.int .u16 x.n) := at_ 0 (by omega) _ rfl
      have d1 : wr.cell? ⟨g, k * 3 + 1, none⟩ = some (.int .i64 x.last) := at_ 1 (by omega) _ rfl
      have d2 : wr.cell? ⟨g, k * 3 + 2, none⟩ = some (.int .i64 x.tries) := at_ 2 (by omega) _ rfl
      have HE : Hid (AskEnv A R D T now retry tries wr) := H.out.chg (P := fun _ => False) ⟨Hbel.out.os, Hbel.out.tape, Hbel.out.output, Hbel.out.size, fun b hb _ => Hbel.out.block b hb⟩ (fun e => e) (fun e => e) (fun e => e) (fun e => e)
      have Hx : Hid (l[k] = x) := hx
      have Hgx : Hid (GOk1 x) := hx ▸ Hg.out _ (List.getElem_mem hlt)
      clear at_ hx
      go_wp2_with fail
      refine (ask2_any x A R D T now retry tries _ HE.out Hgx.out hnow).mono ?_
      rintro e w1 ⟨rfl, hb1⟩
      have Hb1 : Hid (Below w.heap.size w w1) := Hbel.out.trans (hb1.mono Hbel.out.size)
      clear hb1 d0 d1 d2
      cases he : goneB now retry tries x with
      | true =>
        have Hp : Hid (posI (l.findIdx? (goneB now retry tries)) = (k : Int)) := by
          show _ = _
          rw [idx_some hlt Hno.out (by rw [Hx.out]; exact he)]
          rfl
        go_wp2
        go_ret
        exact ⟨ret_int Hp.out.symm, Hb1.out⟩
      | false =>
        have He : Hid (goneB now retry tries x = false) := he
        clear he
        go_wp2
        go_roundw
        case rel => exact ⟨k + 1, by omega, by go_num, fun m hm hmk => by
          rcases Nat.lt_or_ge m k with h | h
          · exact Hno.out m hm h
          · obtain rfl : m = k := by omega
            rw [Hx.out]; exact He.out, Hb1.out⟩
        case measure => simp [intOf]; omega
    · have hlt' : ¬ (k : Int) < l.length := by omega
      have Hp : Hid (posI (l.findIdx? (goneB now retry tries)) = -1) := by
        show _ = _
        rw [idx_none (by omega) Hno.out]
        rfl
      go_wp2
      go_ret
      exact ⟨ret_int Hp.out.symm, Hbel.out⟩

end Go.Proofs.Ytdjhhnolcafkiaa

/- slices.DeleteFunc with the closure of Ask. -/
namespace Go.Proofs.Ytdjhhnolcafkiaa
open Go.RowKit
namespace Pk
theorem flat_put {α : Type} {f : α → List Value} {k : Nat} (hf : ∀ x, (f x).length = k) (l : List α) (i : Nat) (y : α) (h : i < l.length) : (l.flatMap f).take (i * k) ++ f y ++ (l.flatMap f).drop (i * k + (f y).length) = (l.set i y).flatMap f := by
  rw [flat_take hf, hf, show i * k + k = (i + 1) * k by rw [Nat.succ_mul], flat_drop hf, List.set_eq_take_append_cons_drop, if_pos h, List.flatMap_append, List.flatMap_cons, List.append_assoc]
theorem take_set_last {α : Type} (l : List α) (i : Nat) (y : α) (h : i < l.length) : (l.set i y).take (i + 1) = l.take i ++ [y] := by
  rw [List.take_succ_eq_append_getElem (by rw [List.length_set]; exact h), List.getElem_set_self, List.take_set_of_le (Nat.le_refl _)]
theorem filter_take {α : Type} (p : α → Bool) (l : List α) (j : Nat) (h : j < l.length) : (l.take (j + 1)).filter p = (l.take j).filter p ++ (if p l[j] = true then [l[j]] else []) := by
  rw [List.take_succ_eq_append_getElem h, List.filter_append]
  congr 1
  by_cases hp : p l[j] = true
  · simp [hp]
  · simp [hp]
/-- how things stand while elements are deleted -/
structure DelRel (w : World) (base g cap : Nat) (l : List Gp) (gone : Gp → Bool) (i j : Nat) (cur : List Gp) (W : World) : Prop where
  lt : i < j
  le : j ≤ l.length
  len : cur.length = l.length
  hd : cur.take i = (l.take j).filter (fun x => !gone x)
  tl : cur.drop j = l.drop j
  row : W.ownsRow base 156 3 (.slice (some ⟨g, 0, none⟩) l.length cap) l.length (cur.flatMap cellsG)
  chg : Chg (fun b => b = g) w W
theorem DelRel.at_ {w : World} {base g cap : Nat} {l : List Gp} {gone : Gp → Bool} {i j : Nat} {cur : List Gp} {W : World} (h : DelRel w base g cap l gone i j cur W) (hj : j < l.length) : cur[j]'(by rw [h.len]; exact hj) = l[j] := by
  have e := congrArg (fun q => q[0]?) h.tl
  simp only [List.getElem?_drop, Nat.add_zero] at e
  rw [List.getElem?_eq_getElem (by rw [h.len]; exact hj), List.getElem?_eq_getElem hj] at e
  exact Option.some.inj e
theorem DelRel.skip {w : World} {base g cap : Nat} {l : List Gp} {gone : Gp → Bool} {i j : Nat} {cur : List Gp} {W W' : World} (h : DelRel w base g cap l gone i j cur W) (hj : j < l.length) (hp : gone l[j] = true) (hb : Below W.heap.size W W') : DelRel w base g cap l gone i (j + 1) cur W' := by
  refine ⟨Nat.lt_succ_of_lt h.lt, hj, h.len, ?_, ?_, rowA_chg (Chg.ofBelow (T := fun _ => False) hb) h.row (fun _ _ e => e), h.chg.trans (Chg.ofBelow (T := fun _ => False) hb) (fun _ _ e => e.elim)⟩
  · rw [h.hd, filter_take _ l j hj, hp]
    simp
  · have e := congrArg (List.drop 1) h.tl
    rw [List.drop_drop, List.drop_drop] at e
    exact e
theorem DelRel.keep {w : World} {base g cap : Nat} {l : List Gp} {gone : Gp → Bool} {i j : Nat} {cur : List Gp} {W W' : World} (h : DelRel w base g cap l gone i j cur W) (hj : j < l.length) (hp : gone l[j] = false) (hb : Below W.heap.size W W') : DelRel w base g cap l gone (i + 1) (j + 1) (cur.set i l[j]) (W'.setCells g (i * 3) (cellsG l[j])) := by
  have hi : i < cur.length := by rw [h.len]; have := h.lt; omega
  have h1 : W'.ownsRow base 156 3 (.slice (some ⟨g, 0, none⟩) l.length cap) l.length (cur.flatMap cellsG) := rowA_chg (Chg.ofBelow (T := fun _ => False) hb) h.row (fun _ _ e => e)
  obtain ⟨R1, R2⟩ := row_writes (cellsG l[j]) (i * 3) W' _ h1 (by rw [flat_length cellsG_len, cellsG_len]; omega)
  rw [flat_put cellsG_len cur i l[j] hi] at R1
  refine ⟨by have := h.lt; omega, hj, by rw [List.length_set]; exact h.len, ?_, ?_, R1, (h.chg.trans (Chg.ofBelow (T := fun _ => False) hb) (fun _ _ e => e.elim)).trans (Chg.ofGrown R2) (fun b _ e => by injection e with e; exact e.symm)⟩
  · rw [take_set_last cur i _ hi, h.hd, filter_take _ l j hj, hp]
    simp
  · rw [List.drop_set_of_lt (by have := h.lt; omega)]
    have e := congrArg (List.drop 1) h.tl
    rw [List.drop_drop, List.drop_drop] at e
    exact e
theorem grown_of_chg {a b : World} {g : Nat} (h : Chg (fun x => x = g) a b) : a.grownBy b (some g) := ⟨h.os, h.tape, h.output, h.size, fun k hk hne => h.block k hk (fun e => hne (by rw [e]))⟩
end Pk
open Pk

set_option maxRecDepth 20000 in
set_option maxHeartbeats 4000000 in
theorem deleteA_any (base : Nat) (v : Value) (l : List Gp) (A R D T : Nat) (now retry tries : Int) (w : World) (hown : w.ownsRow base 156 3 v l.length (l.flatMap cellsG)) (h : AskEnv A R D T now retry tries w) (hv : ∀ b, v.ownBlock = some b → b ≠ A ∧ b ≠ R ∧ b ≠ D ∧ b ≠ T) (hg : ∀ g ∈ l, GOk1 g) (hnow : 0 ≤ now ∧ now ≤ 2000000000000000) (hn : l.length ≤ 100000) :
    Calls Try.prog 127 #[v, .func (.func 128) #[] #[.pointer (some ⟨D, 0, none⟩), .pointer (some ⟨T, 0, none⟩)]] w fun e w' => ∃ v', e = .returned v' ∧ w'.ownsRow base 156 3 v' (l.filter (fun x => !goneB now retry tries x)).length ((l.filter (fun x => !goneB now retry tries x)).flatMap cellsG) ∧ w.grownBy w' v.ownBlock ∧ v'.ownBlock = v.ownBlock := by
  obtain ⟨ao, cap, rfl⟩ := rowA_shape hown
  have hcap : l.length ≤ cap ∧ (cap : Int) ≤ 9223372036854775807 := by
    obtain ⟨_, ⟨h2, h0⟩ | ⟨g, cap', cur, e', _, _, hn', hm', _⟩⟩ := hown
    · simp only [Value.slice.injEq] at h2
      omega
    · simp only [Value.slice.injEq] at e'
      unfold maxLen at hm'
      omega
  obtain ⟨hcap, hcm⟩ := hcap
  have Hown : Hid (w.ownsRow base 156 3 (.slice ao l.length cap) l.length (l.flatMap cellsG)) := hown
  have H : Hid (AskEnv A R D T now retry tries w) := h
  have Hg : Hid (∀ g ∈ l, GOk1 g) := hg
  have Hv : Hid (∀ b, (Value.slice ao l.length cap).ownBlock = some b → b ≠ A ∧ b ≠ R ∧ b ≠ D ∧ b ≠ T) := hv
  clear hown h hg hv
  go_enter Try.func127, Try.ntmps127
  go_wp2_with fail
  refine (indexA_any base _ l A R D T now retry tries _ Hown.out H.out Hg.out hnow hn).mono ?_
  rintro e w1 ⟨rfl, hb1⟩
  have HB1 : Hid (Below w.heap.size w w1) := hb1
  clear hb1
  cases hf : l.findIdx? (goneB now retry tries) with
  | none =>
    have hfl : l.filter (fun x => !goneB now retry tries x) = l := by
      rw [List.filter_eq_self]
      intro x hx
      rw [List.findIdx?_eq_none_iff.1 hf x hx]
      rfl
    have HF : Hid (w1.ownsRow base 156 3 (.slice ao l.length cap) (l.filter (fun x => !goneB now retry tries x)).length ((l.filter (fun x => !goneB now retry tries x)).flatMap cellsG)) := by
      show World.ownsRow _ _ _ _ _ _ _
      rw [hfl]
      exact rowA_chg (Chg.ofBelow (T := fun _ => False) HB1.out) Hown.out (fun _ _ e => e)
    clear hf hfl
    simp only [posI]
    go_wp2
    go_ret
    exact ⟨_, rfl, HF.out, ⟨HB1.out.os, HB1.out.tape, HB1.out.output, HB1.out.size, fun k hk _ => HB1.out.block k hk⟩, rfl⟩
  | some i =>
    obtain ⟨hil, hip, hib⟩ := List.findIdx?_eq_some_iff_getElem.1 hf
    obtain ⟨g, rfl⟩ := rowA_some Hown.out (by omega)
    have HD0 : Hid (DelRel w base g cap l (goneB now retry tries) i (i + 1) l w1) := by
      refine ⟨Nat.lt_succ_self _, hil, rfl, ?_, rfl, rowA_chg (Chg.ofBelow (T := fun _ => False) HB1.out) Hown.out (fun _ _ e => e), Chg.ofBelow HB1.out⟩
      rw [filter_take _ l i hil, hip]
      simp only [Bool.not_true, Bool.false_eq_true, if_false, List.append_nil]
      refine (List.filter_eq_self.2 (fun x hx => ?_)).symm
      obtain ⟨m, hm, rfl⟩ := List.mem_iff_getElem.1 hx
      rw [List.length_take] at hm
      rw [List.getElem_take]
      have := hib m (by omega)
      simpa using this
    have hne : ((i : Int) == -1) = false := by rw [beq_eq_false_iff_ne]; omega
    have hA : w.heap.size ≤ w1.heap.size := HB1.out.size
    have Hvg : Hid (g ≠ A ∧ g ≠ R ∧ g ≠ D ∧ g ≠ T) := Hv.out g rfl
    clear hf hip hib HB1
    simp only [posI]
    go_wp2
    go_loopw [5, 6] (fun s5 s6 wr => ∃ (i j : Nat) (cur : List Gp), s5 = .int .i64 i ∧ s6 = .int .i64 j ∧ DelRel w base g cap l (goneB now retry tries) i j cur wr) (fun _ s6 _ => l.length - (intOf s6).toNat)
    case atStart => exact ⟨i, i + 1, l, rfl, by go_num, HD0.out⟩
    case round =>
      obtain ⟨i, j, cur, rfl, rfl, hD⟩ := hrel
      have HD : Hid (DelRel w base g cap l (goneB now retry tries) i j cur wr) := hD
      have hij := hD.lt
      have hjl := hD.le
      clear hD
      by_cases hlt : j < l.length
      · have hlt' : (j : Int) < l.length := by omega
        obtain ⟨x, hx⟩ : ∃ x, l[j] = x := ⟨_, rfl⟩
        have hcl : cur.length = l.length := HD.out.len
        have at_ : ∀ q, q < 3 → ∀ u, (cellsG x)[q]? = some u → wr.cell? ⟨g, j * 3 + q, none⟩ = some u := fun q hq u hu => by
          rw [HD.out.row.cellAt (j * 3 + q) (by omega), flat_at cellsG_len cur j q (by omega) hq, HD.out.at_ hlt, hx]
          exact hu
        have d0 : wr.cell? ⟨g, j * 3, none⟩ = some (.int .u16 x.n) := at_ 0 (by omega) _ rfl
        have d1 : wr.cell? ⟨g, j * 3 + 1, none⟩ = some (.int .i64 x.last) := at_ 1 (by omega) _ rfl
        have d2 : wr.cell? ⟨g, j * 3 + 2, none⟩ = some (.int .i64 x.tries) := at_ 2 (by omega) _ rfl
        have HE : Hid (AskEnv A R D T now retry tries (wr.alloc (.cells #[.int .u16 x.n, .int .i64 x.last, .int .i64 x.tries] 156))) := (H.out.chg HD.out.chg (fun e => Hvg.out.1 e.symm) (fun e => Hvg.out.2.1 e.symm) (fun e => Hvg.out.2.2.1 e.symm) (fun e => Hvg.out.2.2.2 e.symm)).below ((Below.refl _ _).alloc (Nat.le_refl _) _)
        have Hx : Hid (l[j] = x) := hx
        have Hgx : Hid (GOk1 x) := hx ▸ Hg.out _ (List.getElem_mem hlt)
        have hgl : g < wr.heap.size := (HD.out.row.lt g rfl).2
        clear at_ hx
        go_wp2_with fail
        refine (ask2_any x A R D T now retry tries _ HE.out Hgx.out hnow).mono ?_
        rintro e w2 ⟨rfl, hb2⟩
        have HB2 : Hid (Below wr.heap.size wr w2) := ((Below.refl _ _).alloc (Nat.le_refl _) _).trans (hb2.mono (by simp))
        have b0 : w2.cell? ⟨wr.heap.size, 0, none⟩ = some (.int .u16 x.n) := (hb2.cell (p := ⟨wr.heap.size, 0, none⟩) (by simp)).trans (cell_new _ _ _ 0)
        have b1 : w2.cell? ⟨wr.heap.size, 1, none⟩ = some (.int .i64 x.last) := (hb2.cell (p := ⟨wr.heap.size, 1, none⟩) (by simp)).trans (cell_new _ _ _ 1)
        have b2 : w2.cell? ⟨wr.heap.size, 2, none⟩ = some (.int .i64 x.tries) := (hb2.cell (p := ⟨wr.heap.size, 2, none⟩) (by simp)).trans (cell_new _ _ _ 2)
        clear hb2 d0 d1 d2 HE
        cases he : goneB now retry tries x with
        | true =>
          have HD2 : Hid (DelRel w base g cap l (goneB now retry tries) i (j + 1) cur w2) := HD.out.skip hlt (by rw [Hx.out]; exact he) HB2.out
          clear he b0 b1 b2
          go_wp2
          go_roundw
          case rel => exact ⟨i, j + 1, cur, rfl, by go_num, HD2.out⟩
          case measure => simp [intOf]; omega
        | false =>
          have HD2 : Hid (DelRel w base g cap l (goneB now retry tries) (i + 1) (j + 1) (cur.set i x) (((w2.setCell ⟨g, i * 3, none⟩ (.int .u16 x.n)).setCell ⟨g, i * 3 + 1, none⟩ (.int .i64 x.last)).setCell ⟨g, i * 3 + 2, none⟩ (.int .i64 x.tries))) := by
            have h := HD.out.keep hlt (by rw [Hx.out]; exact he) HB2.out
            rw [Hx.out] at h
            exact h
          have ee : ∀ q, q < 3 → ∃ u, w2.cell? ⟨g, i * 3 + q, none⟩ = some u := fun q hq => by
            have hr := rowA_chg (Chg.ofBelow (T := fun _ => False) HB2.out) HD.out.row (fun _ _ e => e)
            have h := hr.cellAt (i * 3 + q) (by omega)
            rw [List.getElem?_eq_getElem (by rw [flat_length cellsG_len]; omega)] at h
            exact ⟨_, h⟩
          obtain ⟨u0, e0⟩ := ee 0 (by omega)
          obtain ⟨u1, e1⟩ := ee 1 (by omega)
          obtain ⟨u2, e2⟩ := ee 2 (by omega)
          rw [Nat.add_zero] at e0
          have ef : ∀ o, w2.frozen? ⟨g, o, none⟩ = false := fun o => (rowA_chg (Chg.ofBelow (T := fun _ => False) HB2.out) HD.out.row (fun _ _ e => e)).frozenAt o
          have hil' : (i : Int) < l.length := by omega
          have hgn : g ≠ wr.heap.size := by omega
          clear he ee
          go_wp2
          go_roundw
          case rel => exact ⟨i + 1, j + 1, cur.set i x, by go_num, by go_num, HD2.out⟩
          case measure => simp [intOf]; omega
      · have hlt' : ¬ (j : Int) < l.length := by omega
        have hje : j = l.length := by omega
        have R1 := HD.out.row
        have hxl1 : (cur.flatMap cellsG).length = l.length * 3 := by rw [flat_length cellsG_len, HD.out.len]
        have hhd : cur.take i = l.filter (fun x => !goneB now retry tries x) := by rw [HD.out.hd, hje, List.take_length]
        have hfl : (l.filter (fun x => !goneB now retry tries x)).length = i := by
          rw [← hhd, List.length_take, HD.out.len]
          omega
        obtain ⟨zs, hzl, hcl⟩ := run_clear_row (P := Try.prog) wr 143 156 0 (.agg #[.int .u16 0, .int .i64 0, .int .i64 0]) Try.underlying143 zeroG (by intro u hu; simp [Value.cells] at hu; rcases hu with rfl | rfl <;> rfl) (by decide) g (i * 3) (l.length - i) (cap - i) (by omega) (fun q hq => by
          have hq' : q < (l.length - i) * 3 := hq
          have := R1.cellAt (i * 3 + q) (by omega)
          rw [this, List.getElem?_eq_getElem (by rw [hxl1]; omega)]
          rfl) (fun q _ => R1.frozenAt _)
        have hzl' : zs.length = (l.length - i) * 3 := hzl
        obtain ⟨R3, R4⟩ := row_writes zs (i * 3) wr _ R1 (by rw [hzl', hxl1]; omega)
        have F1 : Hid (World.ownsRow (wr.setCells g (i * 3) zs) base 156 3 (.slice (some ⟨g, 0, none⟩) i cap) (l.filter (fun x => !goneB now retry tries x)).length ((l.filter (fun x => !goneB now retry tries x)).flatMap cellsG)) := by
          have h := row_fewer R3 (m := i) (by omega) (.inl (by simp))
          have e : ((cur.flatMap cellsG).take (i * 3) ++ zs ++ (cur.flatMap cellsG).drop (i * 3 + zs.length)).take (i * 3) = (l.filter (fun x => !goneB now retry tries x)).flatMap cellsG := by
            rw [List.append_assoc, List.take_left' (by rw [List.length_take, hxl1]; omega), flat_take cellsG_len, hhd]
          rw [e] at h
          show World.ownsRow _ _ _ _ _ _ _
          rw [hfl]
          exact h
        have F2 : Hid (w.grownBy (wr.setCells g (i * 3) zs) (some g)) := (grown_of_chg HD.out.chg).trans R4
        have hcc : ∀ ty, (Builtin.clear_ #[143] ty #[.slice (some ⟨g, i * 3, none⟩) (l.length - i) (cap - i)]).run Try.prog wr = .ok (.tuple #[]) (wr.setCells g (i * 3) zs) := fun ty => hcl
        have h1 : i ≤ l.length := by omega
        have h2 : i ≤ cap := by omega
        have h3 : ¬ cap = i := by omega
        have h4 : (i : Int) ≤ l.length := by omega
        clear hcl R1 R3 R4 hzl hzl' hxl1 hhd hfl hje
        go_wp2_with (simp only [hcc])
        go_ret
        exact ⟨_, rfl, F1.out, F2.out, rfl⟩

end Go.Proofs.Ytdjhhnolcafkiaa

/- Look and Missing. -/
namespace Go.Proofs.Ytdjhhnolcafkiaa
open Go.RowKit
namespace Pk
def sttA (s : Stt) : Array Value := #[.int .i64 s.now, .int .i64 s.tokens, .int .i64 s.passed, .int .i64 s.late, .int .i64 s.doubled, .int .i64 s.wrong, .int .i64 s.unknown, .int .i64 s.again, .int .i64 s.refused, .int .i64 s.asked, .int .i64 s.givenUp]
def names (l : List Gp) : List Int := l.map fun g => (g.n : Int)
theorem cell_one_at (B : Nat) (w : World) (hB : B = w.heap.size) (v : Value) (t : TypeId) : ∀ j u, [v][j]? = some u → (w.alloc (.cells #[v] t)).cell? ((⟨B, 0, none⟩ : Addr).add j) = some u := by
  subst hB
  exact cell_one_new _ _ _
theorem names_take (l : List Gp) (k : Nat) (h : k < l.length) : names (l.take (k + 1)) = names (l.take k) ++ [((l[k]).n : Int)] := by
  unfold names
  rw [List.take_succ_eq_append_getElem h, List.map_append]
  rfl
theorem names_len (l : List Gp) (k : Nat) (h : k ≤ l.length) : (names (l.take k)).length = k := by
  unfold names
  rw [List.length_map, List.length_take]
  omega
end Pk
open Pk

set_option maxRecDepth 20000 in
set_option maxHeartbeats 1000000 in
theorem look_any (ρ : Nat → Nat) (mb : Nat) (M : Md) (sv wv : Value) (SB WB : List (Nat × Value)) (w : World) (h : MdAt w ρ mb M sv wv SB WB) :
    Calls Try.prog 31 #[.pointer (some ⟨mb, 0, none⟩)] w fun e w' => e = .returned (.agg (sttA M.s)) ∧ Below w.heap.size w w' := by
  have hlt := h.lt
  obtain ⟨c, s, sds, wns, last⟩ := M
  obtain ⟨t0, t1, t2, t3, t4, t5, t6, t7, t8, t9, t10⟩ := s
  have y0 : w.cell? ⟨mb, 7, none⟩ = some (.int .i64 t0) := h.k 7 _ rfl
  have y1 : w.cell? ⟨mb, 8, none⟩ = some (.int .i64 t1) := h.k 8 _ rfl
  have y2 : w.cell? ⟨mb, 9, none⟩ = some (.int .i64 t2) := h.k 9 _ rfl
  have y3 : w.cell? ⟨mb, 10, none⟩ = some (.int .i64 t3) := h.k 10 _ rfl
  have y4 : w.cell? ⟨mb, 11, none⟩ = some (.int .i64 t4) := h.k 11 _ rfl
  have y5 : w.cell? ⟨mb, 12, none⟩ = some (.int .i64 t5) := h.k 12 _ rfl
  have y6 : w.cell? ⟨mb, 13, none⟩ = some (.int .i64 t6) := h.k 13 _ rfl
  have y7 : w.cell? ⟨mb, 14, none⟩ = some (.int .i64 t7) := h.k 14 _ rfl
  have y8 : w.cell? ⟨mb, 15, none⟩ = some (.int .i64 t8) := h.k 15 _ rfl
  have y9 : w.cell? ⟨mb, 16, none⟩ = some (.int .i64 t9) := h.k 16 _ rfl
  have y10 : w.cell? ⟨mb, 17, none⟩ = some (.int .i64 t10) := h.k 17 _ rfl
  clear h
  go_enter Try.func31, Try.ntmps31
  go_wp2_with fail
  refine (orNone_any mb _).mono ?_
  rintro e w1 ⟨rfl, hw1⟩
  rw [hw1]
  clear hw1 w1
  go_wp2
  refine bodyPost_ret (v := .agg #[.int .i64 t0, .int .i64 t1, .int .i64 t2, .int .i64 t3, .int .i64 t4, .int .i64 t5, .int .i64 t6, .int .i64 t7, .int .i64 t8, .int .i64 t9, .int .i64 t10]) (by simp [results, Try.results31, go_sem]) rfl ⟨rfl, (Below.refl _ _).alloc (Nat.le_refl _) _⟩

set_option maxRecDepth 20000 in
set_option maxHeartbeats 2000000 in
theorem missingS_any (base sb : Nat) (v : Value) (s : Sd) (w : World) (h : SdAt w base sb v s) (h16 : In16G s.gaps) (hn : s.gaps.length ≤ 99000) :
    Calls Try.prog 60 #[.pointer (some ⟨sb, 0, none⟩)] w fun e w' => ∃ v', e = .returned v' ∧ OwnInts w' w.heap.size v' (names s.gaps) ∧ Below w.heap.size w w' := by
  obtain ⟨ao, cap, rfl⟩ := rowA_shape h.row
  have H : Hid (SdAt w base sb (.slice ao s.gaps.length cap) s) := h
  have H16 : Hid (In16G s.gaps) := h16
  have y2 := h.c2
  obtain ⟨n, hnn⟩ : ∃ n, s.gaps.length = n := ⟨_, rfl⟩
  have Hnn : Hid (s.gaps.length = n) := hnn
  rw [hnn] at y2 hn
  have hinfo : (Try.prog.info? 3).map (fun i => (i.zero, i.size, i.bytes)) = some (some (.int .i64 0), 1, 8) := by kernel_rfl
  obtain ⟨i0, hi, hz0, hz1, hz2⟩ := info_parts hinfo
  have Hi : Hid (Try.prog.info? 3 = some i0 ∧ i0.zero = some (.int .i64 0) ∧ i0.size = 1 ∧ i0.bytes = 8) := ⟨hi, hz0, hz1, hz2⟩
  have Hb0 : Hid (i0.bytes * n ≤ 281474976710656) := by show _ ≤ _; rw [hz2]; omega
  have hsb := h.lt
  clear h h16 hnn hi hz0 hz1 hz2 hinfo
  go_enter Try.func60, Try.ntmps60
  go_wp2_with (at_make; refine wpList_make_own _ rfl (.const (.int .i64 0)) (.tmp 11) 27 rfl w.heap.size 3 i0 (.int .i64 0) 1 Try.underlying27 Hi.out.1 Hi.out.2.1 Hi.out.2.2.1 .i64 .i64 _ n rfl rfl rfl Hb0.out (by unfold maxLen; omega) (Nat.le_refl _) ?_; intro w1 hown1 hg1; refine stop_here ?_)
  refine hid_in ?_
  have HB1 : Hid (Below w.heap.size w w1) := (Chg.ofGrown hg1).below (Nat.le_refl _) (fun x e => by cases e)
  have HO1 : Hid (OwnInts w1 w.heap.size (.slice (some ⟨w.heap.size, 0, none⟩) 0 n) (names (s.gaps.take 0))) := hown1
  have y2' : w1.cell? ⟨sb, 2, none⟩ = some (.slice ao n cap) := (HB1.out.cell (p := ⟨sb, 2, none⟩) hsb).trans y2
  clear hown1 hg1 y2
  go_wp2
  clear y2'
  go_loopw [3, 19] (fun v i wr => ∃ k : Nat, k ≤ n ∧ i = .int .i64 k ∧ OwnInts wr w.heap.size v (names (s.gaps.take k)) ∧ Below w.heap.size w wr) (fun _ i _ => n - (intOf i).toNat)
  case atStart => exact ⟨0, Nat.zero_le _, rfl, HO1.out, HB1.out⟩
  case round =>
    obtain ⟨k, hk, rfl, hown, hb⟩ := hrel
    have Hb : Hid (Below w.heap.size w wr) := hb
    have hlk : (names (s.gaps.take k)).length = k := names_len _ _ (by rw [Hnn.out]; exact hk)
    have h0 : wr.ownsRow _ _ _ _ _ _ := hown
    rw [hlk] at h0
    have Hown : Hid (wr.ownsRow _ _ _ _ _ _) := h0
    have hsz := hb.size
    clear hown h0 hlk hb
    by_cases hlt : k < n
    · have hlt' : (k : Int) < n := by omega
      have hkl : k < s.gaps.length := by rw [Hnn.out]; exact hlt
      obtain ⟨g, rfl⟩ := rowA_some H.out.row (by omega)
      have hgl := (H.out.row.lt g rfl).2
      have dd : ∀ j (hj : j < 3), wr.cell? ⟨g, k * 3 + j, none⟩ = (cellsG (s.gaps[k]))[j]? := fun j hj => by
        have h := H.out.row.cellAt (k * 3 + j) (by rw [Hnn.out]; omega)
        rw [flat_at cellsG_len s.gaps k j hkl hj] at h
        exact (Hb.out.cell (p := ⟨g, k * 3 + j, none⟩) hgl).trans h
      have d0 := dd 0 (by omega)
      have d1 := dd 1 (by omega)
      have d2 := dd 2 (by omega)
      clear dd
      have Htk := names_take s.gaps k hkl
      have hlk1 : Hid ((names (s.gaps.take (k + 1))).length = k + 1) := names_len _ _ (by omega)
      have hx16 := H16.out (s.gaps[k]) (List.getElem_mem hkl)
      obtain ⟨gk, hgk⟩ : ∃ gk, s.gaps[k] = gk := ⟨_, rfl⟩
      rw [hgk] at d0 d1 d2 Htk hx16
      clear hgk
      obtain ⟨xn, xl, xt⟩ := gk
      simp only [cellsG, List.getElem?_cons_zero, List.getElem?_cons_succ, Nat.add_zero] at d0 d1 d2 Htk hx16
      have hxw : IntKind.i64.wrap (xn : Int) = (xn : Int) := wrapI64 _ (by omega) (by omega)
      have HTk : Hid (names (s.gaps.take (k + 1)) = names (s.gaps.take k) ++ [(xn : Int)]) := Htk
      clear Htk
      go_wp2_with (at_builtin; (refine wpList_append_own _ rfl (.tmp 23) (.tmp 27) 27 rfl w.heap.size 3 i0 (.int .i64 0) 1 8 Try.underlying27 Hi.out.1 Hi.out.2.1 Hi.out.2.2.1 Hi.out.2.2.2 rfl (by decide) _ k ((names (s.gaps.take k)).map (Value.int .i64)) rfl (World.ownsRow.alloc (World.ownsRow.alloc Hown.out _) _) _ 1 1 [.int .i64 xn] rfl rfl (cell_one_at _ _ (by simp) _ _) ?_ ?_ ?_ ?_ ?_; (intro u hu; simp at hu; subst hu; rfl); (unfold maxLen; omega); omega; (simp; omega); intro v' w2 hown' hgrow _; refine stop_here ?_))
      refine hid_in ?_
      have R1 : Hid (OwnInts w2 w.heap.size v' (names (s.gaps.take (k + 1)))) := by
        show w2.ownsRow _ _ _ _ _ _
        rw [hlk1.out, HTk.out, List.map_append]
        exact hown'
      have R2 : Hid (Below w.heap.size w w2) := ((Hb.out.alloc Hb.out.size _).alloc (by simp; omega) _).grown hgrow (by simp; omega) (fun g hg => (World.ownsRow.lt Hown.out g hg).1)
      clear hown' hgrow d0 d1 d2
      go_wp2
      go_roundw
      case rel => exact ⟨k + 1, by omega, by go_num, R1.out, R2.out⟩
      case measure => simp [intOf]; omega
    · have hlt' : ¬ (k : Int) < n := by omega
      have h := Hown.out
      have e : k = n := by omega
      have e2 : s.gaps.take n = s.gaps := List.take_of_length_le (by rw [Hnn.out]; exact Nat.le_refl _)
      have e3 : n = (names s.gaps).length := by unfold names; rw [List.length_map, Hnn.out]
      rw [e, e2, e3] at h
      have R : Hid (OwnInts wr _ _ (names s.gaps)) := h
      clear h e2 e3
      go_wp2
      go_ret
      exact ⟨_, rfl, R.out, Hb.out⟩

set_option maxHeartbeats 1000000 in
theorem missing_any (ρ : Nat → Nat) (mb : Nat) (M : Md) (sv wv : Value) (SB WB : List (Nat × Value)) (source : Int) (w : World) (h : MdAt w ρ mb M sv wv SB WB) (hl : ∀ s ∈ M.sds, In16G s.gaps ∧ s.gaps.length ≤ 99000) :
    Calls Try.prog 33 #[.pointer (some ⟨mb, 0, none⟩), .int .i64 source] w fun e w' => Below w.heap.size w w' ∧
      ((sndPos M source = none ∧ e = .returned (.tuple #[.slice none 0 0, .int .i64 4])) ∨ ∃ i s v, sndPos M source = some i ∧ M.sds[i]? = some s ∧ e = .returned (.tuple #[v, .int .i64 0]) ∧ OwnInts w' w.heap.size v (names s.gaps)) := by
  have H : Hid (MdAt w ρ mb M sv wv SB WB) := h
  have Hl : Hid (∀ s ∈ M.sds, In16G s.gaps ∧ s.gaps.length ≤ 99000) := hl
  clear h hl
  go_enter Try.func33, Try.ntmps33
  go_wp2_with fail
  refine (orNone_any mb _).mono ?_
  rintro e w1 ⟨rfl, hw1⟩
  rw [hw1]
  clear hw1 w1
  go_wp2_with fail
  refine (sender_any ρ mb M sv wv SB WB source _ H.out).mono ?_
  rintro e w1 ⟨hw1, ⟨hp, rfl⟩ | ⟨i, p, s, hp, hSB, hs, -, rfl⟩⟩
  · rw [hw1]
    have Hp : Hid (sndPos M source = none) := hp
    clear hw1 hp w1
    go_wp2
    go_ret2
    exact ⟨Below.refl _ _, .inl ⟨Hp.out, rfl⟩⟩
  · rw [hw1]
    have Hp : Hid (sndPos M source = some i ∧ M.sds[i]? = some s) := ⟨hp, hs⟩
    have HS : Hid (SdAt w (p.1 + 1) p.1 p.2 s) := (H.out.sa i p s hSB hs).1
    have Hn : Hid (In16G s.gaps ∧ s.gaps.length ≤ 99000) := Hl.out s (List.mem_of_getElem? hs)
    clear hw1 hp hs hSB w1
    unfold ptr
    go_wp2_with fail
    refine (missingS_any _ _ _ s _ HS.out Hn.out.1 Hn.out.2).mono ?_
    rintro e w2 ⟨v, rfl, ho, hb⟩
    have HO : Hid (OwnInts w2 w.heap.size v (names s.gaps)) := ho
    have HB : Hid (Below w.heap.size w w2) := hb
    obtain ⟨a, c, rfl⟩ := ho.shape
    clear ho hb
    go_wp2
    go_ret2
    exact ⟨HB.out, .inr ⟨i, s, _, Hp.out.1, Hp.out.2, rfl, HO.out⟩⟩

end Go.Proofs.Ytdjhhnolcafkiaa

/- A sender: Ask. -/
namespace Go.Proofs.Ytdjhhnolcafkiaa
open Go.RowKit
namespace Pk
def upG (now retry : Int) (g : Gp) : Gp := if dueB now retry g = true then ⟨g.n, now, g.tries + 1⟩ else g
def keptG (now retry tries : Int) (l : List Gp) : List Gp := l.filter fun x => !goneB now retry tries x
/-- what is asked for: the sender then, the numbers -/
def askS (s : Sd) (now retry tries : Int) : Sd := { s with gaps := (keptG now retry tries s.gaps).map (upG now retry) }
def askedS (s : Sd) (now retry tries : Int) : List Int := names ((keptG now retry tries s.gaps).filter (dueB now retry))
def updK (now retry : Int) (l : List Gp) (k : Nat) : List Gp := (l.take k).map (upG now retry) ++ l.drop k
theorem updK_len (now retry : Int) (l : List Gp) (k : Nat) : (updK now retry l k).length = l.length := by
  unfold updK
  rw [List.length_append, List.length_map, List.length_take, List.length_drop]
  omega
theorem updK_at (now retry : Int) (l : List Gp) (k : Nat) (h : k < l.length) : (updK now retry l k)[k]'(by rw [updK_len]; exact h) = l[k] := by
  unfold updK
  rw [List.getElem_append_right (by simp [List.length_take]; omega)]
  simp [List.length_take, Nat.min_eq_left (Nat.le_of_lt h)]
theorem updK_step (now retry : Int) (l : List Gp) (k : Nat) (h : k < l.length) : updK now retry l (k + 1) = (updK now retry l k).set k (upG now retry l[k]) := by
  unfold updK
  have hk : k - ((l.take k).map (upG now retry)).length = 0 := by rw [List.length_map, List.length_take]; omega
  rw [List.set_append_right _ _ (by rw [List.length_map, List.length_take]; omega), hk, List.drop_eq_getElem_cons h, List.set_cons_zero, List.take_succ_eq_append_getElem h, List.map_append, List.append_assoc]
  rfl
theorem updK_skip (now retry : Int) (l : List Gp) (k : Nat) (h : k < l.length) (hd : dueB now retry l[k] = false) : updK now retry l (k + 1) = updK now retry l k := by
  have e : upG now retry l[k] = l[k] := by unfold upG; rw [hd]; rfl
  rw [updK_step now retry l k h, e, ← updK_at now retry l k h]
  exact List.set_getElem_self _
theorem updK_all (now retry : Int) (l : List Gp) : updK now retry l l.length = l.map (upG now retry) := by
  unfold updK
  simp
def askK (now retry : Int) (l : List Gp) (k : Nat) : List Int := names ((l.take k).filter (dueB now retry))
theorem askK_due (now retry : Int) (l : List Gp) (k : Nat) (h : k < l.length) (hd : dueB now retry l[k] = true) : askK now retry l (k + 1) = askK now retry l k ++ [((l[k]).n : Int)] := by
  unfold askK names
  rw [filter_take _ l k h, hd, List.map_append]
  rfl
theorem askK_skip (now retry : Int) (l : List Gp) (k : Nat) (h : k < l.length) (hd : dueB now retry l[k] = false) : askK now retry l (k + 1) = askK now retry l k := by
  unfold askK names
  rw [filter_take _ l k h, hd]
  simp
theorem askK_len (now retry : Int) (l : List Gp) (k : Nat) : (askK now retry l k).length ≤ k := by
  unfold askK names
  rw [List.length_map]
  exact Nat.le_trans (List.length_filter_le _ _) (by rw [List.length_take]; omega)
theorem flat_cell {α : Type} {f : α → List Value} {k : Nat} (hf : ∀ x, (f x).length = k) (y : α) (u : Value) (j : Nat) (hj : j < k) : ∀ (l : List α) (i : Nat) (h : i < l.length), f y = (f l[i]).set j u → (l.flatMap f).set (i * k + j) u = (l.set i y).flatMap f
  | a :: r, 0, _, e => by
    have e' : f y = (f a).set j u := e
    rw [List.flatMap_cons, List.set_cons_zero, List.flatMap_cons, e', Nat.zero_mul, Nat.zero_add, List.set_append_left _ _ (by rw [hf]; exact hj)]
  | a :: r, i + 1, h, e => by
    have ih := flat_cell hf y u j hj r i (by simpa using h) (by simpa using e)
    have e1 : (i + 1) * k + j - (f a).length = i * k + j := by rw [hf, Nat.succ_mul]; omega
    rw [List.flatMap_cons, List.set_cons_succ, List.flatMap_cons, List.set_append_right _ _ (by rw [hf, Nat.succ_mul]; omega), e1, ih]
/-- an element is stored anew -/
theorem SdAt.elem {W : World} {base sb g cap n : Nat} {s : Sd} {k : Nat} {x : Gp} (h : SdAt W base sb (.slice (some ⟨g, 0, none⟩) n cap) s) (hn : n = s.gaps.length) (hk : k < s.gaps.length) (hx : s.gaps[k] = x) (now t' : Int) :
    SdAt ((W.setCell ⟨g, k * 3 + 1, none⟩ (.int .i64 now)).setCell ⟨g, k * 3 + 2, none⟩ (.int .i64 t')) base sb (.slice (some ⟨g, 0, none⟩) n cap) { s with gaps := s.gaps.set k ⟨x.n, now, t'⟩ } ∧ Chg (fun b => b = g) W ((W.setCell ⟨g, k * 3 + 1, none⟩ (.int .i64 now)).setCell ⟨g, k * 3 + 2, none⟩ (.int .i64 t')) := by
  subst hn
  have hgw : ¬ sb = g := fun e => h.ne (by rw [e]; rfl)
  have hc : Chg (fun b => b = g) W ((W.setCell ⟨g, k * 3 + 1, none⟩ (.int .i64 now)).setCell ⟨g, k * 3 + 2, none⟩ (.int .i64 t')) := ((Chg.refl (fun b => b = g) _).setCell ⟨g, k * 3 + 1, none⟩ (.inl rfl) _).setCell ⟨g, k * 3 + 2, none⟩ (.inl rfl) _
  have h1 := (h.row.stored (k * 3 + 1) (.int .i64 now)).1
  rw [flat_cell cellsG_len ⟨x.n, now, x.tries⟩ (.int .i64 now) 1 (by omega) s.gaps k hk (by rw [hx]; rfl)] at h1
  have h2 := (h1.stored (k * 3 + 2) (.int .i64 t')).1
  rw [flat_cell cellsG_len ⟨x.n, now, t'⟩ (.int .i64 t') 2 (by omega) (s.gaps.set k ⟨x.n, now, x.tries⟩) k (by rw [List.length_set]; exact hk) (by rw [List.getElem_set_self]; rfl), List.set_set] at h2
  refine ⟨⟨hc.cell h.c0 hgw, hc.cell h.c1 hgw, hc.cell h.c2 hgw, hc.cell h.c3 hgw, fun o => (hc.frozen (p := ⟨sb, o, none⟩) h.lt hgw).trans (h.fz o), ?_, h.sb⟩, hc⟩
  rw [List.length_set]
  exact h2
/-- how things stand while numbers are asked for -/
structure AskRel (w : World) (base sb : Nat) (v v' : Value) (s : Sd) (now retry tries : Int) (l : List Gp) (k : Nat) (ov : Value) (W : World) : Prop where
  sd : SdAt W base sb v' { s with gaps := updK now retry l k }
  row : OwnInts W (w.heap.size + 4) ov (askK now retry l k)
  env : AskEnv w.heap.size (w.heap.size + 1) (w.heap.size + 1 + 1 + 1) (w.heap.size + 1 + 1) now retry tries W
  up : SdUp w W sb v v'
theorem AskRel.below {w : World} {base sb : Nat} {v v' : Value} {s : Sd} {now retry tries : Int} {l : List Gp} {k : Nat} {ov : Value} {W W' : World} (h : AskRel w base sb v v' s now retry tries l k ov W) (hb : Below W.heap.size W W') : AskRel w base sb v v' s now retry tries l k ov W' :=
  ⟨h.sd.below hb, rowA_chg (Chg.ofBelow (T := fun _ => False) hb) h.row (fun _ _ e => e), h.env.below hb, h.up.trans ⟨Chg.ofBelow hb, fun _ e => .inl e⟩⟩
end Pk
open Pk

set_option maxRecDepth 20000 in
set_option maxHeartbeats 8000000 in
theorem ask_any (base sb : Nat) (v : Value) (s : Sd) (now retry tries : Int) (w : World) (h : SdAt w base sb v s) (h16 : In16G s.gaps) (hg : ∀ g ∈ s.gaps, GOk1 g) (hnow : 0 ≤ now ∧ now ≤ 1000000000000000) (hn : s.gaps.length ≤ 99000) :
    Calls Try.prog 115 #[.pointer (some ⟨sb, 0, none⟩), .int .i64 now, .int .i64 retry, .int .i64 tries] w fun e w' => ∃ v' ov, e = .returned (.tuple #[ov, .int .i64 ((s.gaps.length : Int) - (keptG now retry tries s.gaps).length)]) ∧ SdAt w' base sb v' (askS s now retry tries) ∧ SdUp w w' sb v v' ∧ OwnInts w' (w.heap.size + 4) ov (askedS s now retry tries) := by
  obtain ⟨ao, cap, rfl⟩ := rowA_shape h.row
  have Hg : Hid (∀ g ∈ s.gaps, GOk1 g) := hg
  have H16 : Hid (In16G s.gaps) := h16
  have hsb := h.lt
  have HB3 : Hid (Below w.heap.size w (((w.alloc (.cells #[.int .i64 now] 3)).alloc (.cells #[.int .i64 retry] 3)).alloc (.cells #[.int .i64 tries] 3))) := (((Below.refl _ _).alloc (Nat.le_refl _) _).alloc (by simp) _).alloc (by simp; omega) _
  have HB4 : Hid (Below w.heap.size w ((((w.alloc (.cells #[.int .i64 now] 3)).alloc (.cells #[.int .i64 retry] 3)).alloc (.cells #[.int .i64 tries] 3)).alloc (.cells #[.func (.func 126) #[] #[.pointer (some ⟨w.heap.size, 0, none⟩), .pointer (some ⟨w.heap.size + 1, 0, none⟩)]] 188))) := HB3.out.alloc (by simp; omega) _
  have HE4 : Hid (AskEnv w.heap.size (w.heap.size + 1) (w.heap.size + 1 + 1 + 1) (w.heap.size + 1 + 1) now retry tries ((((w.alloc (.cells #[.int .i64 now] 3)).alloc (.cells #[.int .i64 retry] 3)).alloc (.cells #[.int .i64 tries] 3)).alloc (.cells #[.func (.func 126) #[] #[.pointer (some ⟨w.heap.size, 0, none⟩), .pointer (some ⟨w.heap.size + 1, 0, none⟩)]] 188))) := by
    refine ⟨?_, ?_, ?_, ?_⟩
    · exact (World.cell?_alloc_lt _ _ _ (by simp; omega)).trans ((World.cell?_alloc_lt _ _ _ (by simp; omega)).trans ((World.cell?_alloc_lt _ _ _ (by simp)).trans (cell_new _ _ _ 0)))
    · exact (World.cell?_alloc_lt _ _ _ (by simp)).trans ((World.cell?_alloc_lt _ _ _ (by simp)).trans (cell_newAt _ _ _ _ 0 (by simp)))
    · exact cell_newAt _ _ _ _ 0 (by simp)
    · exact (World.cell?_alloc_lt _ _ _ (by simp)).trans (cell_newAt _ _ _ _ 0 (by simp))
  have HS4 : Hid (SdAt ((((w.alloc (.cells #[.int .i64 now] 3)).alloc (.cells #[.int .i64 retry] 3)).alloc (.cells #[.int .i64 tries] 3)).alloc (.cells #[.func (.func 126) #[] #[.pointer (some ⟨w.heap.size, 0, none⟩), .pointer (some ⟨w.heap.size + 1, 0, none⟩)]] 188)) base sb (.slice ao s.gaps.length cap) s) := h.below HB4.out
  have HU4 : Hid (SdUp w ((((w.alloc (.cells #[.int .i64 now] 3)).alloc (.cells #[.int .i64 retry] 3)).alloc (.cells #[.int .i64 tries] 3)).alloc (.cells #[.func (.func 126) #[] #[.pointer (some ⟨w.heap.size, 0, none⟩), .pointer (some ⟨w.heap.size + 1, 0, none⟩)]] 188)) sb (.slice ao s.gaps.length cap) (.slice ao s.gaps.length cap)) := ⟨Chg.ofBelow HB4.out, fun _ e => .inl e⟩
  have hs4 : ((((w.alloc (.cells #[.int .i64 now] 3)).alloc (.cells #[.int .i64 retry] 3)).alloc (.cells #[.int .i64 tries] 3)).alloc (.cells #[.func (.func 126) #[] #[.pointer (some ⟨w.heap.size, 0, none⟩), .pointer (some ⟨w.heap.size + 1, 0, none⟩)]] 188)).heap.size = w.heap.size + 4 := by simp
  have HV : Hid (∀ b, (Value.slice ao s.gaps.length cap).ownBlock = some b → b < w.heap.size) := fun b hb => (h.row.lt b hb).2
  have y3 : (((w.alloc (.cells #[.int .i64 now] 3)).alloc (.cells #[.int .i64 retry] 3)).alloc (.cells #[.int .i64 tries] 3)).cell? ⟨sb, 2, none⟩ = some (.slice ao s.gaps.length cap) := (HB3.out.cell (p := ⟨sb, 2, none⟩) hsb).trans h.c2
  have y4 : ((((w.alloc (.cells #[.int .i64 now] 3)).alloc (.cells #[.int .i64 retry] 3)).alloc (.cells #[.int .i64 tries] 3)).alloc (.cells #[.func (.func 126) #[] #[.pointer (some ⟨w.heap.size, 0, none⟩), .pointer (some ⟨w.heap.size + 1, 0, none⟩)]] 188)).cell? ⟨sb, 2, none⟩ = some (.slice ao s.gaps.length cap) := HS4.out.c2
  clear h hg h16 HB3 HB4
  go_enter Try.func115, Try.ntmps115
  go_wp2_with fail
  generalize ((((w.alloc (.cells #[.int .i64 now] 3)).alloc (.cells #[.int .i64 retry] 3)).alloc (.cells #[.int .i64 tries] 3)).alloc (.cells #[.func (.func 126) #[] #[.pointer (some ⟨w.heap.size, 0, none⟩), .pointer (some ⟨w.heap.size + 1, 0, none⟩)]] 188)) = W4 at *
  refine (deleteA_any base _ s.gaps _ _ _ _ now retry tries _ HS4.out.row HE4.out (fun b hb => by have := HV.out b hb; omega) Hg.out (by omega) (by omega)).mono ?_
  rintro e w5 ⟨v5, rfl, hrow5, hg5, hov5⟩
  change w5.ownsRow base 156 3 v5 (keptG now retry tries s.gaps).length ((keptG now retry tries s.gaps).flatMap cellsG) at hrow5
  obtain ⟨a5, c5, rfl⟩ := rowA_shape hrow5
  have hU5 : Upd W4 (w5.setCell ⟨sb, 2, none⟩ (.slice a5 (keptG now retry tries s.gaps).length c5)) sb (.slice ao s.gaps.length cap) (.slice a5 (keptG now retry tries s.gaps).length c5) := Upd.stored HS4.out.lt HS4.out.c2 HS4.out.ne hg5 (fun x e => .inl (by rw [← hov5]; exact e))
  have hsb4 : w.heap.size < w.heap.size + 4 := by omega
  have hr5 : (w5.setCell ⟨sb, 2, none⟩ (.slice a5 (keptG now retry tries s.gaps).length c5)).ownsRow base 156 3 (.slice a5 (keptG now retry tries s.gaps).length c5) (keptG now retry tries s.gaps).length ((keptG now retry tries s.gaps).flatMap cellsG) := rowA_chg (T := fun x => x = sb) ((Chg.refl (fun x => x = sb) _).setCell ⟨sb, 2, none⟩ (.inl rfl) _) hrow5 (fun x hx e => HS4.out.ne (by rw [← hov5, hx, e]))
  have HR5 : Hid (AskRel w base sb (.slice ao s.gaps.length cap) (.slice a5 (keptG now retry tries s.gaps).length c5) s now retry tries (keptG now retry tries s.gaps) 0 (.slice none 0 0) (w5.setCell ⟨sb, 2, none⟩ (.slice a5 (keptG now retry tries s.gaps).length c5))) := by
    refine ⟨?_, World.ownsRow_nil _ _ _ _, HE4.out.chg hU5.chg ?_ ?_ ?_ ?_, HU4.out.trans (SdUp.ofUpd hU5)⟩
    · have := HS4.out.upd hU5 hr5
      exact this
    all_goals
      intro e
      rcases e with e | e
      · omega
      · have := HV.out _ e; omega
  have y5 : w5.cell? ⟨sb, 2, none⟩ = some (.slice ao s.gaps.length cap) := (Chg.ofGrown hg5).cell HS4.out.c2 HS4.out.ne
  have yf5 : ∀ o, w5.frozen? ⟨sb, o, none⟩ = false := fun o => ((Chg.ofGrown hg5).frozen (p := ⟨sb, o, none⟩) HS4.out.lt HS4.out.ne).trans (HS4.out.fz o)
  have HV5 : Hid (∀ b, (Value.slice a5 (keptG now retry tries s.gaps).length c5).ownBlock = some b → b < w.heap.size) := fun b hb => HV.out b (by rw [← hov5]; exact hb)
  have HKg : Hid (∀ g ∈ keptG now retry tries s.gaps, GOk1 g ∧ g.n < 65536) := fun g hg => by
    have hm : g ∈ s.gaps := (List.mem_filter.1 hg).1
    exact ⟨Hg.out g hm, H16.out g hm⟩
  have hkl : (keptG now retry tries s.gaps).length ≤ s.gaps.length := List.length_filter_le _ _
  have y6 := HR5.out.sd.c2
  clear hrow5 hg5 hov5 hU5 hr5 HE4 HS4 HU4 y3 y4
  generalize hKL : keptG now retry tries s.gaps = KL at *
  have HKL : Hid (keptG now retry tries s.gaps = KL) := hKL
  obtain ⟨i0, hi, hz0, hz1, hz2⟩ := info_parts (show (Try.prog.info? 3).map (fun i => (i.zero, i.size, i.bytes)) = some (some (.int .i64 0), 1, 8) by kernel_rfl)
  have Hi : Hid (Try.prog.info? 3 = some i0 ∧ i0.zero = some (.int .i64 0) ∧ i0.size = 1 ∧ i0.bytes = 8) := ⟨hi, hz0, hz1, hz2⟩
  clear hKL hi hz0 hz1 hz2
  go_wp2
  generalize (w5.setCell ⟨sb, 2, none⟩ (.slice a5 KL.length c5)) = W6 at *
  clear y5 yf5 y6
  go_loopw [12, 39] (fun s12 s39 wr => ∃ k : Nat, k ≤ KL.length ∧ s39 = .int .i64 k ∧ AskRel w base sb (.slice ao s.gaps.length cap) (.slice a5 KL.length c5) s now retry tries KL k s12 wr) (fun _ s39 _ => KL.length - (intOf s39).toNat)
  case atStart => exact ⟨0, Nat.zero_le _, rfl, HR5.out⟩
  case round =>
    obtain ⟨k, hk, rfl, hR⟩ := hrel
    obtain ⟨ov, oc, rfl⟩ := hR.row.shape
    have HR : Hid (AskRel w base sb (.slice ao s.gaps.length cap) (.slice a5 KL.length c5) s now retry tries KL k (.slice ov (askK now retry KL k).length oc) wr) := hR
    have y2 := hR.sd.c2
    have hakl := askK_len now retry KL k
    clear hR
    by_cases hlt : k < KL.length
    · have hlt' : (k : Int) < KL.length := by omega
      have hrow : wr.ownsRow base 156 3 (.slice a5 KL.length c5) KL.length ((updK now retry KL k).flatMap cellsG) := by
        have h := HR.out.sd.row
        simp only [updK_len] at h
        exact h
      obtain ⟨g, rfl⟩ := rowA_some hrow (by omega)
      obtain ⟨x, hx⟩ : ∃ x, KL[k] = x := ⟨_, rfl⟩
      have Hx : Hid (KL[k] = x) := hx
      have hxm : x ∈ KL := hx ▸ List.getElem_mem hlt
      have HGx : Hid (GOk1 x ∧ x.n < 65536) := HKg.out x hxm
      have hgw : g < w.heap.size := HV5.out g rfl
      have at_ : ∀ q, q < 3 → ∀ u, (cellsG x)[q]? = some u → wr.cell? ⟨g, k * 3 + q, none⟩ = some u := fun q hq u hu => by
        rw [hrow.cellAt (k * 3 + q) (by omega), flat_at cellsG_len _ k q (by rw [updK_len]; exact hlt) hq, updK_at now retry KL k hlt, hx]
        exact hu
      have d1 : wr.cell? ⟨g, k * 3 + 1, none⟩ = some (.int .i64 x.last) := at_ 1 (by omega) _ rfl
      have d2 : wr.cell? ⟨g, k * 3 + 2, none⟩ = some (.int .i64 x.tries) := at_ 2 (by omega) _ rfl
      have dd := HR.out.env.d
      have HEd : Hid (AskEnv w.heap.size (w.heap.size + 1) (w.heap.size + 1 + 1 + 1) (w.heap.size + 1 + 1) now retry tries wr.drew) := HR.out.env.below (Below.refl _ _).drew
      have HRd : Hid (AskRel w base sb (.slice ao s.gaps.length cap) (.slice (some ⟨g, 0, none⟩) KL.length c5) s now retry tries KL k (.slice ov (askK now retry KL k).length oc) wr.drew) := HR.out.below (Below.refl _ _).drew
      clear at_ hrow hx hxm HR
      go_wp2
      refine wp_region_noPanic ?_
      refine wp_region_held_drew (S := fun W => W.cell? ⟨w.heap.size + 1 + 1 + 1, 0, none⟩ = some (.func (.func 126) #[] #[.pointer (some ⟨w.heap.size, 0, none⟩), .pointer (some ⟨w.heap.size + 1, 0, none⟩)]) ∧ W.cell? ⟨g, k * 3 + 1, none⟩ = some (.int .i64 x.last) ∧ W.cell? ⟨g, k * 3 + 2, none⟩ = some (.int .i64 x.tries)) (by kernel_rfl) ⟨dd, d1, d2⟩ (fun hHeld => ?_)
      refine wpAnyH_take (i := 0) (v := ?vt1) rfl (by kernel_rfl) (by kernel_rfl) (by kernel_rfl) (fun _ _ _ h => h) (Or.inl ⟨by rfl, ?yt1⟩) hHeld ?rt1
      case yt1 => ((intro W hSw; obtain ⟨hS0, hS1, hS2⟩ := hSw; go_simp) <;> with_reducible rfl)
      try simp only [Act.put]
      try simp only [List.getElem_toArray]
      try simp only [List.getElem_cons_succ]
      try simp only [List.getElem_cons_zero]
      try simp only [List.setIfInBounds_toArray]
      try simp only [List.set_cons_succ]
      try simp only [List.set_cons_zero]
      refine wpAnyH_take (i := 1) (v := ?vt2) rfl (by kernel_rfl) (by kernel_rfl) (by kernel_rfl) (fun _ _ _ h => h) (Or.inl ⟨by rfl, ?yt2⟩) hHeld ?rt2
      case yt2 => ((intro W hSw; obtain ⟨hS0, hS1, hS2⟩ := hSw; go_simp) <;> with_reducible rfl)
      try simp only [Act.put]
      try simp only [List.getElem_toArray]
      try simp only [List.getElem_cons_succ]
      try simp only [List.getElem_cons_zero]
      try simp only [List.setIfInBounds_toArray]
      try simp only [List.set_cons_succ]
      try simp only [List.set_cons_zero]
      refine wpAnyH_take (i := 2) (v := ?vt3) rfl (by kernel_rfl) (by kernel_rfl) (by kernel_rfl) (fun _ _ _ h => h) (Or.inl ⟨by rfl, ?yt3⟩) hHeld ?rt3
      case yt3 => ((intro W hSw; obtain ⟨hS0, hS1, hS2⟩ := hSw; go_simp) <;> with_reducible rfl)
      try simp only [Act.put]
      try simp only [List.getElem_toArray]
      try simp only [List.getElem_cons_succ]
      try simp only [List.getElem_cons_zero]
      try simp only [List.setIfInBounds_toArray]
      try simp only [List.set_cons_succ]
      try simp only [List.set_cons_zero]
      refine wpAnyH_take (i := 3) (v := ?vt4) rfl (by kernel_rfl) (by kernel_rfl) (by kernel_rfl) (fun _ _ _ h => h) (Or.inl ⟨by rfl, ?yt4⟩) hHeld ?rt4
      case yt4 => ((intro W hSw; obtain ⟨hS0, hS1, hS2⟩ := hSw; go_simp) <;> with_reducible rfl)
      try simp only [Act.put]
      try simp only [List.getElem_toArray]
      try simp only [List.getElem_cons_succ]
      try simp only [List.getElem_cons_zero]
      try simp only [List.setIfInBounds_toArray]
      try simp only [List.set_cons_succ]
      try simp only [List.set_cons_zero]
      refine wpAnyH_take (i := 4) (v := ?vt5) rfl (by kernel_rfl) (by kernel_rfl) (by kernel_rfl) (fun _ _ _ h => h) (Or.inl ⟨by rfl, ?yt5⟩) hHeld ?rt5
      case yt5 => ((intro W hSw; obtain ⟨hS0, hS1, hS2⟩ := hSw; go_simp) <;> with_reducible rfl)
      try simp only [Act.put]
      try simp only [List.getElem_toArray]
      try simp only [List.getElem_cons_succ]
      try simp only [List.getElem_cons_zero]
      try simp only [List.setIfInBounds_toArray]
      try simp only [List.set_cons_succ]
      try simp only [List.set_cons_zero]
      refine wpAnyH_ready (rs := [5]) (by kernel_rfl) (by simp) ?_
      refine AllReadyH.cons rfl (fun K hK => ?_) AllReadyH.nil
      go_simp
      refine (ask1_any x _ _ _ _ now retry tries _ HEd.out HGx.out.1 (by omega)).mono ?_
      rintro e w1 ⟨rfl, hb1⟩
      have HR1 : Hid (AskRel w base sb (.slice ao s.gaps.length cap) (.slice (some ⟨g, 0, none⟩) KL.length c5) s now retry tries KL k (.slice ov (askK now retry KL k).length oc) w1) := HRd.out.below hb1
      have hgd : g < wr.drew.heap.size := Nat.lt_of_lt_of_le hgw HRd.out.up.chg.size
      have e1 : w1.cell? ⟨g, k * 3 + 1, none⟩ = some (.int .i64 x.last) := (hb1.cell (p := ⟨g, k * 3 + 1, none⟩) hgd).trans d1
      have e2 : w1.cell? ⟨g, k * 3 + 2, none⟩ = some (.int .i64 x.tries) := (hb1.cell (p := ⟨g, k * 3 + 2, none⟩) hgd).trans d2
      have ed := HR1.out.env.d
      have ea := HR1.out.env.a
      go_simp
      refine hK.out _ _ ⟨ed, e1, e2⟩ (fun hHeld => ?_)
      clear hK K
      try simp only [Act.put]
      try simp only [List.getElem_toArray]
      try simp only [List.getElem_cons_succ]
      try simp only [List.getElem_cons_zero]
      try simp only [List.setIfInBounds_toArray]
      try simp only [List.set_cons_succ]
      try simp only [List.set_cons_zero]
      refine wpAnyH_done (by kernel_rfl) ?_ _
      refine NoPanic.normal ?_
      clear hHeld hb1 dd d1 d2 HEd HRd y2 hgd
      cases hd : dueB now retry x with
      | false =>
        have HR2 : Hid (AskRel w base sb (.slice ao s.gaps.length cap) (.slice (some ⟨g, 0, none⟩) KL.length c5) s now retry tries KL (k + 1) (.slice ov (askK now retry KL k).length oc) w1) := by
          have h := HR1.out
          refine ⟨?_, ?_, h.env, h.up⟩
          · rw [updK_skip now retry KL k hlt (by rw [Hx.out]; exact hd)]; exact h.sd
          · rw [askK_skip now retry KL k hlt (by rw [Hx.out]; exact hd)]; exact h.row
        clear hd e1 e2 ed ea
        go_wp2
        go_roundw
        case rel => exact ⟨k + 1, by omega, by go_num, HR2.out⟩
        case measure => simp [intOf]; omega
      | true =>
        have hkk : k < (updK now retry KL k).length := by rw [updK_len]; exact hlt
        obtain ⟨S1, C1⟩ := SdAt.elem (x := x) HR1.out.sd (by simp only [updK_len]) hkk (by simp only [updK_at now retry KL k hlt]; exact Hx.out) now (x.tries + 1)
        have hup : upG now retry KL[k] = ⟨x.n, now, x.tries + 1⟩ := by rw [Hx.out]; unfold upG; rw [hd]; rfl
        have HS2 : Hid (SdAt ((w1.setCell ⟨g, k * 3 + 1, none⟩ (.int .i64 now)).setCell ⟨g, k * 3 + 2, none⟩ (.int .i64 (x.tries + 1))) base sb (.slice (some ⟨g, 0, none⟩) KL.length c5) { s with gaps := updK now retry KL (k + 1) }) := by
          show SdAt _ _ _ _ _
          rw [updK_step now retry KL k hlt, hup]
          exact S1
        have hog : ∀ b, (Value.slice ov (askK now retry KL k).length oc).ownBlock = some b → ¬ b = g := fun b hb e => by have := (HR1.out.row.lt b hb).1; omega
        have HO2 : Hid (OwnInts ((w1.setCell ⟨g, k * 3 + 1, none⟩ (.int .i64 now)).setCell ⟨g, k * 3 + 2, none⟩ (.int .i64 (x.tries + 1))) (w.heap.size + 4) (.slice ov (askK now retry KL k).length oc) (askK now retry KL k)) := rowA_chg C1 HR1.out.row hog
        have HE2 : Hid (AskEnv w.heap.size (w.heap.size + 1) (w.heap.size + 1 + 1 + 1) (w.heap.size + 1 + 1) now retry tries ((w1.setCell ⟨g, k * 3 + 1, none⟩ (.int .i64 now)).setCell ⟨g, k * 3 + 2, none⟩ (.int .i64 (x.tries + 1)))) := HR1.out.env.chg C1 (by omega) (by omega) (by omega) (by omega)
        have HU2 : Hid (SdUp w ((w1.setCell ⟨g, k * 3 + 1, none⟩ (.int .i64 now)).setCell ⟨g, k * 3 + 2, none⟩ (.int .i64 (x.tries + 1))) sb (.slice ao s.gaps.length cap) (.slice (some ⟨g, 0, none⟩) KL.length c5)) := HR1.out.up.trans ⟨C1.mono (fun b _ e => .inr (by rw [e]; rfl)), fun _ e => .inl e⟩
        have HAk : Hid (askK now retry KL (k + 1) = askK now retry KL k ++ [(x.n : Int)]) := by
          have h := askK_due now retry KL k hlt (by rw [Hx.out]; exact hd)
          rw [Hx.out] at h
          exact h
        have ef : ∀ o, w1.frozen? ⟨g, o, none⟩ = false := fun o => by
          have h := HR1.out.sd.row
          simp only [updK_len] at h
          exact h.frozenAt o
        have hxb := HGx.out.1.2
        have hwr : IntKind.i64.wrap (x.tries + 1) = x.tries + 1 := wrapI64 _ (by omega) (by omega)
        clear hd S1 C1 hup hkk hog
        go_wp2
        refine wp_region_noPanic ?_
        refine wp_region_held_drew (S := fun W => W.cell? ⟨w.heap.size + 1 + 1 + 1, 0, none⟩ = some (.func (.func 126) #[] #[.pointer (some ⟨w.heap.size, 0, none⟩), .pointer (some ⟨w.heap.size + 1, 0, none⟩)]) ∧ W.cell? ⟨w.heap.size, 0, none⟩ = some (.int .i64 now)) (by kernel_rfl) ⟨ed, ea⟩ (fun hHeld => ?_)
        refine wpAnyH_take (i := 0) (v := ?vt6) rfl (by kernel_rfl) (by kernel_rfl) (by kernel_rfl) (fun _ _ _ h => h) (Or.inl ⟨by rfl, ?yt6⟩) hHeld ?rt6
        case yt6 => ((intro W hSw; obtain ⟨hS0, hS1⟩ := hSw; go_simp) <;> with_reducible rfl)
        try simp only [Act.put]
        try simp only [List.getElem_toArray]
        try simp only [List.getElem_cons_succ]
        try simp only [List.getElem_cons_zero]
        try simp only [List.setIfInBounds_toArray]
        try simp only [List.set_cons_succ]
        try simp only [List.set_cons_zero]
        refine wpAnyH_take (i := 1) (v := ?vt7) rfl (by kernel_rfl) (by kernel_rfl) (by kernel_rfl) (fun _ _ _ h => h) (Or.inl ⟨by rfl, ?yt7⟩) hHeld ?rt7
        case yt7 => ((intro W hSw; obtain ⟨hS0, hS1⟩ := hSw; go_simp) <;> with_reducible rfl)
        try simp only [Act.put]
        try simp only [List.getElem_toArray]
        try simp only [List.getElem_cons_succ]
        try simp only [List.getElem_cons_zero]
        try simp only [List.setIfInBounds_toArray]
        try simp only [List.set_cons_succ]
        try simp only [List.set_cons_zero]
        refine wpAnyH_take (i := 2) (v := ?vt8) rfl (by kernel_rfl) (by kernel_rfl) (by kernel_rfl) (fun _ _ _ h => h) (Or.inl ⟨by rfl, ?yt8⟩) hHeld ?rt8
        case yt8 => ((intro W hSw; obtain ⟨hS0, hS1⟩ := hSw; go_simp) <;> with_reducible rfl)
        try simp only [Act.put]
        try simp only [List.getElem_toArray]
        try simp only [List.getElem_cons_succ]
        try simp only [List.getElem_cons_zero]
        try simp only [List.setIfInBounds_toArray]
        try simp only [List.set_cons_succ]
        try simp only [List.set_cons_zero]
        refine wpAnyH_take (i := 3) (v := ?vt9) rfl (by kernel_rfl) (by kernel_rfl) (by kernel_rfl) (fun _ _ _ h => h) (Or.inl ⟨by rfl, ?yt9⟩) hHeld ?rt9
        case yt9 => ((intro W hSw; obtain ⟨hS0, hS1⟩ := hSw; go_simp) <;> with_reducible rfl)
        try simp only [Act.put]
        try simp only [List.getElem_toArray]
        try simp only [List.getElem_cons_succ]
        try simp only [List.getElem_cons_zero]
        try simp only [List.setIfInBounds_toArray]
        try simp only [List.set_cons_succ]
        try simp only [List.set_cons_zero]
        refine wpAnyH_take (i := 4) (v := ?vt10) rfl (by kernel_rfl) (by kernel_rfl) (by kernel_rfl) (fun _ _ _ h => h) (Or.inl ⟨by rfl, ?yt10⟩) hHeld ?rt10
        case yt10 => ((intro W hSw; obtain ⟨hS0, hS1⟩ := hSw; go_simp) <;> with_reducible rfl)
        try simp only [Act.put]
        try simp only [List.getElem_toArray]
        try simp only [List.getElem_cons_succ]
        try simp only [List.getElem_cons_zero]
        try simp only [List.setIfInBounds_toArray]
        try simp only [List.set_cons_succ]
        try simp only [List.set_cons_zero]
        refine wpAnyH_take (i := 5) (v := ?vt11) rfl (by kernel_rfl) (by kernel_rfl) (by kernel_rfl) (fun _ _ _ h => h) (Or.inl ⟨by rfl, ?yt11⟩) hHeld ?rt11
        case yt11 => ((intro W hSw; obtain ⟨hS0, hS1⟩ := hSw; go_simp) <;> with_reducible rfl)
        try simp only [Act.put]
        try simp only [List.getElem_toArray]
        try simp only [List.getElem_cons_succ]
        try simp only [List.getElem_cons_zero]
        try simp only [List.setIfInBounds_toArray]
        try simp only [List.set_cons_succ]
        try simp only [List.set_cons_zero]
        refine wpAnyH_ready (rs := [6]) (by kernel_rfl) (by simp) ?_
        refine AllReadyH.cons rfl (fun K hK => ?_) AllReadyH.nil
        go_simp
        refine hK.out _ _ hHeld (fun hHeld => ?_)
        clear hK K
        try simp only [Act.put]
        try simp only [List.getElem_toArray]
        try simp only [List.getElem_cons_succ]
        try simp only [List.getElem_cons_zero]
        try simp only [List.setIfInBounds_toArray]
        try simp only [List.set_cons_succ]
        try simp only [List.set_cons_zero]
        refine wpAnyH_take (i := 7) (v := ?vt12) rfl (by kernel_rfl) (by kernel_rfl) (by kernel_rfl) (fun _ _ _ h => h) (Or.inl ⟨by rfl, ?yt12⟩) hHeld ?rt12
        case yt12 => ((intro W hSw; obtain ⟨hS0, hS1⟩ := hSw; go_simp) <;> with_reducible rfl)
        try simp only [Act.put]
        try simp only [List.getElem_toArray]
        try simp only [List.getElem_cons_succ]
        try simp only [List.getElem_cons_zero]
        try simp only [List.setIfInBounds_toArray]
        try simp only [List.set_cons_succ]
        try simp only [List.set_cons_zero]
        refine wpAnyH_take (i := 8) (v := ?vt13) rfl (by kernel_rfl) (by kernel_rfl) (by kernel_rfl) (fun _ _ _ h => h) (Or.inl ⟨by rfl, ?yt13⟩) hHeld ?rt13
        case yt13 => ((intro W hSw; obtain ⟨hS0, hS1⟩ := hSw; go_simp) <;> with_reducible rfl)
        try simp only [Act.put]
        try simp only [List.getElem_toArray]
        try simp only [List.getElem_cons_succ]
        try simp only [List.getElem_cons_zero]
        try simp only [List.setIfInBounds_toArray]
        try simp only [List.set_cons_succ]
        try simp only [List.set_cons_zero]
        refine wpAnyH_take (i := 9) (v := ?vt14) rfl (by kernel_rfl) (by kernel_rfl) (by kernel_rfl) (fun _ _ _ h => h) (Or.inl ⟨by rfl, ?yt14⟩) hHeld ?rt14
        case yt14 => ((intro W hSw; obtain ⟨hS0, hS1⟩ := hSw; go_simp) <;> with_reducible rfl)
        try simp only [Act.put]
        try simp only [List.getElem_toArray]
        try simp only [List.getElem_cons_succ]
        try simp only [List.getElem_cons_zero]
        try simp only [List.setIfInBounds_toArray]
        try simp only [List.set_cons_succ]
        try simp only [List.set_cons_zero]
        refine wpAnyH_take (i := 10) (v := ?vt15) rfl (by kernel_rfl) (by kernel_rfl) (by kernel_rfl) (fun _ _ _ h => h) (Or.inl ⟨by rfl, ?yt15⟩) hHeld ?rt15
        case yt15 => ((intro W hSw; obtain ⟨hS0, hS1⟩ := hSw; go_simp) <;> with_reducible rfl)
        try simp only [Act.put]
        try simp only [List.getElem_toArray]
        try simp only [List.getElem_cons_succ]
        try simp only [List.getElem_cons_zero]
        try simp only [List.setIfInBounds_toArray]
        try simp only [List.set_cons_succ]
        try simp only [List.set_cons_zero]
        refine wpAnyH_ready (rs := [11]) (by kernel_rfl) (by simp) ?_
        refine AllReadyH.cons rfl (fun K hK => ?_) AllReadyH.nil
        go_simp
        refine hK.out _ _ ⟨HE2.out.d, HE2.out.a⟩ (fun hHeld => ?_)
        clear hK K
        refine wpAnyH_done (by kernel_rfl) ?_ _
        refine NoPanic.normal ?_
        clear hHeld e1 e2 ed ea ef
        replace HS2 : Hid (SdAt ((w1.setCell ⟨g, k * 3 + 1, none⟩ (.int .i64 now)).setCell ⟨g, k * 3 + 2, none⟩ (.int .i64 (x.tries + 1))).drew base sb (.slice (some ⟨g, 0, none⟩) KL.length c5) { s with gaps := updK now retry KL (k + 1) }) := HS2.out.below (Below.refl _ _).drew
        replace HO2 : Hid (OwnInts ((w1.setCell ⟨g, k * 3 + 1, none⟩ (.int .i64 now)).setCell ⟨g, k * 3 + 2, none⟩ (.int .i64 (x.tries + 1))).drew (w.heap.size + 4) (.slice ov (askK now retry KL k).length oc) (askK now retry KL k)) := World.ownsRow.drew HO2.out
        replace HE2 : Hid (AskEnv w.heap.size (w.heap.size + 1) (w.heap.size + 1 + 1 + 1) (w.heap.size + 1 + 1) now retry tries ((w1.setCell ⟨g, k * 3 + 1, none⟩ (.int .i64 now)).setCell ⟨g, k * 3 + 2, none⟩ (.int .i64 (x.tries + 1))).drew) := HE2.out.below (Below.refl _ _).drew
        replace HU2 : Hid (SdUp w ((w1.setCell ⟨g, k * 3 + 1, none⟩ (.int .i64 now)).setCell ⟨g, k * 3 + 2, none⟩ (.int .i64 (x.tries + 1))).drew sb (.slice ao s.gaps.length cap) (.slice (some ⟨g, 0, none⟩) KL.length c5)) := HU2.out.trans ⟨(Chg.refl _ _).drew, fun _ e => .inl e⟩
        generalize ((w1.setCell ⟨g, k * 3 + 1, none⟩ (.int .i64 now)).setCell ⟨g, k * 3 + 2, none⟩ (.int .i64 (x.tries + 1))).drew = W7 at *
        have hr7 : W7.ownsRow base 156 3 (.slice (some ⟨g, 0, none⟩) KL.length c5) KL.length ((updK now retry KL (k + 1)).flatMap cellsG) := by
          have h := HS2.out.row
          simp only [updK_len] at h
          exact h
        have d0 : W7.cell? ⟨g, k * 3, none⟩ = some (.int .u16 x.n) := by
          have h := hr7.cellAt (k * 3 + 0) (by omega)
          rw [flat_at cellsG_len _ k 0 (by rw [updK_len]; exact hlt) (by omega)] at h
          have e : (updK now retry KL (k + 1))[k]'(by rw [updK_len]; exact hlt) = upG now retry KL[k] := by
            have e0 := updK_step now retry KL k hlt
            simp only [e0, List.getElem_set_self]
          rw [e, Hx.out] at h
          rw [Nat.add_zero] at h
          rw [h]
          unfold upG
          split <;> rfl
        have hxn := HGx.out.2
        have hxw : IntKind.i64.wrap (x.n : Int) = (x.n : Int) := wrapI64 _ (by omega) (by omega)
        have hs7 : w.heap.size + 4 ≤ W7.heap.size := by
          have := lt_of_cell HE2.out.d
          simp only at this
          omega
        obtain ⟨al, hal⟩ : ∃ al, (askK now retry KL k).length = al := ⟨_, rfl⟩
        have hr8 : W7.ownsRow (w.heap.size + 4) 3 1 (.slice ov (askK now retry KL k).length oc) (askK now retry KL k).length ((askK now retry KL k).map (Value.int .i64)) := HO2.out
        have Hlk1 : Hid ((askK now retry KL (k + 1)).length = al + 1) := by show _ = _; rw [HAk.out, List.length_append, hal]; rfl
        rw [hal] at hr8 hakl ⊢
        have Hr8 : Hid (W7.ownsRow (w.heap.size + 4) 3 1 (.slice ov al oc) al ((askK now retry KL k).map (Value.int .i64))) := hr8
        clear hr7 hr8 HO2 hal
        go_wp2_with (at_builtin; (refine wpList_append_own _ rfl (.tmp 66) (.tmp 72) 27 rfl (w.heap.size + 4) 3 i0 (.int .i64 0) 1 8 Try.underlying27 Hi.out.1 Hi.out.2.1 Hi.out.2.2.1 Hi.out.2.2.2 rfl (by decide) _ al ((askK now retry KL k).map (Value.int .i64)) rfl (World.ownsRow.alloc Hr8.out _) _ 1 1 [.int .i64 x.n] rfl rfl (cell_one_at _ _ rfl _ _) ?_ ?_ ?_ ?_ ?_; (intro u hu; simp at hu; subst hu; rfl); (unfold maxLen; omega); omega; (simp; omega); intro v' w8 hown' hgrow hob; refine stop_here ?_))
        refine hid_in ?_
        obtain ⟨a8, c8, rfl⟩ := rowA_shape hown'
        have hcA : Chg (fun b => (Value.slice ov al oc).ownBlock = some b) W7 w8 := (Chg.ofBelow (T := fun b => (Value.slice ov al oc).ownBlock = some b) ((Below.refl _ _).alloc (Nat.le_refl _) _)).trans (Chg.ofGrown hgrow) (fun _ _ e => e)
        have hob8 : ∀ b, (Value.slice ov al oc).ownBlock = some b → w.heap.size + 4 ≤ b := fun b hb => (Hr8.out.lt b hb).1
        have HR8 : Hid (AskRel w base sb (.slice ao s.gaps.length cap) (.slice (some ⟨g, 0, none⟩) KL.length c5) s now retry tries KL (k + 1) (.slice a8 (al + 1) c8) w8) := by
          refine ⟨HS2.out.chg hcA (fun e => by have := hob8 _ e; omega) (fun b hb e => ?_), ?_, HE2.out.chg hcA (fun e => by have := hob8 _ e; omega) (fun e => by have := hob8 _ e; omega) (fun e => by have := hob8 _ e; omega) (fun e => by have := hob8 _ e; omega), ⟨HU2.out.chg.trans hcA (fun b hb e => by have := hob8 _ e; omega), HU2.out.own⟩⟩
          · have := HV5.out b hb
            have := hob8 b e
            omega
          · show w8.ownsRow _ _ _ _ _ _
            rw [Hlk1.out, HAk.out, List.map_append]
            exact hown'
        clear hown' hgrow hob hcA d0
        go_wp2
        go_roundw
        case rel => exact ⟨k + 1, by omega, by go_num, HR8.out⟩
        case measure => simp [intOf]; omega
    · have hlt' : ¬ (k : Int) < KL.length := by omega
      have hke : k = KL.length := by omega
      subst hke
      have HF : Hid (∀ nq, SdAt (wr.drewN nq) base sb (.slice a5 KL.length c5) (askS s now retry tries) ∧ SdUp w (wr.drewN nq) sb (.slice ao s.gaps.length cap) (.slice a5 KL.length c5) ∧ OwnInts (wr.drewN nq) (w.heap.size + 4) (.slice ov (askK now retry KL KL.length).length oc) (askedS s now retry tries)) := fun nq => by
        have h := HR.out.below (below_drewN (Below.refl _ _) nq)
        refine ⟨?_, h.up, ?_⟩
        · unfold askS
          have e : KL.map (upG now retry) = updK now retry KL KL.length := by exact (updK_all now retry KL).symm
          rw [HKL.out, e]
          exact h.sd
        · unfold askedS
          rw [HKL.out]
          have e : askK now retry KL KL.length = names (KL.filter (dueB now retry)) := by unfold askK; rw [List.take_length]
          have h2 := h.row
          rw [← e]
          exact h2
      have hsub : IntKind.i64.wrap ((s.gaps.length : Int) - (KL.length : Int)) = (s.gaps.length : Int) - (KL.length : Int) := wrapI64 _ (by omega) (by omega)
      clear HR
      go_wp2
      go_quiet (fail)
      go_wp2
      go_ret2
      refine ⟨_, _, ?_, HF.out _⟩
      rw [HKL.out]
      rfl

end Go.Proofs.Ytdjhhnolcafkiaa
