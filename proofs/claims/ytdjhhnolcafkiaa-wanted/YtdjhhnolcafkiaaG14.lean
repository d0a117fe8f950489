/- One sender and its want: what every step makes of the mender. -/
import Derived.Test.YtdjhhnolcafkiaaG11
import Derived.Test.YtdjhhnolcafkiaaG13
import Derived.Test.YtdjhhnolcafkiaaG03
import Derived.Test.YtdjhhnolcafkiaaG10
import Derived.Test.YtdjhhnolcafkiaaG09
namespace Go.Proofs.Ytdjhhnolcafkiaa
open Go.RowKit
namespace Pk
def keptP (n : Nat) (py : ByteArray) : PP := ⟨false, false, 100, (n : Int), 5, 7, 0, 0, [], ⟨#[]⟩, py⟩
structure LiveW (c : Cfg) (x : Wn) : Prop where
  src : x.src = 7
  of_ : x.of_ = 3
  id : x.id = 1
  pl : x.pl = plan0
  len : x.kept.length ≤ c.ring.toNat
  sec : x.second < 65536
  kp : ∀ k ∈ x.kept, k.n < 65536 ∧ ∃ py : ByteArray, py.size ≤ 100 ∧ k.x = keptP k.n py
  nd : (x.kept.map Kp.n).Nodup
def Cnt (s : Stt) (B : Int) : Prop := ∀ c ∈ [s.passed, s.late, s.doubled, s.wrong, s.unknown, s.again, s.refused, s.asked, s.givenUp], 0 ≤ c ∧ c ≤ B
/-- the mender after i steps; bg: the first distance, the greatest, what is missing -/
structure LiveM (c : Cfg) (base i : Nat) (bg : Option (Nat × Nat × List Og)) (M : Md) (s : Stt) (sd : Sd) (x : Wn) : Prop where
  eq : M = ⟨c, s, [sd], [x], 1⟩
  cfg : cfgOk c = true
  now : 0 ≤ s.now ∧ s.now ≤ 40 * (i : Int)
  tok : 0 ≤ s.tokens ∧ s.tokens ≤ c.burst
  cnt : Cnt s (1000 * (i : Int))
  w : LiveW c x
  st : match bg with
    | none => sd.src = 3 ∧ sd.begun = false ∧ sd.gaps = [] ∧ sd.newest = 0 ∧ x.begun = false ∧ x.shift = 0
    | some (b, mx, G) => LiveS base b s.now i c.window.toNat mx G sd ∧ x.begun = true ∧ x.shift = (65530 + 65536 - (base + b) % 65536) % 65536
section
variable {c : Cfg} {base i : Nat} {bg : Option (Nat × Nat × List Og)} {M : Md} {s : Stt} {sd : Sd} {x : Wn}
theorem LiveM.src (h : LiveM c base i bg M s sd x) : sd.src = 3 := by
  have := h.st
  match bg, this with
  | none, h => exact h.1
  | some (b, mx, G), h => exact h.1.src
theorem LiveW.kok (h : LiveW c x) : KOk x := fun k hk => by
  obtain ⟨h1, py, h2, h3⟩ := h.kp k hk
  rw [h3]
  unfold keptP
  refine ⟨by simp only; omega, by simp, Nat.zero_le _, by simp only; omega⟩
theorem LiveM.all (h : LiveM c base i bg M s sd x) (hi : i ≤ 1000000) : AllOk M := by
  have hcf := of_decide_eq_true h.cfg
  have hn := h.now
  have htk := h.tok
  have hst := h.st
  have hw := h.w
  have hr : c.ring.toNat ≤ 64 := by omega
  have hso : SndOk sd ∧ sd.newest < 65536 ∧ x.shift < 65536 := by
    match bg, hst with
    | none, ⟨h1, h2, h3, h4, h5, h6⟩ =>
      refine ⟨⟨fun g hg => ?_, fun g hg => ?_, ?_⟩, by omega, by omega⟩
      · rw [h3] at hg; simp at hg
      · rw [h3] at hg; simp at hg
      · rw [h3]; simp
    | some (b, mx, G), ⟨h1, h2, h3⟩ =>
      have := h1.sndOk (by omega) (by omega)
      exact ⟨this.1, this.2, by omega⟩
  rw [h.eq]
  refine ⟨⟨h.cfg, by simp only; omega, by simp only; omega, fun q hq => ?_, by simp, fun s' hs' => ?_, fun x' hx' => ?_⟩, fun x' hx' => ?_, fun s' hs' => ?_, by simp only; omega⟩
  · have := h.cnt q hq
    omega
  · simp only [List.mem_singleton] at hs'
    subst hs'
    exact ⟨hso.1.1, hso.2.1, by have := hso.1.2.2; have := hso.1; match bg, hst with
      | none, ⟨_, _, h3, _⟩ => rw [h3]; simp
      | some (b, mx, G), ⟨h1, _⟩ => have := h1.len; omega⟩
  · simp only [List.mem_singleton] at hx'
    subst hx'
    unfold WOk
    rw [hw.pl]
    have := hw.len
    exact ⟨by simp [plan0], by simp [plan0], hso.2.2, by omega⟩
  · simp only [List.mem_singleton] at hx'
    subst hx'
    exact ⟨hw.kok, hw.sec⟩
  · simp only [List.mem_singleton] at hs'
    subst hs'
    exact hso.1
end
def pktS (s : Stt) (fate gu : Nat) : Stt :=
  if fate = 1 then { s with givenUp := s.givenUp + gu, late := s.late + 1 } else if fate = 2 then { s with givenUp := s.givenUp + gu, doubled := s.doubled + 1 } else { s with givenUp := s.givenUp + gu, passed := s.passed + 1 }
def nextG (window : Nat) (now : Int) (bg : Option (Nat × Nat × List Og)) (k : Nat) : (Nat × Nat × List Og) × Nat × Nat :=
  match bg with
  | none => ((k, k, []), 0, 0)
  | some (b, mx, G) => ((b, (takeG window mx G k now).mx, (takeG window mx G k now).G), (takeG window mx G k now).fate, (takeG window mx G k now).gu)
theorem keepsF_nodup (x : Wn) (p : PP) (cv : Value) (ring : Nat) (h : (x.kept.map Kp.n).Nodup) : ((keepsF x p cv ring).map Kp.n).Nodup := by
  have h1 : ((rmF Kp.n (numOf x p.nu.toNat) x.kept ++ [(⟨numOf x p.nu.toNat, passP x p, cv, 0⟩ : Kp)]).map Kp.n).Nodup := by
    rw [List.map_append, rmF_names, List.nodup_append]
    refine ⟨h.erase _, by simp, fun a ha b hb => ?_⟩
    simp at hb
    subst hb
    exact ((h.mem_erase_iff).1 ha).1
  unfold keepsF
  split
  · rw [List.map_drop]
    exact h1.sublist (List.drop_sublist _ _)
  · exact h1
theorem keepsF_mem {x : Wn} {p : PP} {cv : Value} {ring : Nat} {k : Kp} (h : k ∈ keepsF x p cv ring) : k ∈ x.kept ∨ k = ⟨numOf x p.nu.toNat, passP x p, cv, 0⟩ := by
  have h1 : k ∈ rmF Kp.n (numOf x p.nu.toNat) x.kept ++ [(⟨numOf x p.nu.toNat, passP x p, cv, 0⟩ : Kp)] := by
    unfold keepsF at h
    split at h
    · exact List.mem_of_mem_drop h
    · exact h
  rcases List.mem_append.1 h1 with h2 | h2
  · exact .inl (rmF_mem h2)
  · exact .inr (by simpa using h2)
theorem LiveW.pass {c : Cfg} {x : Wn} (h : LiveW c x) (n : Nat) (py : ByteArray) (cv : Value) : LiveW c (passW x (dataP n py) cv c.ring.toNat) := by
  refine ⟨h.src, h.of_, h.id, h.pl, keepsF_len _ _ _ _ h.len, h.sec, fun k hk => ?_, keepsF_nodup _ _ _ _ h.nd⟩
  rcases keepsF_mem hk with h1 | h1
  · exact h.kp k h1
  · subst h1
    refine ⟨Nat.mod_lt _ (by decide), cutF py 100, cutF_size py 100, ?_⟩
    unfold passP keptP dataP
    simp only [h.src, h.pl]
    rfl
theorem Cnt.pkt {s : Stt} {i fate gu : Nat} (h : Cnt s (1000 * (i : Int))) (hg : gu ≤ 100) : Cnt (pktS s fate gu) (1000 * ((i + 1 : Nat) : Int)) := by
  have a0 := h s.passed (by simp)
  have a1 := h s.late (by simp)
  have a2 := h s.doubled (by simp)
  have a3 := h s.wrong (by simp)
  have a4 := h s.unknown (by simp)
  have a5 := h s.again (by simp)
  have a6 := h s.refused (by simp)
  have a7 := h s.asked (by simp)
  have a8 := h s.givenUp (by simp)
  unfold pktS
  intro q hq
  split at hq
  · simp only [List.mem_cons, List.not_mem_nil, or_false] at hq
    rcases hq with rfl | rfl | rfl | rfl | rfl | rfl | rfl | rfl | rfl <;> omega
  · split at hq
    · simp only [List.mem_cons, List.not_mem_nil, or_false] at hq
      rcases hq with rfl | rfl | rfl | rfl | rfl | rfl | rfl | rfl | rfl <;> omega
    · simp only [List.mem_cons, List.not_mem_nil, or_false] at hq
      rcases hq with rfl | rfl | rfl | rfl | rfl | rfl | rfl | rfl | rfl <;> omega
theorem pktS_now (s : Stt) (f g : Nat) : (pktS s f g).now = s.now ∧ (pktS s f g).tokens = s.tokens := by
  unfold pktS
  split
  · exact ⟨rfl, rfl⟩
  · split <;> exact ⟨rfl, rfl⟩
theorem packet1_eq (c : Cfg) (s : Stt) (sd sd' : Sd) (x : Wn) (l : Int) (n : Nat) (py : ByteArray) (cv : Value) (f g : Nat) (ht : takeF sd (n % 65536) s.now c.window.toNat = (sd', f, g)) :
    packet1 c s sd x l n py cv = (⟨c, pktS s f g, [sd'], [if f = 1 ∨ f = 2 then x else passW x (dataP n py) cv c.ring.toNat], l⟩, (if f = 1 ∨ f = 2 then [] else [textOf x (dataP n py)]), 0) := by
  unfold packet1 pktS
  rw [ht]
  simp only
  by_cases h1 : f = 1
  · rw [if_pos h1, if_pos h1, if_pos (.inl h1), if_pos (.inl h1)]
  · rw [if_neg h1, if_neg h1]
    by_cases h2 : f = 2
    · rw [if_pos h2, if_pos h2, if_pos (.inr h2), if_pos (.inr h2)]
    · rw [if_neg h2, if_neg h2, if_neg (by omega), if_neg (by omega)]
theorem takeG_gu (window mx : Nat) (G : List Og) (k : Nat) (now : Int) (hG : G.length ≤ 50) (hk : k < 50) : (takeG window mx G k now).gu ≤ 100 := by
  unfold takeG
  split
  · simp only
    refine Nat.le_trans (Nat.sub_le _ _) ?_
    unfold onG newsG
    split
    · simp only [List.length_append, List.length_map, List.length_range']; omega
    · omega
  · split
    · exact Nat.zero_le _
    · split <;> exact Nat.zero_le _
theorem takeG_fate (window mx : Nat) (G : List Og) (k : Nat) (now : Int) : (takeG window mx G k now).fate = 0 ∨ (takeG window mx G k now).fate = 1 ∨ (takeG window mx G k now).fate = 2 := by
  unfold takeG
  split
  · exact .inl rfl
  · split
    · exact .inr (.inl rfl)
    · split
      · exact .inl rfl
      · exact .inr (.inr rfl)
/-- what is passed on is not behind the first -/
theorem takeG_pass {base b N window mx k : Nat} {now now' : Int} {G : List Og} {sd : Sd} (h : LiveS base b now N window mx G sd) (hf : (takeG window mx G k now').fate = 0) : b ≤ k := by
  have hle := h.le
  unfold takeG at hf
  split at hf
  · omega
  · split at hf
    · cases hf
    · split at hf
      · rename_i hm
        obtain ⟨g, hg, rfl⟩ := List.mem_map.1 hm
        have := h.rng g hg
        omega
      · cases hf
theorem LiveM.packet {c : Cfg} {base i k : Nat} {bg : Option (Nat × Nat × List Og)} {M : Md} {s : Stt} {sd : Sd} {x : Wn} (h : LiveM c base i bg M s sd x) (hk : k < 50) (py : ByteArray) (cv : Value) :
    ∃ sd', packetM M (dataT (base + k) py) cv = (⟨c, pktS s (nextG c.window.toNat s.now bg k).2.1 (nextG c.window.toNat s.now bg k).2.2, [sd'], [if (nextG c.window.toNat s.now bg k).2.1 = 0 then passW x (dataP (base + k) py) cv c.ring.toNat else x], 1⟩, (if (nextG c.window.toNat s.now bg k).2.1 = 0 then [textOf x (dataP (base + k) py)] else []), 0) ∧
      LiveM c base (i + 1) (some (nextG c.window.toNat s.now bg k).1) (packetM M (dataT (base + k) py) cv).1 (pktS s (nextG c.window.toNat s.now bg k).2.1 (nextG c.window.toNat s.now bg k).2.2) sd' (if (nextG c.window.toNat s.now bg k).2.1 = 0 then passW x (dataP (base + k) py) cv c.ring.toNat else x) ∧
      ((nextG c.window.toNat s.now bg k).2.1 = 0 → (nextG c.window.toNat s.now bg k).1.1 ≤ k ∧ numOf x ((base + k) % 65536) = (65530 + k - (nextG c.window.toNat s.now bg k).1.1) % 65536) := by
  have hsrc := h.src
  have hst := h.st
  have hn := h.now
  have htk := h.tok
  rw [h.eq, packetM_one c s sd x 1 (base + k) py cv hsrc h.w.of_]
  match bg, hst with
  | none, ⟨h1, h2, h3, h4, h5, h6⟩ =>
    obtain ⟨e, L⟩ := LiveS.first (base := base) (N := i + 1) (window := c.window.toNat) (now := s.now) h1 h2 h3 hk
    have hsh : shiftOf x ((base + k) % 65536) = (65530 + 65536 - (base + k) % 65536) % 65536 := by
      unfold shiftOf
      rw [h5, h.w.pl]
      rfl
    have ep := packet1_eq c s sd _ x 1 (base + k) py cv 0 0 e
    simp only [nextG, if_true]
    rw [ep]
    refine ⟨_, rfl, ⟨rfl, h.cfg, by rw [(pktS_now s 0 0).1]; omega, by rw [(pktS_now s 0 0).2]; exact htk, h.cnt.pkt (by omega), h.w.pass _ _ _, ?_⟩, fun _ => ⟨Nat.le_refl _, ?_⟩⟩
    · rw [(pktS_now s 0 0).1]
      exact ⟨L, rfl, hsh⟩
    · unfold numOf
      rw [hsh]
      omega
  | some (b, mx, G), ⟨hL, hxb, hxs⟩ =>
    obtain ⟨e, L⟩ := hL.take hk hn.1
    have hgu := takeG_gu c.window.toNat mx G k s.now hL.len.1 hk
    have hfa := takeG_fate c.window.toNat mx G k s.now
    have hps := takeG_pass (k := k) (now' := s.now) hL
    have ep := packet1_eq c s sd _ x 1 (base + k) py cv _ _ e
    have hsh : ∀ n, shiftOf x n = x.shift := fun n => by
      unfold shiftOf
      rw [hxb]
      rfl
    obtain ⟨T, hT⟩ : ∃ T, takeG c.window.toNat mx G k s.now = T := ⟨_, rfl⟩
    rw [hT] at hgu hfa hps L ep
    simp only [nextG, hT]
    rw [ep]
    obtain ⟨tm, tG, tf, tg⟩ := T
    simp only at hgu hfa hps L ⊢
    have hff : (tf = 1 ∨ tf = 2) ↔ ¬ tf = 0 := by omega
    have e1 : (if tf = 1 ∨ tf = 2 then x else passW x (dataP (base + k) py) cv c.ring.toNat) = if tf = 0 then passW x (dataP (base + k) py) cv c.ring.toNat else x := by
      by_cases h0 : tf = 0
      · rw [if_pos h0, if_neg (fun e => hff.1 e h0)]
      · rw [if_neg h0, if_pos (hff.2 h0)]
    have e2 : (if tf = 1 ∨ tf = 2 then [] else [textOf x (dataP (base + k) py)]) = if tf = 0 then [textOf x (dataP (base + k) py)] else [] := by
      by_cases h0 : tf = 0
      · rw [if_pos h0, if_neg (fun e => hff.1 e h0)]
      · rw [if_neg h0, if_pos (hff.2 h0)]
    rw [e1, e2]
    refine ⟨_, rfl, ⟨rfl, h.cfg, by rw [(pktS_now s tf tg).1]; omega, by rw [(pktS_now s tf tg).2]; exact htk, h.cnt.pkt hgu, ?_, ?_⟩, fun h0 => ⟨hps h0, ?_⟩⟩
    · split
      · exact h.w.pass _ _ _
      · exact h.w
    · rw [(pktS_now s tf tg).1]
      have hL' := L.mono (Int.le_refl s.now) (Nat.le_succ i)
      refine ⟨hL', ?_, ?_⟩
      · split
        · rfl
        · exact hxb
      · split
        · exact (hsh _).trans hxs
        · exact hxs
    · have := hps h0
      unfold numOf
      rw [hsh, hxs]
      omega

theorem ask_read (se so : Nat) (L : List Int) (hse : se < 4294967296) (hso : so < 4294967296) (hne : L ≠ []) (hr : Rises L) (hi : In16 L) (hl : L.length ≤ 300) :
    (askR (se : Int) (so : Int) L).2 = 0 ∧ repR (askR (se : Int) (so : Int) L).1 = some [(se, so, L)] ∧ (askR (se : Int) (so : Int) L).1.size ≤ 1500 ∧ 0 < (askR (se : Int) (so : Int) L).1.size := by
  have hl1 : 1 ≤ L.length := by cases L with
    | nil => exact absurd rfl hne
    | cons a r => simp
  have hE := read_entries L hne hr hi
  have hf : ∀ (l : List Int) (E : List (Nat × Nat)), In16 l → OkE E → OkE (l.foldl (fun E n => pushE E n.toNat) E) ∧ (l.foldl (fun E n => pushE E n.toNat) E).length ≤ E.length + l.length ∧ (1 ≤ E.length ∨ l ≠ [] → 1 ≤ (l.foldl (fun E n => pushE E n.toNat) E).length) := by
    intro l
    induction l with
    | nil => intro E _ h; exact ⟨h, by simp, fun h => by rcases h with h | h; exact h; exact absurd rfl h⟩
    | cons n l ih =>
      intro E hi h
      have hn := hi n (by simp)
      obtain ⟨p1, p2⟩ := pushE_len E n.toNat
      obtain ⟨i1, i2, i3⟩ := ih (pushE E n.toNat) (fun m hm => hi m (by simp [hm])) (h.push n.toNat (by omega))
      exact ⟨i1, by rw [List.foldl_cons, List.length_cons]; omega, fun _ => i3 (.inl p2)⟩
  obtain ⟨f1, f2, f3⟩ := hf L [] hi (fun p hp => by simp at hp)
  change OkE (entriesF _) at f1
  change (entriesF _).length ≤ _ at f2
  change _ → 1 ≤ (entriesF _).length at f3
  have f3' := f3 (.inr hne)
  simp only [List.length_nil, Nat.zero_add] at f2
  have hok : askOk (se : Int) (so : Int) L = true := by
    unfold askOk
    rw [decide_eq_true (p := 0 ≤ (se : Int) ∧ (se : Int) ≤ 4294967295) (by omega), decide_eq_true (p := 0 ≤ (so : Int) ∧ (so : Int) ≤ 4294967295) (by omega), decide_eq_true (p := 1 ≤ L.length) (by omega), decide_eq_true (p := L.length ≤ 300) (by omega)]
    simp only [Bool.true_and]
    unfold allIn
    rw [List.all_eq_true]
    intro n hn
    have := hi n hn
    simp only [decide_eq_true_eq]
    omega
  have hp := partsF_ask se so (entriesF L) [] hse hso f1 f3' (by omega)
  rw [List.append_nil, partsF_nil, hE] at hp
  have hsz : (askB se so (entriesF L)).length = 12 + 4 * (entriesF L).length := askB_length _ _ _
  unfold askR
  rw [if_pos hok]
  simp only [Int.toNat_natCast]
  have hs : (⟨(askB se so (entriesF L)).toArray⟩ : ByteArray).size = (askB se so (entriesF L)).length := by rw [Lib.size_eq]
  refine ⟨trivial, ?_, by omega, by omega⟩
  unfold repR
  rw [if_neg (by omega)]
  simp only
  rw [hp]
  rfl
theorem askT_read (n : Nat) : repR (askT n) = some [(0, 7, [((n % 65536 : Nat) : Int)])] := by
  have hn : n % 65536 < 65536 := Nat.mod_lt _ (by decide)
  exact (ask_read 0 7 [((n % 65536 : Nat) : Int)] (by omega) (by omega) (by simp) trivial (fun m hm => by simp at hm; omega) (by simp)).2.1
def repS (s : Stt) : Option ByteArray → Stt
  | none => { s with refused := s.refused + 1 }
  | some t => { s with again := s.again + 1, tokens := s.tokens - t.size }
theorem Cnt.rep {s : Stt} {i : Nat} (o : Option ByteArray) (h : Cnt s (1000 * (i : Int))) : Cnt (repS s o) (1000 * ((i + 1 : Nat) : Int)) := by
  have a0 := h s.passed (by simp)
  have a1 := h s.late (by simp)
  have a2 := h s.doubled (by simp)
  have a3 := h s.wrong (by simp)
  have a4 := h s.unknown (by simp)
  have a5 := h s.again (by simp)
  have a6 := h s.refused (by simp)
  have a7 := h s.asked (by simp)
  have a8 := h s.givenUp (by simp)
  intro q hq
  cases o with
  | none =>
    simp only [repS, List.mem_cons, List.not_mem_nil, or_false] at hq
    rcases hq with rfl | rfl | rfl | rfl | rfl | rfl | rfl | rfl | rfl <;> omega
  | some t =>
    simp only [repS, List.mem_cons, List.not_mem_nil, or_false] at hq
    rcases hq with rfl | rfl | rfl | rfl | rfl | rfl | rfl | rfl | rfl <;> omega
theorem againF_live {c : Cfg} {x : Wn} (h : LiveW c x) (n : Nat) (now delay tokens : Int) : LiveW c (againF x n now delay tokens).1 ∧ (againF x n now delay tokens).1.begun = x.begun ∧ (againF x n now delay tokens).1.shift = x.shift := by
  rcases posF_cases n (x.kept.map Kp.n) with ⟨hp, -⟩ | ⟨p, hpl, hp, -, -⟩
  · rw [again_none hp]
    exact ⟨h, rfl, rfl⟩
  · rw [List.length_map] at hpl
    rw [again_at hp (List.getElem?_eq_getElem hpl)]
    split
    · exact ⟨h, rfl, rfl⟩
    · split
      · exact ⟨h, rfl, rfl⟩
      · refine ⟨⟨h.src, h.of_, h.id, h.pl, by simp only [sentW, List.length_set]; exact h.len, Nat.mod_lt _ (by decide), fun q hq => ?_, ?_⟩, rfl, rfl⟩
        · rcases List.mem_or_eq_of_mem_set hq with hq | rfl
          · exact h.kp q hq
          · exact h.kp x.kept[p] (List.getElem_mem hpl)
        · have e : (sentW x p x.kept[p] (now + delay)).kept.map Kp.n = x.kept.map Kp.n := by
            unfold sentW
            simp only
            rw [List.map_set]
            simp only
            rw [show x.kept[p].n = (x.kept.map Kp.n)[p]'(by simpa using hpl) by simp]
            exact List.set_getElem_self _
          rw [e]
          exact h.nd
/-- a report for one number -/
theorem LiveM.report {c : Cfg} {base i : Nat} {bg : Option (Nat × Nat × List Og)} {M : Md} {s : Stt} {sd : Sd} {x : Wn} (h : LiveM c base i bg M s sd x) (n : Nat) :
    reportM M 1 (askT n) = (⟨c, repS s (againF x (n % 65536) s.now c.delay s.tokens).2, [sd], [(againF x (n % 65536) s.now c.delay s.tokens).1], 1⟩, (againF x (n % 65536) s.now c.delay s.tokens).2.toList, 0) ∧
      LiveM c base (i + 1) bg (reportM M 1 (askT n)).1 (repS s (againF x (n % 65536) s.now c.delay s.tokens).2) sd (againF x (n % 65536) s.now c.delay s.tokens).1 := by
  have hf := againF_facts x (n % 65536) s.now c.delay s.tokens h.w.kok
  have hlw := againF_live h.w (n % 65536) s.now c.delay s.tokens
  have hnow : (repS s (againF x (n % 65536) s.now c.delay s.tokens).2).now = s.now := by cases (againF x (n % 65536) s.now c.delay s.tokens).2 <;> rfl
  have e : reportM M 1 (askT n) = (⟨c, repS s (againF x (n % 65536) s.now c.delay s.tokens).2, [sd], [(againF x (n % 65536) s.now c.delay s.tokens).1], 1⟩, (againF x (n % 65536) s.now c.delay s.tokens).2.toList, 0) := by
    have hw : wntPos M 1 = some 0 := by rw [h.eq]; simp [wntPos, h.w.id]
    have hm : (((n % 65536 : Nat) : Int) % 65536).toNat = n % 65536 := by omega
    unfold reportM
    rw [hw, askT_read, h.eq]
    simp only [List.getElem?_cons_zero, repL, List.map_cons, List.map_nil, asksM, List.foldl_cons, List.foldl_nil, h.w.src]
    rw [if_pos (by rfl)]
    unfold numsM
    simp only [List.foldl_cons, List.foldl_nil, stp, hm]
    unfold stepM
    simp only [List.getElem?_cons_zero]
    cases hA : (againF x (n % 65536) s.now c.delay s.tokens).2 with
    | none =>
      simp only [repS, Option.toList_none, List.append_nil]
      rw [hf.2.2.2.2.2.1 hA]
    | some t =>
      simp only [repS, Option.toList_some, List.nil_append, List.set_cons_zero]
  refine ⟨e, ?_⟩
  rw [e]
  refine ⟨rfl, h.cfg, by rw [hnow]; have := h.now; omega, ?_, h.cnt.rep _, hlw.1, ?_⟩
  · have htk := h.tok
    cases hA : (againF x (n % 65536) s.now c.delay s.tokens).2 with
    | none => exact htk
    | some t =>
      have := hf.2.2.2.2.2.2 t hA
      simp only [repS]
      omega
  · have hst := h.st
    rw [hnow, hlw.2.1, hlw.2.2]
    match bg, hst with
    | none, h => exact h
    | some (b, mx, G), ⟨h1, h2, h3⟩ => exact ⟨h1.mono (Int.le_refl _) (Nat.le_succ i), h2, h3⟩

def tickS (c : Cfg) (s : Stt) (t : Int) (a g : Nat) : Stt := { s with now := s.now + t, tokens := min (s.tokens + c.rate * t) c.burst, asked := s.asked + (a : Int), givenUp := s.givenUp + (g : Int) }
def numK (base : Nat) (ks : List Nat) : List Int := ks.map fun k => (((base + k) % 65536 : Nat) : Int)
def askText (base : Nat) (ks : List Nat) : ByteArray := (askR 0 3 (numK base ks)).1
def bgAsk (c : Cfg) (now : Int) (bg : Option (Nat × Nat × List Og)) : Option (Nat × Nat × List Og) × List Nat × Nat :=
  match bg with
  | none => (none, [], 0)
  | some (b, mx, G) => (some (b, mx, askO now c.retry c.tries G), askedO now c.retry c.tries G, G.length - (keptO now c.retry c.tries G).length)
theorem Cnt.tick {c : Cfg} {s : Stt} {i a g : Nat} {t : Int} (h : Cnt s (1000 * (i : Int))) (ha : a ≤ 100) (hg : g ≤ 100) : Cnt (tickS c s t a g) (1000 * ((i + 1 : Nat) : Int)) := by
  have a0 := h s.passed (by simp)
  have a1 := h s.late (by simp)
  have a2 := h s.doubled (by simp)
  have a3 := h s.wrong (by simp)
  have a4 := h s.unknown (by simp)
  have a5 := h s.again (by simp)
  have a6 := h s.refused (by simp)
  have a7 := h s.asked (by simp)
  have a8 := h s.givenUp (by simp)
  intro q hq
  simp only [tickS, List.mem_cons, List.not_mem_nil, or_false] at hq
  rcases hq with rfl | rfl | rfl | rfl | rfl | rfl | rfl | rfl | rfl <;> omega
theorem keptO_le (now retry tries : Int) (G : List Og) : (keptO now retry tries G).length ≤ G.length := List.length_filter_le _ _
theorem askedO_le (now retry tries : Int) (G : List Og) : (askedO now retry tries G).length ≤ G.length := by
  unfold askedO
  rw [List.length_map]
  exact Nat.le_trans (List.length_filter_le _ _) (keptO_le now retry tries G)
theorem LiveM.tick {c : Cfg} {base i : Nat} {bg : Option (Nat × Nat × List Og)} {M : Md} {s : Stt} {sd : Sd} {x : Wn} (h : LiveM c base i bg M s sd x) (t : Int) (ht : 0 ≤ t ∧ t < 40) :
    ∃ sd', tickM M t = (⟨c, tickS c s t (bgAsk c (s.now + t) bg).2.1.length (bgAsk c (s.now + t) bg).2.2, [sd'], [x], 1⟩, (if (bgAsk c (s.now + t) bg).2.1 = [] then [] else [askText base (bgAsk c (s.now + t) bg).2.1]), 0) ∧
      LiveM c base (i + 1) (bgAsk c (s.now + t) bg).1 (tickM M t).1 (tickS c s t (bgAsk c (s.now + t) bg).2.1.length (bgAsk c (s.now + t) bg).2.2) sd' x := by
  have hn := h.now
  have htk := h.tok
  have hcf := of_decide_eq_true h.cfg
  have hsrc := h.src
  have hst := h.st
  have hrt : 0 ≤ c.rate * t := Int.mul_nonneg hcf.2.2.2.1.1 ht.1
  have hM : tickM M t = (⟨c, { s with now := s.now + t, tokens := min (s.tokens + c.rate * t) c.burst, asked := s.asked + (askedS sd (s.now + t) c.retry c.tries).length, givenUp := s.givenUp + ((sd.gaps.length : Int) - (keptG (s.now + t) c.retry c.tries sd.gaps).length) }, [askS sd (s.now + t) c.retry c.tries], [x], 1⟩, (if (askedS sd (s.now + t) c.retry c.tries).length = 0 then [] else [(askR 0 sd.src (askedS sd (s.now + t) c.retry c.tries)).1]), 0) := by
    unfold tickM
    rw [if_pos (by omega), h.eq]
    simp only [List.length_cons, List.length_nil, Nat.zero_add]
    have e1 : ∀ X : Md, askAll X 1 = askStep (X, []) 0 := fun X => rfl
    rw [e1]
    unfold askStep wentM
    simp only [List.getElem?_cons_zero, List.set_cons_zero, List.nil_append]
  match bg, hst with
  | none, ⟨h1, h2, h3, h4, h5, h6⟩ =>
    have ea : askedS sd (s.now + t) c.retry c.tries = [] := by unfold askedS keptG names; rw [h3]; rfl
    have ek : keptG (s.now + t) c.retry c.tries sd.gaps = [] := by unfold keptG; rw [h3]; rfl
    have hS : tickM M t = (⟨c, tickS c s t 0 0, [askS sd (s.now + t) c.retry c.tries], [x], 1⟩, [], 0) := by
      rw [hM, ea, ek, h3]
      rfl
    refine ⟨askS sd (s.now + t) c.retry c.tries, by simp only [bgAsk, List.length_nil, if_true]; exact hS, ?_⟩
    simp only [bgAsk, List.length_nil]
    rw [hS]
    refine ⟨rfl, h.cfg, by simp only [tickS]; omega, by simp only [tickS]; omega, h.cnt.tick (by omega) (by omega), h.w, h1, h2, ?_, h4, h5, h6⟩
    unfold askS
    simp only
    rw [ek]
    rfl
  | some (b, mx, G), ⟨hL, hxb, hxs⟩ =>
    have hL1 := hL.mono (now' := s.now + t) (N' := i) (by omega) (Nat.le_refl _)
    obtain ⟨A1, A2, A3, A4⟩ := hL1.ask (retry := c.retry) (tries := c.tries) (by omega)
    have hlen := hL.len.1
    have hk := keptO_le (s.now + t) c.retry c.tries G
    have ha := askedO_le (s.now + t) c.retry c.tries G
    have hS : tickM M t = (⟨c, tickS c s t (askedO (s.now + t) c.retry c.tries G).length (G.length - (keptO (s.now + t) c.retry c.tries G).length), [askS sd (s.now + t) c.retry c.tries], [x], 1⟩, (if askedO (s.now + t) c.retry c.tries G = [] then [] else [askText base (askedO (s.now + t) c.retry c.tries G)]), 0) := by
      rw [hM, A2, A3, A4, hsrc, List.length_map]
      have e2 : s.givenUp + ((G.length : Int) - ((keptO (s.now + t) c.retry c.tries G).length : Int)) = s.givenUp + ((G.length - (keptO (s.now + t) c.retry c.tries G).length : Nat) : Int) := by omega
      rw [e2]
      unfold tickS askText numK
      by_cases h0 : askedO (s.now + t) c.retry c.tries G = []
      · rw [if_pos h0, if_pos (by rw [h0]; rfl)]
      · rw [if_neg h0, if_neg (fun e => h0 (List.eq_nil_of_length_eq_zero e))]
    refine ⟨askS sd (s.now + t) c.retry c.tries, by simp only [bgAsk]; exact hS, ?_⟩
    simp only [bgAsk]
    rw [hS]
    exact ⟨rfl, h.cfg, by simp only [tickS]; omega, by simp only [tickS]; omega, h.cnt.tick (by omega) (by omega), h.w, A1, hxb, hxs⟩
theorem live_begin (c : Cfg) (base : Nat) (hc : cfgOk c = true) : LiveM c base 0 none (bM c) ⟨0, c.burst, 0, 0, 0, 0, 0, 0, 0, 0, 0⟩ ⟨3, false, [], 0⟩ (newW 1 3 plan0 65534) := by
  have hcf := of_decide_eq_true hc
  exact ⟨rfl, hc, by simp, by simp only; omega, fun q hq => by simp at hq; omega, ⟨rfl, rfl, rfl, rfl, by simp [newW], by simp [newW], fun k hk => by simp [newW] at hk, by simp [newW]⟩, rfl, rfl, rfl, rfl, rfl, rfl⟩
/-- numbers at rising distances rise -/
theorem numK_rises (base : Nat) : ∀ (l : List Nat), l.Pairwise (· < ·) → (∀ k ∈ l, k < 50) → Rises (numK base l) ∧ In16 (numK base l)
  | [], _, _ => ⟨trivial, fun n hn => by simp [numK] at hn⟩
  | [a], _, _ => ⟨trivial, fun n hn => by simp [numK] at hn; omega⟩
  | a :: b :: r, hs, h50 => by
    rw [List.pairwise_cons] at hs
    obtain ⟨i1, i2⟩ := numK_rises base (b :: r) hs.2 (fun k hk => h50 k (by simp [hk]))
    have hab := hs.1 b (by simp)
    have hb := h50 b (by simp)
    refine ⟨⟨⟨b - a, by omega, by omega, ?_⟩, i1⟩, fun n hn => ?_⟩
    · simp only
      omega
    · unfold numK at hn
      rw [List.map_cons] at hn
      rcases List.mem_cons.1 hn with rfl | hn
      · omega
      · exact i2 n hn
theorem askedO_facts {base b N window mx : Nat} {now now' retry tries : Int} {G : List Og} {sd : Sd} (h : LiveS base b now N window mx G sd) : (askedO now' retry tries G).Pairwise (· < ·) ∧ (∀ k ∈ askedO now' retry tries G, k < 50) ∧ (askedO now' retry tries G).length ≤ 50 := by
  refine ⟨?_, fun k hk => ?_, Nat.le_trans (askedO_le now' retry tries G) h.len.1⟩
  · unfold askedO keptO
    exact pw_filter (pw_filter h.srt)
  · unfold askedO keptO at hk
    obtain ⟨g, hg, rfl⟩ := List.mem_map.1 hk
    have := h.rng g (List.mem_filter.1 (List.mem_filter.1 hg).1).1
    have := h.m50
    omega
theorem askText_read {base : Nat} {l : List Nat} (h1 : l.Pairwise (· < ·)) (h2 : ∀ k ∈ l, k < 50) (h3 : l.length ≤ 50) (hne : l ≠ []) : repR (askText base l) = some [(0, 3, numK base l)] ∧ (askText base l).size ≤ 1500 := by
  obtain ⟨r1, r2⟩ := numK_rises base l h1 h2
  have hne' : numK base l ≠ [] := fun e => hne (by unfold numK at e; exact List.map_eq_nil_iff.1 e)
  have := ask_read 0 3 (numK base l) (by omega) (by omega) hne' r1 r2 (by unfold numK; rw [List.length_map]; omega)
  exact ⟨this.2.1, this.2.2.1⟩
end Pk
end Go.Proofs.Ytdjhhnolcafkiaa

/- Wanted: what is asked for, against what has come. Rows of a law's own. -/
namespace Go.Proofs.Ytdjhhnolcafkiaa
open Go.RowKit
namespace Pk
/-- a row of one-cell values -/
structure RowAt (b n : Nat) (f : Nat → Value) (W : World) : Prop where
  c : ∀ j, j < n → W.cell? ⟨b, j, none⟩ = some (f j)
  f : ∀ o, W.frozen? ⟨b, o, none⟩ = false
  lt : b < W.heap.size
theorem RowAt.chg {T : Nat → Prop} {b n : Nat} {f : Nat → Value} {W W' : World} (h : RowAt b n f W) (hc : Chg T W W') (hn : ¬ T b) : RowAt b n f W' :=
  ⟨fun j hj => hc.cell (h.c j hj) hn, fun o => (hc.frozen (p := ⟨b, o, none⟩) h.lt hn).trans (h.f o), Nat.lt_of_lt_of_le h.lt hc.size⟩
def updV (f : Nat → Value) (k : Nat) (v : Value) : Nat → Value := fun j => if j = k then v else f j
theorem RowAt.set {b n k : Nat} {f : Nat → Value} {W : World} (h : RowAt b n f W) (v : Value) : RowAt b n (updV f k v) (W.setCell ⟨b, k, none⟩ v) := by
  refine ⟨fun j hj => ?_, fun o => ?_, ?_⟩
  · unfold updV
    by_cases e : j = k
    · subst e
      rw [if_pos rfl]
      exact World.cell?_setCell_same _ _ _ (h.c j hj)
    · rw [if_neg e, World.cell?_setCell_other _ _ _ _ (fun e' => e (by injection e' with _ e2 _; exact e2.symm))]
      exact h.c j hj
  · rw [World.frozen?_setCell]
    exact h.f o
  · rw [World.size_setCell]
    exact h.lt
theorem RowAt.made {W : World} {base e n g cap : Nat} {z : Value} (hz : z.cells = #[z]) (h : W.ownsRow base e 1 (.slice (some ⟨g, 0, none⟩) n cap) n (madeCells z.cells (n * 1)).toList) : RowAt g n (fun _ => z) W := by
  refine ⟨fun j hj => ?_, fun o => h.frozenAt o, (h.lt g rfl).2⟩
  have h1 := h.cellAt j (by omega)
  rw [h1, hz, toList_madeCells_one]
  simp [hj]
theorem RowAt.eq {b n : Nat} {f f' : Nat → Value} {W : World} (h : RowAt b n f W) (he : ∀ j, j < n → f j = f' j) : RowAt b n f' W := ⟨fun j hj => by rw [← he j hj]; exact h.c j hj, h.f, h.lt⟩

structure WantSt (i : Nat) (bg : Option (Nat × Nat × List Og)) (came : Nat → Bool) (tr la : Nat → Int) : Prop where
  g : match bg with
    | none => ∀ k, came k = false ∧ tr k = 0
    | some (_, mx, G) => (∀ g ∈ G, came g.k = false ∧ tr g.k = g.tries ∧ (0 < g.tries → la g.k = g.last)) ∧ ∀ k, mx < k → came k = false ∧ tr k = 0
  b : ∀ k, (0 ≤ tr k ∧ tr k ≤ (i : Int)) ∧ 0 ≤ la k ∧ la k ≤ 40 * (i : Int)
theorem takeG_mem {window mx k : Nat} {now : Int} {G : List Og} {g : Og} (h : g ∈ (takeG window mx G k now).G) : g ∈ G ∨ (mx < k ∧ mx < g.k ∧ g.tries = 0) := by
  unfold takeG at h
  split at h
  · have h1 := (List.mem_filter.1 h).1
    unfold onG at h1
    split at h1
    · rcases List.mem_append.1 h1 with h2 | h2
      · exact .inl h2
      · have := newsG_mem h2
        exact .inr ⟨by assumption, by omega, this.2.2.2⟩
    · exact .inl h1
  · split at h
    · exact .inl h
    · split at h
      · exact .inl (List.mem_filter.1 h).1
      · exact .inl h
theorem takeG_ne {base b N window mx k : Nat} {now now' : Int} {G : List Og} {sd : Sd} (hL : LiveS base b now N window mx G sd) {g : Og} (h : g ∈ (takeG window mx G k now').G) : g.k ≠ k := by
  unfold takeG at h
  split at h
  · rename_i hlt
    have h1 := (List.mem_filter.1 h).1
    unfold onG at h1
    split at h1
    · rcases List.mem_append.1 h1 with h2 | h2
      · have := hL.rng g h2; omega
      · have := newsG_mem h2; omega
    · have := hL.rng g h1; omega
  · split at h
    · have := hL.rng g h; omega
    · split at h
      · exact of_decide_eq_true (List.mem_filter.1 h).2
      · rename_i hm
        exact fun e => hm (List.mem_map.2 ⟨g, h, e⟩)
theorem takeG_mx (window mx k : Nat) (G : List Og) (now : Int) : mx ≤ (takeG window mx G k now).mx ∧ (k ≤ (takeG window mx G k now).mx) := by
  unfold takeG
  split
  · simp only; omega
  · split
    · simp only; omega
    · split <;> (simp only; omega)
theorem WantSt.packet {c : Cfg} {base i k : Nat} {bg : Option (Nat × Nat × List Og)} {M : Md} {s : Stt} {sd : Sd} {x : Wn} {came : Nat → Bool} {tr la : Nat → Int} (hL : LiveM c base i bg M s sd x) (h : WantSt i bg came tr la) :
    WantSt (i + 1) (some (nextG c.window.toNat s.now bg k).1) (updB came k) tr la := by
  have hst := hL.st
  have hg := h.g
  refine ⟨?_, fun j => by have := h.b j; omega⟩
  match bg, hst, hg with
  | none, _, hg =>
    simp only [nextG]
    refine ⟨fun g hg => by simp at hg, fun j hj => ?_⟩
    unfold updB
    rw [if_neg (by omega)]
    exact hg j
  | some (b, mx, G), hst, ⟨g1, g2⟩ =>
    simp only [nextG]
    have hm := takeG_mx c.window.toNat mx k G s.now
    refine ⟨fun g hgm => ?_, fun j hj => ?_⟩
    · have hne := takeG_ne hst.1 hgm
      unfold updB
      rw [if_neg hne]
      rcases takeG_mem hgm with h1 | ⟨h1, h2, h3⟩
      · exact g1 g h1
      · have := g2 g.k h2
        exact ⟨this.1, by omega, fun h0 => by omega⟩
    · unfold updB
      rw [if_neg (by omega)]
      exact g2 j (by omega)
theorem WantSt.report {i : Nat} {bg : Option (Nat × Nat × List Og)} {came : Nat → Bool} {tr la : Nat → Int} (h : WantSt i bg came tr la) : WantSt (i + 1) bg came tr la := ⟨h.g, fun j => by have := h.b j; omega⟩
def bump (l : List Nat) (f : Nat → Int) (k : Nat) : Int := if k ∈ l then f k + 1 else f k
def stamp (l : List Nat) (t : Int) (f : Nat → Int) (k : Nat) : Int := if k ∈ l then t else f k
theorem bump_in {l : List Nat} {f : Nat → Int} {k : Nat} (h : k ∈ l) : bump l f k = f k + 1 := if_pos h
theorem bump_out {l : List Nat} {f : Nat → Int} {k : Nat} (h : k ∉ l) : bump l f k = f k := if_neg h
theorem stamp_in {l : List Nat} {t : Int} {f : Nat → Int} {k : Nat} (h : k ∈ l) : stamp l t f k = t := if_pos h
theorem stamp_out {l : List Nat} {t : Int} {f : Nat → Int} {k : Nat} (h : k ∉ l) : stamp l t f k = f k := if_neg h
/-- what is asked for may be -/
theorem WantSt.may {c : Cfg} {base i : Nat} {bg : Option (Nat × Nat × List Og)} {M : Md} {s : Stt} {sd : Sd} {x : Wn} {came : Nat → Bool} {tr la : Nat → Int} (hL : LiveM c base i bg M s sd x) (h : WantSt i bg came tr la) (now : Int) :
    (∀ k ∈ (bgAsk c now bg).2.1, k < 50 ∧ came k = false ∧ tr k < c.tries ∧ (0 < tr k → c.retry ≤ now - la k)) ∧ (bgAsk c now bg).2.1.Nodup ∧ (bgAsk c now bg).2.1.Pairwise (· < ·) ∧ (bgAsk c now bg).2.1.length ≤ 50 := by
  have hst := hL.st
  have hg := h.g
  match bg, hst, hg with
  | none, _, _ => simp [bgAsk]
  | some (b, mx, G), hst, ⟨g1, g2⟩ =>
    simp only [bgAsk]
    obtain ⟨f1, f2, f3⟩ := askedO_facts (now' := now) (retry := c.retry) (tries := c.tries) hst.1
    refine ⟨fun k hk => ?_, f1.imp (fun h => Nat.ne_of_lt h), f1, f3⟩
    have hk50 := f2 k hk
    unfold askedO at hk
    obtain ⟨g, hgm, rfl⟩ := List.mem_map.1 hk
    obtain ⟨m1, m2⟩ := List.mem_filter.1 hgm
    unfold keptO at m1
    obtain ⟨m3, m4⟩ := List.mem_filter.1 m1
    obtain ⟨q1, q2, q3⟩ := g1 g m3
    have hdue : c.retry ≤ now - g.last := of_decide_eq_true m2
    have hng : ¬ c.tries ≤ g.tries := fun e => by
      unfold goneO at m4
      rw [m2, decide_eq_true e] at m4
      simp at m4
    exact ⟨hk50, q1, by omega, fun h0 => by rw [q3 (by omega)]; exact hdue⟩
theorem WantSt.tick {c : Cfg} {base i : Nat} {bg : Option (Nat × Nat × List Og)} {M : Md} {s : Stt} {sd : Sd} {x : Wn} {came : Nat → Bool} {tr la : Nat → Int} (hL : LiveM c base i bg M s sd x) (h : WantSt i bg came tr la) (t : Int) (ht : 0 ≤ t ∧ t < 40) :
    WantSt (i + 1) (bgAsk c (s.now + t) bg).1 came (bump (bgAsk c (s.now + t) bg).2.1 tr) (stamp (bgAsk c (s.now + t) bg).2.1 (s.now + t) la) := by
  have hst := hL.st
  have hg := h.g
  have hn := hL.now
  refine ⟨?_, fun k => ?_⟩
  · match bg, hst, hg with
    | none, _, hg =>
      exact hg
    | some (b, mx, G), hst, ⟨g1, g2⟩ =>
      simp only [bgAsk]
      have hinj : ∀ g ∈ G, ∀ g' ∈ G, g.k = g'.k → g = g' := fun g hg g' hg' e => by
        have hp := hst.1.srt
        rw [List.pairwise_map] at hp
        obtain ⟨a, ha, rfl⟩ := List.mem_iff_getElem.1 hg
        obtain ⟨b', hb, rfl⟩ := List.mem_iff_getElem.1 hg'
        rcases Nat.lt_trichotomy a b' with h1 | h1 | h1
        · have := List.pairwise_iff_getElem.1 hp a b' ha hb h1; omega
        · subst h1; rfl
        · have := List.pairwise_iff_getElem.1 hp b' a hb ha h1; omega
      refine ⟨fun g hgm => ?_, fun k hk => ?_⟩
      · unfold askO at hgm
        obtain ⟨g0, h0, rfl⟩ := List.mem_map.1 hgm
        have h0G : g0 ∈ G := (List.mem_filter.1 h0).1
        obtain ⟨q1, q2, q3⟩ := g1 g0 h0G
        rw [upO_k]
        have hiff : g0.k ∈ askedO (s.now + t) c.retry c.tries G ↔ dueO (s.now + t) c.retry g0 = true := by
          unfold askedO
          constructor
          · intro hm
            obtain ⟨g', hg', e⟩ := List.mem_map.1 hm
            obtain ⟨m1, m2⟩ := List.mem_filter.1 hg'
            have := hinj g' (List.mem_filter.1 m1).1 g0 h0G e
            rw [← this]
            exact m2
          · intro hd
            exact List.mem_map.2 ⟨g0, List.mem_filter.2 ⟨h0, hd⟩, rfl⟩
        unfold upO
        by_cases hd : dueO (s.now + t) c.retry g0 = true
        · rw [if_pos hd, bump_in (hiff.2 hd), stamp_in (hiff.2 hd)]
          exact ⟨q1, by simp only; omega, fun _ => rfl⟩
        · rw [if_neg hd, bump_out (fun e => hd (hiff.1 e)), stamp_out (fun e => hd (hiff.1 e))]
          exact ⟨q1, q2, q3⟩
      · have hno : k ∉ askedO (s.now + t) c.retry c.tries G := fun hm => by
          unfold askedO keptO at hm
          obtain ⟨g', hg', e⟩ := List.mem_map.1 hm
          have := hst.1.rng g' (List.mem_filter.1 (List.mem_filter.1 hg').1).1
          omega
        rw [bump_out hno]
        exact g2 k hk
  · have := h.b k
    refine ⟨?_, ?_⟩
    · unfold bump; split <;> omega
    · unfold stamp; split <;> omega
theorem want_begin : WantSt 0 none (fun _ => false) (fun _ => 0) (fun _ => 0) := ⟨fun _ => ⟨rfl, rfl⟩, fun _ => by simp⟩
end Pk
end Go.Proofs.Ytdjhhnolcafkiaa

/- menderkeep: config. -/
namespace Go.Proofs.Ytdjhhnolcafkiaa
open Go.RowKit
namespace Pk
def cfgF (cl : List Int) : Cfg := ⟨1 + pickF (cl.getD 0 0) 64, 1 + pickF (cl.getD 1 0) 200, pickF (cl.getD 2 0) 30, pickF (cl.getD 3 0) 40, pickF (cl.getD 4 0) 400, 1 + pickF (cl.getD 5 0) 30, pickF (cl.getD 6 0) 5⟩
def CfS (L : Nat) (a0 a1 a2 a3 a4 a5 a6 : Int) (W : World) : Prop := W.cell? ⟨L, 0, none⟩ = some (.int .i64 a0) ∧ W.cell? ⟨L, 1, none⟩ = some (.int .i64 a1) ∧ W.cell? ⟨L, 2, none⟩ = some (.int .i64 a2) ∧ W.cell? ⟨L, 3, none⟩ = some (.int .i64 a3) ∧ W.cell? ⟨L, 4, none⟩ = some (.int .i64 a4) ∧ W.cell? ⟨L, 5, none⟩ = some (.int .i64 a5) ∧ W.cell? ⟨L, 6, none⟩ = some (.int .i64 a6)
/-- cells stored one behind the other -/
def setAll (W : World) (b : Nat) : List Value → Nat → World
  | [], _ => W
  | c :: r, off => setAll (W.setCell ⟨b, off, none⟩ c) b r (off + 1)
theorem setAll_chg (b : Nat) : ∀ (l : List Value) (W : World) (off : Nat), Chg (fun x => x = b) W (setAll W b l off)
  | [], _W, _ => Chg.refl _ _
  | c :: r, _W, off => ((Chg.refl (fun x => x = b) _).setCell ⟨b, off, none⟩ (.inl rfl) c).trans (setAll_chg b r _ (off + 1)) (fun _ _ e => e)
theorem setAll_lt (b : Nat) : ∀ (l : List Value) (W : World) (off j : Nat), j < off → (setAll W b l off).cell? ⟨b, j, none⟩ = W.cell? ⟨b, j, none⟩
  | [], W, _, _, _ => rfl
  | c :: r, W, off, j, h => (setAll_lt b r _ (off + 1) j (by omega)).trans (World.cell?_setCell_other _ _ _ _ (fun e => by injection e with _ e _; omega))
theorem setAll_cell (b : Nat) : ∀ (l : List Value) (W : World) (off : Nat), (∀ i, i < l.length → ∃ u, W.cell? ⟨b, off + i, none⟩ = some u) → ∀ i u, l[i]? = some u → (setAll W b l off).cell? ⟨b, off + i, none⟩ = some u
  | [], W, _, _, i, u, h => by simp at h
  | c :: r, W, off, hW, 0, u, h => by
    simp at h
    subst h
    show (setAll (W.setCell ⟨b, off, none⟩ c) b r (off + 1)).cell? ⟨b, off, none⟩ = some c
    rw [setAll_lt b r _ (off + 1) off (by omega)]
    obtain ⟨u, hu⟩ := hW 0 (by simp)
    exact World.cell?_setCell_same _ _ _ hu
  | c :: r, W, off, hW, i + 1, u, h => by
    have hh := setAll_cell b r (W.setCell ⟨b, off, none⟩ c) (off + 1) (fun j hj => by
      obtain ⟨u, hu⟩ := hW (j + 1) (by simpa using hj)
      refine ⟨u, (World.cell?_setCell_other _ _ _ _ (fun e => by injection e with _ e _; omega)).trans ?_⟩
      rw [show off + 1 + j = off + (j + 1) by omega]
      exact hu) i u (by simpa using h)
    rw [setAll, show off + (i + 1) = off + 1 + i by omega]
    exact hh
theorem setAll_cell0 (b : Nat) (l : List Value) (W : World) (h : ∀ i, i < l.length → ∃ u, W.cell? ⟨b, i, none⟩ = some u) (i : Nat) (u : Value) (hu : l[i]? = some u) : (setAll W b l 0).drew.cell? ⟨b, i, none⟩ = some u := by
  have hh := setAll_cell b l W 0 (fun j hj => by rw [Nat.zero_add]; exact h j hj) i u hu
  rw [Nat.zero_add] at hh
  exact hh
theorem chain7 (W : World) (b : Nat) (c0 c1 c2 c3 c4 c5 c6 : Value) : (((((((W.setCell ⟨b, 0, none⟩ c0).setCell ⟨b, 1, none⟩ c1).setCell ⟨b, 2, none⟩ c2).setCell ⟨b, 3, none⟩ c3).setCell ⟨b, 4, none⟩ c4).setCell ⟨b, 5, none⟩ c5).setCell ⟨b, 6, none⟩ c6) = setAll W b [c0, c1, c2, c3, c4, c5, c6] 0 := by
  simp only [setAll]
theorem CfS.chg {T : Nat → Prop} {W W' : World} {L : Nat} {a0 a1 a2 a3 a4 a5 a6 : Int} (h : CfS L a0 a1 a2 a3 a4 a5 a6 W) (hc : Chg T W W') (hn : ¬ T L) : CfS L a0 a1 a2 a3 a4 a5 a6 W' := by
  obtain ⟨b0, b1, b2, b3, b4, b5, b6⟩ := h
  exact ⟨hc.cell b0 hn, hc.cell b1 hn, hc.cell b2 hn, hc.cell b3 hn, hc.cell b4 hn, hc.cell b5 hn, hc.cell b6 hn⟩
theorem getD_in {cl : List Int} (h : ∀ c ∈ cl, -9223372036854775808 ≤ c ∧ c ≤ 9223372036854775807) (i : Nat) : -9223372036854775808 ≤ cl.getD i 0 ∧ cl.getD i 0 ≤ 9223372036854775807 := by
  rcases Nat.lt_or_ge i cl.length with hi | hi
  · rw [List.getD_eq_getElem?_getD, List.getElem?_eq_getElem hi]
    exact h _ (List.getElem_mem hi)
  · rw [List.getD_eq_getElem?_getD, List.getElem?_eq_none hi]
    exact ⟨by decide, by decide⟩
theorem cfgF_ok (cl : List Int) : cfgOk (cfgF cl) = true := by
  have a := pickF_lo (cl.getD 0 0) 64 (by omega); have a' := pickF_hi (cl.getD 0 0) 64 (by omega)
  have b := pickF_lo (cl.getD 1 0) 200 (by omega); have b' := pickF_hi (cl.getD 1 0) 200 (by omega)
  have c := pickF_lo (cl.getD 2 0) 30 (by omega); have c' := pickF_hi (cl.getD 2 0) 30 (by omega)
  have d := pickF_lo (cl.getD 3 0) 40 (by omega); have d' := pickF_hi (cl.getD 3 0) 40 (by omega)
  have e := pickF_lo (cl.getD 4 0) 400 (by omega); have e' := pickF_hi (cl.getD 4 0) 400 (by omega)
  have f := pickF_lo (cl.getD 5 0) 30 (by omega); have f' := pickF_hi (cl.getD 5 0) 30 (by omega)
  have g := pickF_lo (cl.getD 6 0) 5 (by omega); have g' := pickF_hi (cl.getD 6 0) 5 (by omega)
  unfold cfgOk cfgF
  refine decide_eq_true ?_
  simp only
  omega
/-- the list of seven numbers, the first k of them taken over; the box of the answer -/
structure CfR (w : World) (cl : List Int) (k : Nat) (W : World) : Prop where
  bel : Below w.heap.size w W
  c : ∀ j, j < 7 → W.cell? ⟨w.heap.size + 1, j, none⟩ = some (.int .i64 (if j < k then cl.getD j 0 else 0))
  z : ∀ j, j < 7 → W.cell? ⟨w.heap.size, j, none⟩ = some (.int .i64 0)
  f : ∀ o, W.frozen? ⟨w.heap.size + 1, o, none⟩ = false ∧ W.frozen? ⟨w.heap.size, o, none⟩ = false
theorem CfR.step {w W : World} {cl : List Int} {k : Nat} (h : CfR w cl k W) (hk : k < 7) : CfR w cl (k + 1) (W.setCell ⟨w.heap.size + 1, k, none⟩ (.int .i64 (cl.getD k 0))) := by
  refine ⟨h.bel.setCell (p := ⟨w.heap.size + 1, k, none⟩) (by simp) _, fun j hj => ?_, fun j hj => ?_, fun o => ?_⟩
  · by_cases e : j = k
    · subst e
      rw [if_pos (by omega)]
      exact World.cell?_setCell_same _ _ _ (h.c j hj)
    · rw [World.cell?_setCell_other _ _ _ _ (fun e' => e (by injection e' with _ e2 _; exact e2.symm)), h.c j hj]
      by_cases hjk : j < k
      · rw [if_pos hjk, if_pos (by omega)]
      · rw [if_neg hjk, if_neg (by omega)]
  · rw [World.cell?_setCell_other _ _ _ _ (fun e' => by injection e' with e2 _ _; omega)]
    exact h.z j hj
  · rw [World.frozen?_setCell, World.frozen?_setCell]
    exact h.f o
end Pk
open Pk

set_option maxRecDepth 20000 in
set_option maxHeartbeats 8000000 in
theorem config_any (cv : Value) (cl : List Int) (w : World) (hv : IsInts w.heap.size w cv cl) (hin : ∀ c ∈ cl, -9223372036854775808 ≤ c ∧ c ≤ 9223372036854775807) (_hl : cl.length ≤ maxLen) :
    Calls Try.prog 29 #[cv] w fun e w' => e = .returned (.agg #[.int .i64 (cfgF cl).ring, .int .i64 (cfgF cl).window, .int .i64 (cfgF cl).delay, .int .i64 (cfgF cl).rate, .int .i64 (cfgF cl).burst, .int .i64 (cfgF cl).retry, .int .i64 (cfgF cl).tries]) ∧ Below w.heap.size w w' := by
  obtain ⟨ao, cap, rfl, hc⟩ := hv
  have Hc : Hid (∀ j, j < cl.length → ∃ b off, ao = some ⟨b, off, none⟩ ∧ b < w.heap.size ∧ w.cell? ⟨b, off + j, none⟩ = some (.int .i64 (cl.getD j 0))) := hc
  have Hin : Hid (∀ c ∈ cl, -9223372036854775808 ≤ c ∧ c ≤ 9223372036854775807) := hin
  unfold maxLen at _hl
  have HR0 : Hid (CfR w cl 0 ((w.alloc (.cells #[.int .i64 0, .int .i64 0, .int .i64 0, .int .i64 0, .int .i64 0, .int .i64 0, .int .i64 0] 63)).alloc (.cells #[.int .i64 0, .int .i64 0, .int .i64 0, .int .i64 0, .int .i64 0, .int .i64 0, .int .i64 0] 3))) := by
    have e7 : ∀ j, j < 7 → (#[.int .i64 0, .int .i64 0, .int .i64 0, .int .i64 0, .int .i64 0, .int .i64 0, .int .i64 0] : Array Value)[j]? = some (.int .i64 0) := fun j hj => by
      match j, hj with
      | 0, _ => rfl
      | 1, _ => rfl
      | 2, _ => rfl
      | 3, _ => rfl
      | 4, _ => rfl
      | 5, _ => rfl
      | 6, _ => rfl
    refine ⟨((Below.refl _ _).alloc (Nat.le_refl _) _).alloc (by simp) _, fun j hj => ?_, fun j hj => ?_, fun o => ⟨?_, ?_⟩⟩
    · rw [if_neg (by omega)]
      have h := cell_new (w.alloc (.cells #[.int .i64 0, .int .i64 0, .int .i64 0, .int .i64 0, .int .i64 0, .int .i64 0, .int .i64 0] 63)) #[.int .i64 0, .int .i64 0, .int .i64 0, .int .i64 0, .int .i64 0, .int .i64 0, .int .i64 0] 3 j
      rw [World.size_alloc] at h
      exact h.trans (e7 j hj)
    · exact (World.cell?_alloc_lt _ _ _ (by simp)).trans ((cell_new _ _ _ j).trans (e7 j hj))
    · have h := frozen_new (w.alloc (.cells #[.int .i64 0, .int .i64 0, .int .i64 0, .int .i64 0, .int .i64 0, .int .i64 0, .int .i64 0] 63)) #[.int .i64 0, .int .i64 0, .int .i64 0, .int .i64 0, .int .i64 0, .int .i64 0, .int .i64 0] 3 o
      rw [World.size_alloc] at h
      exact h
    · exact (((Below.refl (w.heap.size + 1) (w.alloc (.cells #[.int .i64 0, .int .i64 0, .int .i64 0, .int .i64 0, .int .i64 0, .int .i64 0, .int .i64 0] 63))).alloc (by simp) _).frozen (p := ⟨w.heap.size, o, none⟩) (by simp)).trans (frozen_new _ _ _ o)
  clear hc hin
  go_enter Try.func29, Try.ntmps29
  go_wp2
  go_loopw [4] (fun s4 wr => ∃ k : Nat, k ≤ 7 ∧ k ≤ cl.length ∧ s4 = .int .i64 k ∧ CfR w cl k wr) (fun s4 _ => 7 - (intOf s4).toNat)
  case atStart => exact ⟨0, by omega, Nat.zero_le _, rfl, HR0.out⟩
  case round =>
    obtain ⟨k, hk7, hkl, rfl, hR⟩ := hrel
    have HR : Hid (CfR w cl k wr) := hR
    clear hR
    by_cases hgo : k < 7 ∧ k < cl.length
    · have h1 : (k : Int) < 7 := by omega
      have h2 : (k : Int) < cl.length := by omega
      obtain ⟨b, off, rfl, hb, hcell⟩ := Hc.out k hgo.2
      have d0 : wr.cell? ⟨b, off + k, none⟩ = some (.int .i64 (cl.getD k 0)) := (HR.out.bel.cell (p := ⟨b, off + k, none⟩) hb).trans hcell
      have d1 := HR.out.c k hgo.1
      have df : wr.frozen? ⟨w.heap.size + 1, k, none⟩ = false := (HR.out.f k).1
      have HR' : Hid (CfR w cl (k + 1) (wr.setCell ⟨w.heap.size + 1, k, none⟩ (.int .i64 (cl.getD k 0)))) := HR.out.step hgo.1
      have hk7' := hgo.1
      have hkl' := hgo.2
      clear hcell hgo
      generalize cl.getD k 0 = ck at *
      go_wp2
      go_roundw
      case rel => exact ⟨k + 1, by omega, by omega, by go_num, HR'.out⟩
      case measure => simp [intOf]; omega
    · have hh : ∀ j, j < 7 → wr.cell? ⟨w.heap.size + 1, j, none⟩ = some (.int .i64 (cl.getD j 0)) := fun j hj => by
        rw [HR.out.c j hj]
        by_cases hjk : j < k
        · rw [if_pos hjk]
        · rw [if_neg hjk, List.getD_eq_getElem?_getD, List.getElem?_eq_none (by omega)]
          rfl
      have hg : ∀ i, -9223372036854775808 ≤ cl.getD i 0 ∧ cl.getD i 0 ≤ 9223372036854775807 := getD_in Hin.out
      obtain ⟨a0, e0⟩ : ∃ a, cl.getD 0 0 = a := ⟨_, rfl⟩
      have s0 := hh 0 (by omega)
      have r0 := hg 0
      have m0 := pickF_lo a0 64 (by omega)
      have n0 := pickF_hi a0 64 (by omega)
      obtain ⟨p0, hp0⟩ : ∃ q, pickF a0 64 = q := ⟨_, rfl⟩
      have Hp0 : Hid (pickF a0 64 = p0) := hp0
      rw [hp0] at m0 n0
      obtain ⟨a1, e1⟩ : ∃ a, cl.getD 1 0 = a := ⟨_, rfl⟩
      have s1 := hh 1 (by omega)
      have r1 := hg 1
      have m1 := pickF_lo a1 200 (by omega)
      have n1 := pickF_hi a1 200 (by omega)
      obtain ⟨p1, hp1⟩ : ∃ q, pickF a1 200 = q := ⟨_, rfl⟩
      have Hp1 : Hid (pickF a1 200 = p1) := hp1
      rw [hp1] at m1 n1
      obtain ⟨a2, e2⟩ : ∃ a, cl.getD 2 0 = a := ⟨_, rfl⟩
      have s2 := hh 2 (by omega)
      have r2 := hg 2
      have m2 := pickF_lo a2 30 (by omega)
      have n2 := pickF_hi a2 30 (by omega)
      obtain ⟨p2, hp2⟩ : ∃ q, pickF a2 30 = q := ⟨_, rfl⟩
      have Hp2 : Hid (pickF a2 30 = p2) := hp2
      rw [hp2] at m2 n2
      obtain ⟨a3, e3⟩ : ∃ a, cl.getD 3 0 = a := ⟨_, rfl⟩
      have s3 := hh 3 (by omega)
      have r3 := hg 3
      have m3 := pickF_lo a3 40 (by omega)
      have n3 := pickF_hi a3 40 (by omega)
      obtain ⟨p3, hp3⟩ : ∃ q, pickF a3 40 = q := ⟨_, rfl⟩
      have Hp3 : Hid (pickF a3 40 = p3) := hp3
      rw [hp3] at m3 n3
      obtain ⟨a4, e4⟩ : ∃ a, cl.getD 4 0 = a := ⟨_, rfl⟩
      have s4 := hh 4 (by omega)
      have r4 := hg 4
      have m4 := pickF_lo a4 400 (by omega)
      have n4 := pickF_hi a4 400 (by omega)
      obtain ⟨p4, hp4⟩ : ∃ q, pickF a4 400 = q := ⟨_, rfl⟩
      have Hp4 : Hid (pickF a4 400 = p4) := hp4
      rw [hp4] at m4 n4
      obtain ⟨a5, e5⟩ : ∃ a, cl.getD 5 0 = a := ⟨_, rfl⟩
      have s5 := hh 5 (by omega)
      have r5 := hg 5
      have m5 := pickF_lo a5 30 (by omega)
      have n5 := pickF_hi a5 30 (by omega)
      obtain ⟨p5, hp5⟩ : ∃ q, pickF a5 30 = q := ⟨_, rfl⟩
      have Hp5 : Hid (pickF a5 30 = p5) := hp5
      rw [hp5] at m5 n5
      obtain ⟨a6, e6⟩ : ∃ a, cl.getD 6 0 = a := ⟨_, rfl⟩
      have s6 := hh 6 (by omega)
      have r6 := hg 6
      have m6 := pickF_lo a6 5 (by omega)
      have n6 := pickF_hi a6 5 (by omega)
      obtain ⟨p6, hp6⟩ : ∃ q, pickF a6 5 = q := ⟨_, rfl⟩
      have Hp6 : Hid (pickF a6 5 = p6) := hp6
      rw [hp6] at m6 n6
      have HCf : Hid (cfgF cl = ⟨1 + p0, 1 + p1, p2, p3, p4, 1 + p5, p6⟩) := by
        show _ = _
        unfold cfgF
        rw [e0, e1, e2, e3, e4, e5, e6, hp0, hp1, hp2, hp3, hp4, hp5, hp6]
      rw [e0] at s0 r0
      rw [e1] at s1 r1
      rw [e2] at s2 r2
      rw [e3] at s3 r3
      rw [e4] at s4 r4
      rw [e5] at s5 r5
      rw [e6] at s6 r6
      have HS : Hid (CfS (w.heap.size + 1) a0 a1 a2 a3 a4 a5 a6 wr) := ⟨s0, s1, s2, s3, s4, s5, s6⟩
      have u0 : IntKind.i64.wrap (1 + p0) = 1 + p0 := i64_id _ (by omega) (by omega)
      have u1 : IntKind.i64.wrap (1 + p1) = 1 + p1 := i64_id _ (by omega) (by omega)
      have u5 : IntKind.i64.wrap (1 + p5) = 1 + p5 := i64_id _ (by omega) (by omega)
      clear hh hg e0 e1 e2 e3 e4 e5 e6 hp0 hp1 hp2 hp3 hp4 hp5 hp6 s0 s1 s2 s3 s4 s5 s6
      have z0 := HR.out.z 0 (by omega)
      have z1 := HR.out.z 1 (by omega)
      have z2 := HR.out.z 2 (by omega)
      have z3 := HR.out.z 3 (by omega)
      have z4 := HR.out.z 4 (by omega)
      have z5 := HR.out.z 5 (by omega)
      have z6 := HR.out.z 6 (by omega)
      have zf : ∀ o, wr.frozen? ⟨w.heap.size, o, none⟩ = false := fun o => (HR.out.f o).2
      obtain ⟨W9, hW9⟩ : ∃ W9, setAll wr w.heap.size [.int .i64 (1 + p0), .int .i64 (1 + p1), .int .i64 p2, .int .i64 p3, .int .i64 p4, .int .i64 (1 + p5), .int .i64 p6] 0 = W9 := ⟨_, rfl⟩
      have HE9 : Hid ((((((((wr.setCell ⟨w.heap.size, 0, none⟩ (.int .i64 (1 + p0))).setCell ⟨w.heap.size, 1, none⟩ (.int .i64 (1 + p1))).setCell ⟨w.heap.size, 2, none⟩ (.int .i64 p2)).setCell ⟨w.heap.size, 3, none⟩ (.int .i64 p3)).setCell ⟨w.heap.size, 4, none⟩ (.int .i64 p4)).setCell ⟨w.heap.size, 5, none⟩ (.int .i64 (1 + p5))).setCell ⟨w.heap.size, 6, none⟩ (.int .i64 p6)) = W9) := (chain7 wr w.heap.size _ _ _ _ _ _ _).trans hW9
      have HC9 : Hid (CfS (w.heap.size + 1) a0 a1 a2 a3 a4 a5 a6 W9.drew) := by
        rw [← hW9]
        exact CfS.chg HS.out (setAll_chg w.heap.size [.int .i64 (1 + p0), .int .i64 (1 + p1), .int .i64 p2, .int .i64 p3, .int .i64 p4, .int .i64 (1 + p5), .int .i64 p6] wr 0).drew (by omega)
      have Hb9 : Hid (Below w.heap.size w W9.drew) := by
        rw [← hW9]
        exact HR.out.bel.trans (((setAll_chg w.heap.size [.int .i64 (1 + p0), .int .i64 (1 + p1), .int .i64 p2, .int .i64 p3, .int .i64 p4, .int .i64 (1 + p5), .int .i64 p6] wr 0).drew).below HR.out.bel.size (fun x e => by omega))
      have Hc9 : Hid (∀ (i : Nat) (u : Value), ([.int .i64 (1 + p0), .int .i64 (1 + p1), .int .i64 p2, .int .i64 p3, .int .i64 p4, .int .i64 (1 + p5), .int .i64 p6] : List Value)[i]? = some u → W9.drew.cell? ⟨w.heap.size, i, none⟩ = some u) := by
        subst hW9
        exact setAll_cell0 w.heap.size _ wr (fun j hj => ⟨_, HR.out.z j hj⟩)
      clear hW9
      by_cases h1 : (k : Int) < 7
      · have h2 : ¬ (k : Int) < cl.length := by omega
        clear hgo
        go_wp2
        refine wp_region_noPanic ?_
        refine wp_region_held_drew (S := CfS (w.heap.size + 1) a0 a1 a2 a3 a4 a5 a6) (by kernel_rfl) HS.out (fun hHeld => ?_)
        refine wpAnyH_take (i := 0) (v := ?vt1) rfl (by kernel_rfl) (by kernel_rfl) (by kernel_rfl) (fun _ _ _ h => h) (Or.inl ⟨by rfl, ?yt1⟩) hHeld ?rt1
        case yt1 => ((intro W hSw; obtain ⟨hS0, hS1, hS2, hS3, hS4, hS5, hS6⟩ := hSw; go_simp) <;> with_reducible rfl)
        try simp only [Act.put]
        try simp only [List.getElem_toArray]
        try simp only [List.getElem_cons_succ]
        try simp only [List.getElem_cons_zero]
        try simp only [List.setIfInBounds_toArray]
        try simp only [List.set_cons_succ]
        try simp only [List.set_cons_zero]
        refine wpAnyH_take (i := 1) (v := ?vt2) rfl (by kernel_rfl) (by kernel_rfl) (by kernel_rfl) (fun _ _ _ h => h) (Or.inl ⟨by rfl, ?yt2⟩) hHeld ?rt2
        case yt2 => ((intro W hSw; obtain ⟨hS0, hS1, hS2, hS3, hS4, hS5, hS6⟩ := hSw; go_simp) <;> with_reducible rfl)
        try simp only [Act.put]
        try simp only [List.getElem_toArray]
        try simp only [List.getElem_cons_succ]
        try simp only [List.getElem_cons_zero]
        try simp only [List.setIfInBounds_toArray]
        try simp only [List.set_cons_succ]
        try simp only [List.set_cons_zero]
        refine wpAnyH_take (i := 2) (v := ?vt3) rfl (by kernel_rfl) (by kernel_rfl) (by kernel_rfl) (fun _ _ _ h => h) (Or.inl ⟨by rfl, ?yt3⟩) hHeld ?rt3
        case yt3 => ((intro W hSw; obtain ⟨hS0, hS1, hS2, hS3, hS4, hS5, hS6⟩ := hSw; go_simp) <;> with_reducible rfl)
        try simp only [Act.put]
        try simp only [List.getElem_toArray]
        try simp only [List.getElem_cons_succ]
        try simp only [List.getElem_cons_zero]
        try simp only [List.setIfInBounds_toArray]
        try simp only [List.set_cons_succ]
        try simp only [List.set_cons_zero]
        refine wpAnyH_take (i := 5) (v := ?vt4) rfl (by kernel_rfl) (by kernel_rfl) (by kernel_rfl) (fun _ _ _ h => h) (Or.inl ⟨by rfl, ?yt4⟩) hHeld ?rt4
        case yt4 => ((intro W hSw; obtain ⟨hS0, hS1, hS2, hS3, hS4, hS5, hS6⟩ := hSw; go_simp) <;> with_reducible rfl)
        try simp only [Act.put]
        try simp only [List.getElem_toArray]
        try simp only [List.getElem_cons_succ]
        try simp only [List.getElem_cons_zero]
        try simp only [List.setIfInBounds_toArray]
        try simp only [List.set_cons_succ]
        try simp only [List.set_cons_zero]
        refine wpAnyH_take (i := 6) (v := ?vt5) rfl (by kernel_rfl) (by kernel_rfl) (by kernel_rfl) (fun _ _ _ h => h) (Or.inl ⟨by rfl, ?yt5⟩) hHeld ?rt5
        case yt5 => ((intro W hSw; obtain ⟨hS0, hS1, hS2, hS3, hS4, hS5, hS6⟩ := hSw; go_simp) <;> with_reducible rfl)
        try simp only [Act.put]
        try simp only [List.getElem_toArray]
        try simp only [List.getElem_cons_succ]
        try simp only [List.getElem_cons_zero]
        try simp only [List.setIfInBounds_toArray]
        try simp only [List.set_cons_succ]
        try simp only [List.set_cons_zero]
        refine wpAnyH_take (i := 7) (v := ?vt6) rfl (by kernel_rfl) (by kernel_rfl) (by kernel_rfl) (fun _ _ _ h => h) (Or.inl ⟨by rfl, ?yt6⟩) hHeld ?rt6
        case yt6 => ((intro W hSw; obtain ⟨hS0, hS1, hS2, hS3, hS4, hS5, hS6⟩ := hSw; go_simp) <;> with_reducible rfl)
        try simp only [Act.put]
        try simp only [List.getElem_toArray]
        try simp only [List.getElem_cons_succ]
        try simp only [List.getElem_cons_zero]
        try simp only [List.setIfInBounds_toArray]
        try simp only [List.set_cons_succ]
        try simp only [List.set_cons_zero]
        refine wpAnyH_take (i := 10) (v := ?vt7) rfl (by kernel_rfl) (by kernel_rfl) (by kernel_rfl) (fun _ _ _ h => h) (Or.inl ⟨by rfl, ?yt7⟩) hHeld ?rt7
        case yt7 => ((intro W hSw; obtain ⟨hS0, hS1, hS2, hS3, hS4, hS5, hS6⟩ := hSw; go_simp) <;> with_reducible rfl)
        try simp only [Act.put]
        try simp only [List.getElem_toArray]
        try simp only [List.getElem_cons_succ]
        try simp only [List.getElem_cons_zero]
        try simp only [List.setIfInBounds_toArray]
        try simp only [List.set_cons_succ]
        try simp only [List.set_cons_zero]
        refine wpAnyH_take (i := 11) (v := ?vt8) rfl (by kernel_rfl) (by kernel_rfl) (by kernel_rfl) (fun _ _ _ h => h) (Or.inl ⟨by rfl, ?yt8⟩) hHeld ?rt8
        case yt8 => ((intro W hSw; obtain ⟨hS0, hS1, hS2, hS3, hS4, hS5, hS6⟩ := hSw; go_simp) <;> with_reducible rfl)
        try simp only [Act.put]
        try simp only [List.getElem_toArray]
        try simp only [List.getElem_cons_succ]
        try simp only [List.getElem_cons_zero]
        try simp only [List.setIfInBounds_toArray]
        try simp only [List.set_cons_succ]
        try simp only [List.set_cons_zero]
        refine wpAnyH_take (i := 12) (v := ?vt9) rfl (by kernel_rfl) (by kernel_rfl) (by kernel_rfl) (fun _ _ _ h => h) (Or.inl ⟨by rfl, ?yt9⟩) hHeld ?rt9
        case yt9 => ((intro W hSw; obtain ⟨hS0, hS1, hS2, hS3, hS4, hS5, hS6⟩ := hSw; go_simp) <;> with_reducible rfl)
        try simp only [Act.put]
        try simp only [List.getElem_toArray]
        try simp only [List.getElem_cons_succ]
        try simp only [List.getElem_cons_zero]
        try simp only [List.setIfInBounds_toArray]
        try simp only [List.set_cons_succ]
        try simp only [List.set_cons_zero]
        refine wpAnyH_take (i := 14) (v := ?vt10) rfl (by kernel_rfl) (by kernel_rfl) (by kernel_rfl) (fun _ _ _ h => h) (Or.inl ⟨by rfl, ?yt10⟩) hHeld ?rt10
        case yt10 => ((intro W hSw; obtain ⟨hS0, hS1, hS2, hS3, hS4, hS5, hS6⟩ := hSw; go_simp) <;> with_reducible rfl)
        try simp only [Act.put]
        try simp only [List.getElem_toArray]
        try simp only [List.getElem_cons_succ]
        try simp only [List.getElem_cons_zero]
        try simp only [List.setIfInBounds_toArray]
        try simp only [List.set_cons_succ]
        try simp only [List.set_cons_zero]
        refine wpAnyH_take (i := 15) (v := ?vt11) rfl (by kernel_rfl) (by kernel_rfl) (by kernel_rfl) (fun _ _ _ h => h) (Or.inl ⟨by rfl, ?yt11⟩) hHeld ?rt11
        case yt11 => ((intro W hSw; obtain ⟨hS0, hS1, hS2, hS3, hS4, hS5, hS6⟩ := hSw; go_simp) <;> with_reducible rfl)
        try simp only [Act.put]
        try simp only [List.getElem_toArray]
        try simp only [List.getElem_cons_succ]
        try simp only [List.getElem_cons_zero]
        try simp only [List.setIfInBounds_toArray]
        try simp only [List.set_cons_succ]
        try simp only [List.set_cons_zero]
        refine wpAnyH_take (i := 16) (v := ?vt12) rfl (by kernel_rfl) (by kernel_rfl) (by kernel_rfl) (fun _ _ _ h => h) (Or.inl ⟨by rfl, ?yt12⟩) hHeld ?rt12
        case yt12 => ((intro W hSw; obtain ⟨hS0, hS1, hS2, hS3, hS4, hS5, hS6⟩ := hSw; go_simp) <;> with_reducible rfl)
        try simp only [Act.put]
        try simp only [List.getElem_toArray]
        try simp only [List.getElem_cons_succ]
        try simp only [List.getElem_cons_zero]
        try simp only [List.setIfInBounds_toArray]
        try simp only [List.set_cons_succ]
        try simp only [List.set_cons_zero]
        refine wpAnyH_take (i := 18) (v := ?vt13) rfl (by kernel_rfl) (by kernel_rfl) (by kernel_rfl) (fun _ _ _ h => h) (Or.inl ⟨by rfl, ?yt13⟩) hHeld ?rt13
        case yt13 => ((intro W hSw; obtain ⟨hS0, hS1, hS2, hS3, hS4, hS5, hS6⟩ := hSw; go_simp) <;> with_reducible rfl)
        try simp only [Act.put]
        try simp only [List.getElem_toArray]
        try simp only [List.getElem_cons_succ]
        try simp only [List.getElem_cons_zero]
        try simp only [List.setIfInBounds_toArray]
        try simp only [List.set_cons_succ]
        try simp only [List.set_cons_zero]
        refine wpAnyH_take (i := 19) (v := ?vt14) rfl (by kernel_rfl) (by kernel_rfl) (by kernel_rfl) (fun _ _ _ h => h) (Or.inl ⟨by rfl, ?yt14⟩) hHeld ?rt14
        case yt14 => ((intro W hSw; obtain ⟨hS0, hS1, hS2, hS3, hS4, hS5, hS6⟩ := hSw; go_simp) <;> with_reducible rfl)
        try simp only [Act.put]
        try simp only [List.getElem_toArray]
        try simp only [List.getElem_cons_succ]
        try simp only [List.getElem_cons_zero]
        try simp only [List.setIfInBounds_toArray]
        try simp only [List.set_cons_succ]
        try simp only [List.set_cons_zero]
        refine wpAnyH_take (i := 20) (v := ?vt15) rfl (by kernel_rfl) (by kernel_rfl) (by kernel_rfl) (fun _ _ _ h => h) (Or.inl ⟨by rfl, ?yt15⟩) hHeld ?rt15
        case yt15 => ((intro W hSw; obtain ⟨hS0, hS1, hS2, hS3, hS4, hS5, hS6⟩ := hSw; go_simp) <;> with_reducible rfl)
        try simp only [Act.put]
        try simp only [List.getElem_toArray]
        try simp only [List.getElem_cons_succ]
        try simp only [List.getElem_cons_zero]
        try simp only [List.setIfInBounds_toArray]
        try simp only [List.set_cons_succ]
        try simp only [List.set_cons_zero]
        refine wpAnyH_take (i := 22) (v := ?vt16) rfl (by kernel_rfl) (by kernel_rfl) (by kernel_rfl) (fun _ _ _ h => h) (Or.inl ⟨by rfl, ?yt16⟩) hHeld ?rt16
        case yt16 => ((intro W hSw; obtain ⟨hS0, hS1, hS2, hS3, hS4, hS5, hS6⟩ := hSw; go_simp) <;> with_reducible rfl)
        try simp only [Act.put]
        try simp only [List.getElem_toArray]
        try simp only [List.getElem_cons_succ]
        try simp only [List.getElem_cons_zero]
        try simp only [List.setIfInBounds_toArray]
        try simp only [List.set_cons_succ]
        try simp only [List.set_cons_zero]
        refine wpAnyH_take (i := 23) (v := ?vt17) rfl (by kernel_rfl) (by kernel_rfl) (by kernel_rfl) (fun _ _ _ h => h) (Or.inl ⟨by rfl, ?yt17⟩) hHeld ?rt17
        case yt17 => ((intro W hSw; obtain ⟨hS0, hS1, hS2, hS3, hS4, hS5, hS6⟩ := hSw; go_simp) <;> with_reducible rfl)
        try simp only [Act.put]
        try simp only [List.getElem_toArray]
        try simp only [List.getElem_cons_succ]
        try simp only [List.getElem_cons_zero]
        try simp only [List.setIfInBounds_toArray]
        try simp only [List.set_cons_succ]
        try simp only [List.set_cons_zero]
        refine wpAnyH_take (i := 24) (v := ?vt18) rfl (by kernel_rfl) (by kernel_rfl) (by kernel_rfl) (fun _ _ _ h => h) (Or.inl ⟨by rfl, ?yt18⟩) hHeld ?rt18
        case yt18 => ((intro W hSw; obtain ⟨hS0, hS1, hS2, hS3, hS4, hS5, hS6⟩ := hSw; go_simp) <;> with_reducible rfl)
        try simp only [Act.put]
        try simp only [List.getElem_toArray]
        try simp only [List.getElem_cons_succ]
        try simp only [List.getElem_cons_zero]
        try simp only [List.setIfInBounds_toArray]
        try simp only [List.set_cons_succ]
        try simp only [List.set_cons_zero]
        refine wpAnyH_take (i := 27) (v := ?vt19) rfl (by kernel_rfl) (by kernel_rfl) (by kernel_rfl) (fun _ _ _ h => h) (Or.inl ⟨by rfl, ?yt19⟩) hHeld ?rt19
        case yt19 => ((intro W hSw; obtain ⟨hS0, hS1, hS2, hS3, hS4, hS5, hS6⟩ := hSw; go_simp) <;> with_reducible rfl)
        try simp only [Act.put]
        try simp only [List.getElem_toArray]
        try simp only [List.getElem_cons_succ]
        try simp only [List.getElem_cons_zero]
        try simp only [List.setIfInBounds_toArray]
        try simp only [List.set_cons_succ]
        try simp only [List.set_cons_zero]
        refine wpAnyH_take (i := 28) (v := ?vt20) rfl (by kernel_rfl) (by kernel_rfl) (by kernel_rfl) (fun _ _ _ h => h) (Or.inl ⟨by rfl, ?yt20⟩) hHeld ?rt20
        case yt20 => ((intro W hSw; obtain ⟨hS0, hS1, hS2, hS3, hS4, hS5, hS6⟩ := hSw; go_simp) <;> with_reducible rfl)
        try simp only [Act.put]
        try simp only [List.getElem_toArray]
        try simp only [List.getElem_cons_succ]
        try simp only [List.getElem_cons_zero]
        try simp only [List.setIfInBounds_toArray]
        try simp only [List.set_cons_succ]
        try simp only [List.set_cons_zero]
        refine wpAnyH_take (i := 29) (v := ?vt21) rfl (by kernel_rfl) (by kernel_rfl) (by kernel_rfl) (fun _ _ _ h => h) (Or.inl ⟨by rfl, ?yt21⟩) hHeld ?rt21
        case yt21 => ((intro W hSw; obtain ⟨hS0, hS1, hS2, hS3, hS4, hS5, hS6⟩ := hSw; go_simp) <;> with_reducible rfl)
        try simp only [Act.put]
        try simp only [List.getElem_toArray]
        try simp only [List.getElem_cons_succ]
        try simp only [List.getElem_cons_zero]
        try simp only [List.setIfInBounds_toArray]
        try simp only [List.set_cons_succ]
        try simp only [List.set_cons_zero]
        refine wpAnyH_ready (rs := [3]) (by kernel_rfl) (by simp) ?_
        refine AllReadyH.cons rfl (fun K hK => ?_) AllReadyH.nil
        go_simp
        refine (pick_any a0 64 _ r0.1 r0.2 (by omega) (by omega)).mono ?_
        rintro e w0' ⟨rfl, hw⟩
        rw [hw, Hp0.out]
        clear hw
        go_simp
        refine hK.out _ _ hHeld (fun hHeld => ?_)
        clear hK K
        try simp only [Act.put]
        try simp only [List.getElem_toArray]
        try simp only [List.getElem_cons_succ]
        try simp only [List.getElem_cons_zero]
        try simp only [List.setIfInBounds_toArray]
        try simp only [List.set_cons_succ]
        try simp only [List.set_cons_zero]
        refine wpAnyH_take (i := 4) (v := ?vt22) rfl (by kernel_rfl) (by kernel_rfl) (by kernel_rfl) (fun _ _ _ h => h) (Or.inl ⟨by rfl, ?yt22⟩) hHeld ?rt22
        case yt22 => ((intro W hSw; obtain ⟨hS0, hS1, hS2, hS3, hS4, hS5, hS6⟩ := hSw; go_simp) <;> with_reducible rfl)
        try simp only [Act.put]
        try simp only [List.getElem_toArray]
        try simp only [List.getElem_cons_succ]
        try simp only [List.getElem_cons_zero]
        try simp only [List.setIfInBounds_toArray]
        try simp only [List.set_cons_succ]
        try simp only [List.set_cons_zero]
        refine wpAnyH_ready (rs := [8]) (by kernel_rfl) (by simp) ?_
        refine AllReadyH.cons rfl (fun K hK => ?_) AllReadyH.nil
        go_simp
        refine (pick_any a1 200 _ r1.1 r1.2 (by omega) (by omega)).mono ?_
        rintro e w1' ⟨rfl, hw⟩
        rw [hw, Hp1.out]
        clear hw
        go_simp
        refine hK.out _ _ hHeld (fun hHeld => ?_)
        clear hK K
        try simp only [Act.put]
        try simp only [List.getElem_toArray]
        try simp only [List.getElem_cons_succ]
        try simp only [List.getElem_cons_zero]
        try simp only [List.setIfInBounds_toArray]
        try simp only [List.set_cons_succ]
        try simp only [List.set_cons_zero]
        refine wpAnyH_take (i := 9) (v := ?vt23) rfl (by kernel_rfl) (by kernel_rfl) (by kernel_rfl) (fun _ _ _ h => h) (Or.inl ⟨by rfl, ?yt23⟩) hHeld ?rt23
        case yt23 => ((intro W hSw; obtain ⟨hS0, hS1, hS2, hS3, hS4, hS5, hS6⟩ := hSw; go_simp) <;> with_reducible rfl)
        try simp only [Act.put]
        try simp only [List.getElem_toArray]
        try simp only [List.getElem_cons_succ]
        try simp only [List.getElem_cons_zero]
        try simp only [List.setIfInBounds_toArray]
        try simp only [List.set_cons_succ]
        try simp only [List.set_cons_zero]
        refine wpAnyH_ready (rs := [13]) (by kernel_rfl) (by simp) ?_
        refine AllReadyH.cons rfl (fun K hK => ?_) AllReadyH.nil
        go_simp
        refine (pick_any a2 30 _ r2.1 r2.2 (by omega) (by omega)).mono ?_
        rintro e w2' ⟨rfl, hw⟩
        rw [hw, Hp2.out]
        clear hw
        go_simp
        refine hK.out _ _ hHeld (fun hHeld => ?_)
        clear hK K
        try simp only [Act.put]
        try simp only [List.getElem_toArray]
        try simp only [List.getElem_cons_succ]
        try simp only [List.getElem_cons_zero]
        try simp only [List.setIfInBounds_toArray]
        try simp only [List.set_cons_succ]
        try simp only [List.set_cons_zero]
        refine wpAnyH_ready (rs := [17]) (by kernel_rfl) (by simp) ?_
        refine AllReadyH.cons rfl (fun K hK => ?_) AllReadyH.nil
        go_simp
        refine (pick_any a3 40 _ r3.1 r3.2 (by omega) (by omega)).mono ?_
        rintro e w3' ⟨rfl, hw⟩
        rw [hw, Hp3.out]
        clear hw
        go_simp
        refine hK.out _ _ hHeld (fun hHeld => ?_)
        clear hK K
        try simp only [Act.put]
        try simp only [List.getElem_toArray]
        try simp only [List.getElem_cons_succ]
        try simp only [List.getElem_cons_zero]
        try simp only [List.setIfInBounds_toArray]
        try simp only [List.set_cons_succ]
        try simp only [List.set_cons_zero]
        refine wpAnyH_ready (rs := [21]) (by kernel_rfl) (by simp) ?_
        refine AllReadyH.cons rfl (fun K hK => ?_) AllReadyH.nil
        go_simp
        refine (pick_any a4 400 _ r4.1 r4.2 (by omega) (by omega)).mono ?_
        rintro e w4' ⟨rfl, hw⟩
        rw [hw, Hp4.out]
        clear hw
        go_simp
        refine hK.out _ _ hHeld (fun hHeld => ?_)
        clear hK K
        try simp only [Act.put]
        try simp only [List.getElem_toArray]
        try simp only [List.getElem_cons_succ]
        try simp only [List.getElem_cons_zero]
        try simp only [List.setIfInBounds_toArray]
        try simp only [List.set_cons_succ]
        try simp only [List.set_cons_zero]
        refine wpAnyH_ready (rs := [25]) (by kernel_rfl) (by simp) ?_
        refine AllReadyH.cons rfl (fun K hK => ?_) AllReadyH.nil
        go_simp
        refine (pick_any a5 30 _ r5.1 r5.2 (by omega) (by omega)).mono ?_
        rintro e w5' ⟨rfl, hw⟩
        rw [hw, Hp5.out]
        clear hw
        go_simp
        refine hK.out _ _ hHeld (fun hHeld => ?_)
        clear hK K
        try simp only [Act.put]
        try simp only [List.getElem_toArray]
        try simp only [List.getElem_cons_succ]
        try simp only [List.getElem_cons_zero]
        try simp only [List.setIfInBounds_toArray]
        try simp only [List.set_cons_succ]
        try simp only [List.set_cons_zero]
        refine wpAnyH_take (i := 26) (v := ?vt24) rfl (by kernel_rfl) (by kernel_rfl) (by kernel_rfl) (fun _ _ _ h => h) (Or.inl ⟨by rfl, ?yt24⟩) hHeld ?rt24
        case yt24 => ((intro W hSw; obtain ⟨hS0, hS1, hS2, hS3, hS4, hS5, hS6⟩ := hSw; go_simp) <;> with_reducible rfl)
        try simp only [Act.put]
        try simp only [List.getElem_toArray]
        try simp only [List.getElem_cons_succ]
        try simp only [List.getElem_cons_zero]
        try simp only [List.setIfInBounds_toArray]
        try simp only [List.set_cons_succ]
        try simp only [List.set_cons_zero]
        refine wpAnyH_ready (rs := [30]) (by kernel_rfl) (by simp) ?_
        refine AllReadyH.cons rfl (fun K hK => ?_) AllReadyH.nil
        go_simp
        refine (pick_any a6 5 _ r6.1 r6.2 (by omega) (by omega)).mono ?_
        rintro e w6' ⟨rfl, hw⟩
        rw [hw, Hp6.out]
        clear hw
        go_simp
        refine hK.out _ _ hHeld (fun hHeld => ?_)
        clear hK K
        try simp only [Act.put]
        try simp only [List.getElem_toArray]
        try simp only [List.getElem_cons_succ]
        try simp only [List.getElem_cons_zero]
        try simp only [List.setIfInBounds_toArray]
        try simp only [List.set_cons_succ]
        try simp only [List.set_cons_zero]
        refine wpAnyH_take (i := 31) (v := ?vt25) rfl (by kernel_rfl) (by kernel_rfl) (by kernel_rfl) (fun _ _ _ h => h) (Or.inl ⟨by rfl, ?yt25⟩) hHeld ?rt25
        case yt25 => ((intro W hSw; obtain ⟨hS0, hS1, hS2, hS3, hS4, hS5, hS6⟩ := hSw; go_simp) <;> with_reducible rfl)
        try simp only [Act.put]
        try simp only [List.getElem_toArray]
        try simp only [List.getElem_cons_succ]
        try simp only [List.getElem_cons_zero]
        try simp only [List.setIfInBounds_toArray]
        try simp only [List.set_cons_succ]
        try simp only [List.set_cons_zero]
        refine wpAnyH_ready (rs := [32]) (by kernel_rfl) (by simp) ?_
        refine AllReadyH.cons rfl (fun K hK => ?_) AllReadyH.nil
        go_simp
        rw [HE9.out]
        refine hK.out _ _ HC9.out (fun hHeld => ?_)
        clear hK K
        refine wpAnyH_done (by kernel_rfl) ?_ _
        refine NoPanic.normal ?_
        clear hHeld HE9 HS z0 z1 z2 z3 z4 z5 z6 zf
        have g0 := Hc9.out 0 _ rfl
        have g1 := Hc9.out 1 _ rfl
        have g2 := Hc9.out 2 _ rfl
        have g3 := Hc9.out 3 _ rfl
        have g4 := Hc9.out 4 _ rfl
        have g5 := Hc9.out 5 _ rfl
        have g6 := Hc9.out 6 _ rfl
        generalize W9.drew = W8 at *
        go_wp2
        refine bodyPost_ret (v := .agg #[.int .i64 (1 + p0), .int .i64 (1 + p1), .int .i64 p2, .int .i64 p3, .int .i64 p4, .int .i64 (1 + p5), .int .i64 p6]) (by simp [results, Try.results29, go_sem, g0, g1, g2, g3, g4, g5, g6]) rfl ⟨?_, Hb9.out⟩
        rw [HCf.out]
      · clear hgo
        go_wp2
        refine wp_region_noPanic ?_
        refine wp_region_held_drew (S := CfS (w.heap.size + 1) a0 a1 a2 a3 a4 a5 a6) (by kernel_rfl) HS.out (fun hHeld => ?_)
        refine wpAnyH_take (i := 0) (v := ?vt26) rfl (by kernel_rfl) (by kernel_rfl) (by kernel_rfl) (fun _ _ _ h => h) (Or.inl ⟨by rfl, ?yt26⟩) hHeld ?rt26
        case yt26 => ((intro W hSw; obtain ⟨hS0, hS1, hS2, hS3, hS4, hS5, hS6⟩ := hSw; go_simp) <;> with_reducible rfl)
        try simp only [Act.put]
        try simp only [List.getElem_toArray]
        try simp only [List.getElem_cons_succ]
        try simp only [List.getElem_cons_zero]
        try simp only [List.setIfInBounds_toArray]
        try simp only [List.set_cons_succ]
        try simp only [List.set_cons_zero]
        refine wpAnyH_take (i := 1) (v := ?vt27) rfl (by kernel_rfl) (by kernel_rfl) (by kernel_rfl) (fun _ _ _ h => h) (Or.inl ⟨by rfl, ?yt27⟩) hHeld ?rt27
        case yt27 => ((intro W hSw; obtain ⟨hS0, hS1, hS2, hS3, hS4, hS5, hS6⟩ := hSw; go_simp) <;> with_reducible rfl)
        try simp only [Act.put]
        try simp only [List.getElem_toArray]
        try simp only [List.getElem_cons_succ]
        try simp only [List.getElem_cons_zero]
        try simp only [List.setIfInBounds_toArray]
        try simp only [List.set_cons_succ]
        try simp only [List.set_cons_zero]
        refine wpAnyH_take (i := 2) (v := ?vt28) rfl (by kernel_rfl) (by kernel_rfl) (by kernel_rfl) (fun _ _ _ h => h) (Or.inl ⟨by rfl, ?yt28⟩) hHeld ?rt28
        case yt28 => ((intro W hSw; obtain ⟨hS0, hS1, hS2, hS3, hS4, hS5, hS6⟩ := hSw; go_simp) <;> with_reducible rfl)
        try simp only [Act.put]
        try simp only [List.getElem_toArray]
        try simp only [List.getElem_cons_succ]
        try simp only [List.getElem_cons_zero]
        try simp only [List.setIfInBounds_toArray]
        try simp only [List.set_cons_succ]
        try simp only [List.set_cons_zero]
        refine wpAnyH_take (i := 5) (v := ?vt29) rfl (by kernel_rfl) (by kernel_rfl) (by kernel_rfl) (fun _ _ _ h => h) (Or.inl ⟨by rfl, ?yt29⟩) hHeld ?rt29
        case yt29 => ((intro W hSw; obtain ⟨hS0, hS1, hS2, hS3, hS4, hS5, hS6⟩ := hSw; go_simp) <;> with_reducible rfl)
        try simp only [Act.put]
        try simp only [List.getElem_toArray]
        try simp only [List.getElem_cons_succ]
        try simp only [List.getElem_cons_zero]
        try simp only [List.setIfInBounds_toArray]
        try simp only [List.set_cons_succ]
        try simp only [List.set_cons_zero]
        refine wpAnyH_take (i := 6) (v := ?vt30) rfl (by kernel_rfl) (by kernel_rfl) (by kernel_rfl) (fun _ _ _ h => h) (Or.inl ⟨by rfl, ?yt30⟩) hHeld ?rt30
        case yt30 => ((intro W hSw; obtain ⟨hS0, hS1, hS2, hS3, hS4, hS5, hS6⟩ := hSw; go_simp) <;> with_reducible rfl)
        try simp only [Act.put]
        try simp only [List.getElem_toArray]
        try simp only [List.getElem_cons_succ]
        try simp only [List.getElem_cons_zero]
        try simp only [List.setIfInBounds_toArray]
        try simp only [List.set_cons_succ]
        try simp only [List.set_cons_zero]
        refine wpAnyH_take (i := 7) (v := ?vt31) rfl (by kernel_rfl) (by kernel_rfl) (by kernel_rfl) (fun _ _ _ h => h) (Or.inl ⟨by rfl, ?yt31⟩) hHeld ?rt31
        case yt31 => ((intro W hSw; obtain ⟨hS0, hS1, hS2, hS3, hS4, hS5, hS6⟩ := hSw; go_simp) <;> with_reducible rfl)
        try simp only [Act.put]
        try simp only [List.getElem_toArray]
        try simp only [List.getElem_cons_succ]
        try simp only [List.getElem_cons_zero]
        try simp only [List.setIfInBounds_toArray]
        try simp only [List.set_cons_succ]
        try simp only [List.set_cons_zero]
        refine wpAnyH_take (i := 10) (v := ?vt32) rfl (by kernel_rfl) (by kernel_rfl) (by kernel_rfl) (fun _ _ _ h => h) (Or.inl ⟨by rfl, ?yt32⟩) hHeld ?rt32
        case yt32 => ((intro W hSw; obtain ⟨hS0, hS1, hS2, hS3, hS4, hS5, hS6⟩ := hSw; go_simp) <;> with_reducible rfl)
        try simp only [Act.put]
        try simp only [List.getElem_toArray]
        try simp only [List.getElem_cons_succ]
        try simp only [List.getElem_cons_zero]
        try simp only [List.setIfInBounds_toArray]
        try simp only [List.set_cons_succ]
        try simp only [List.set_cons_zero]
        refine wpAnyH_take (i := 11) (v := ?vt33) rfl (by kernel_rfl) (by kernel_rfl) (by kernel_rfl) (fun _ _ _ h => h) (Or.inl ⟨by rfl, ?yt33⟩) hHeld ?rt33
        case yt33 => ((intro W hSw; obtain ⟨hS0, hS1, hS2, hS3, hS4, hS5, hS6⟩ := hSw; go_simp) <;> with_reducible rfl)
        try simp only [Act.put]
        try simp only [List.getElem_toArray]
        try simp only [List.getElem_cons_succ]
        try simp only [List.getElem_cons_zero]
        try simp only [List.setIfInBounds_toArray]
        try simp only [List.set_cons_succ]
        try simp only [List.set_cons_zero]
        refine wpAnyH_take (i := 12) (v := ?vt34) rfl (by kernel_rfl) (by kernel_rfl) (by kernel_rfl) (fun _ _ _ h => h) (Or.inl ⟨by rfl, ?yt34⟩) hHeld ?rt34
        case yt34 => ((intro W hSw; obtain ⟨hS0, hS1, hS2, hS3, hS4, hS5, hS6⟩ := hSw; go_simp) <;> with_reducible rfl)
        try simp only [Act.put]
        try simp only [List.getElem_toArray]
        try simp only [List.getElem_cons_succ]
        try simp only [List.getElem_cons_zero]
        try simp only [List.setIfInBounds_toArray]
        try simp only [List.set_cons_succ]
        try simp only [List.set_cons_zero]
        refine wpAnyH_take (i := 14) (v := ?vt35) rfl (by kernel_rfl) (by kernel_rfl) (by kernel_rfl) (fun _ _ _ h => h) (Or.inl ⟨by rfl, ?yt35⟩) hHeld ?rt35
        case yt35 => ((intro W hSw; obtain ⟨hS0, hS1, hS2, hS3, hS4, hS5, hS6⟩ := hSw; go_simp) <;> with_reducible rfl)
        try simp only [Act.put]
        try simp only [List.getElem_toArray]
        try simp only [List.getElem_cons_succ]
        try simp only [List.getElem_cons_zero]
        try simp only [List.setIfInBounds_toArray]
        try simp only [List.set_cons_succ]
        try simp only [List.set_cons_zero]
        refine wpAnyH_take (i := 15) (v := ?vt36) rfl (by kernel_rfl) (by kernel_rfl) (by kernel_rfl) (fun _ _ _ h => h) (Or.inl ⟨by rfl, ?yt36⟩) hHeld ?rt36
        case yt36 => ((intro W hSw; obtain ⟨hS0, hS1, hS2, hS3, hS4, hS5, hS6⟩ := hSw; go_simp) <;> with_reducible rfl)
        try simp only [Act.put]
        try simp only [List.getElem_toArray]
        try simp only [List.getElem_cons_succ]
        try simp only [List.getElem_cons_zero]
        try simp only [List.setIfInBounds_toArray]
        try simp only [List.set_cons_succ]
        try simp only [List.set_cons_zero]
        refine wpAnyH_take (i := 16) (v := ?vt37) rfl (by kernel_rfl) (by kernel_rfl) (by kernel_rfl) (fun _ _ _ h => h) (Or.inl ⟨by rfl, ?yt37⟩) hHeld ?rt37
        case yt37 => ((intro W hSw; obtain ⟨hS0, hS1, hS2, hS3, hS4, hS5, hS6⟩ := hSw; go_simp) <;> with_reducible rfl)
        try simp only [Act.put]
        try simp only [List.getElem_toArray]
        try simp only [List.getElem_cons_succ]
        try simp only [List.getElem_cons_zero]
        try simp only [List.setIfInBounds_toArray]
        try simp only [List.set_cons_succ]
        try simp only [List.set_cons_zero]
        refine wpAnyH_take (i := 18) (v := ?vt38) rfl (by kernel_rfl) (by kernel_rfl) (by kernel_rfl) (fun _ _ _ h => h) (Or.inl ⟨by rfl, ?yt38⟩) hHeld ?rt38
        case yt38 => ((intro W hSw; obtain ⟨hS0, hS1, hS2, hS3, hS4, hS5, hS6⟩ := hSw; go_simp) <;> with_reducible rfl)
        try simp only [Act.put]
        try simp only [List.getElem_toArray]
        try simp only [List.getElem_cons_succ]
        try simp only [List.getElem_cons_zero]
        try simp only [List.setIfInBounds_toArray]
        try simp only [List.set_cons_succ]
        try simp only [List.set_cons_zero]
        refine wpAnyH_take (i := 19) (v := ?vt39) rfl (by kernel_rfl) (by kernel_rfl) (by kernel_rfl) (fun _ _ _ h => h) (Or.inl ⟨by rfl, ?yt39⟩) hHeld ?rt39
        case yt39 => ((intro W hSw; obtain ⟨hS0, hS1, hS2, hS3, hS4, hS5, hS6⟩ := hSw; go_simp) <;> with_reducible rfl)
        try simp only [Act.put]
        try simp only [List.getElem_toArray]
        try simp only [List.getElem_cons_succ]
        try simp only [List.getElem_cons_zero]
        try simp only [List.setIfInBounds_toArray]
        try simp only [List.set_cons_succ]
        try simp only [List.set_cons_zero]
        refine wpAnyH_take (i := 20) (v := ?vt40) rfl (by kernel_rfl) (by kernel_rfl) (by kernel_rfl) (fun _ _ _ h => h) (Or.inl ⟨by rfl, ?yt40⟩) hHeld ?rt40
        case yt40 => ((intro W hSw; obtain ⟨hS0, hS1, hS2, hS3, hS4, hS5, hS6⟩ := hSw; go_simp) <;> with_reducible rfl)
        try simp only [Act.put]
        try simp only [List.getElem_toArray]
        try simp only [List.getElem_cons_succ]
        try simp only [List.getElem_cons_zero]
        try simp only [List.setIfInBounds_toArray]
        try simp only [List.set_cons_succ]
        try simp only [List.set_cons_zero]
        refine wpAnyH_take (i := 22) (v := ?vt41) rfl (by kernel_rfl) (by kernel_rfl) (by kernel_rfl) (fun _ _ _ h => h) (Or.inl ⟨by rfl, ?yt41⟩) hHeld ?rt41
        case yt41 => ((intro W hSw; obtain ⟨hS0, hS1, hS2, hS3, hS4, hS5, hS6⟩ := hSw; go_simp) <;> with_reducible rfl)
        try simp only [Act.put]
        try simp only [List.getElem_toArray]
        try simp only [List.getElem_cons_succ]
        try simp only [List.getElem_cons_zero]
        try simp only [List.setIfInBounds_toArray]
        try simp only [List.set_cons_succ]
        try simp only [List.set_cons_zero]
        refine wpAnyH_take (i := 23) (v := ?vt42) rfl (by kernel_rfl) (by kernel_rfl) (by kernel_rfl) (fun _ _ _ h => h) (Or.inl ⟨by rfl, ?yt42⟩) hHeld ?rt42
        case yt42 => ((intro W hSw; obtain ⟨hS0, hS1, hS2, hS3, hS4, hS5, hS6⟩ := hSw; go_simp) <;> with_reducible rfl)
        try simp only [Act.put]
        try simp only [List.getElem_toArray]
        try simp only [List.getElem_cons_succ]
        try simp only [List.getElem_cons_zero]
        try simp only [List.setIfInBounds_toArray]
        try simp only [List.set_cons_succ]
        try simp only [List.set_cons_zero]
        refine wpAnyH_take (i := 24) (v := ?vt43) rfl (by kernel_rfl) (by kernel_rfl) (by kernel_rfl) (fun _ _ _ h => h) (Or.inl ⟨by rfl, ?yt43⟩) hHeld ?rt43
        case yt43 => ((intro W hSw; obtain ⟨hS0, hS1, hS2, hS3, hS4, hS5, hS6⟩ := hSw; go_simp) <;> with_reducible rfl)
        try simp only [Act.put]
        try simp only [List.getElem_toArray]
        try simp only [List.getElem_cons_succ]
        try simp only [List.getElem_cons_zero]
        try simp only [List.setIfInBounds_toArray]
        try simp only [List.set_cons_succ]
        try simp only [List.set_cons_zero]
        refine wpAnyH_take (i := 27) (v := ?vt44) rfl (by kernel_rfl) (by kernel_rfl) (by kernel_rfl) (fun _ _ _ h => h) (Or.inl ⟨by rfl, ?yt44⟩) hHeld ?rt44
        case yt44 => ((intro W hSw; obtain ⟨hS0, hS1, hS2, hS3, hS4, hS5, hS6⟩ := hSw; go_simp) <;> with_reducible rfl)
        try simp only [Act.put]
        try simp only [List.getElem_toArray]
        try simp only [List.getElem_cons_succ]
        try simp only [List.getElem_cons_zero]
        try simp only [List.setIfInBounds_toArray]
        try simp only [List.set_cons_succ]
        try simp only [List.set_cons_zero]
        refine wpAnyH_take (i := 28) (v := ?vt45) rfl (by kernel_rfl) (by kernel_rfl) (by kernel_rfl) (fun _ _ _ h => h) (Or.inl ⟨by rfl, ?yt45⟩) hHeld ?rt45
        case yt45 => ((intro W hSw; obtain ⟨hS0, hS1, hS2, hS3, hS4, hS5, hS6⟩ := hSw; go_simp) <;> with_reducible rfl)
        try simp only [Act.put]
        try simp only [List.getElem_toArray]
        try simp only [List.getElem_cons_succ]
        try simp only [List.getElem_cons_zero]
        try simp only [List.setIfInBounds_toArray]
        try simp only [List.set_cons_succ]
        try simp only [List.set_cons_zero]
        refine wpAnyH_take (i := 29) (v := ?vt46) rfl (by kernel_rfl) (by kernel_rfl) (by kernel_rfl) (fun _ _ _ h => h) (Or.inl ⟨by rfl, ?yt46⟩) hHeld ?rt46
        case yt46 => ((intro W hSw; obtain ⟨hS0, hS1, hS2, hS3, hS4, hS5, hS6⟩ := hSw; go_simp) <;> with_reducible rfl)
        try simp only [Act.put]
        try simp only [List.getElem_toArray]
        try simp only [List.getElem_cons_succ]
        try simp only [List.getElem_cons_zero]
        try simp only [List.setIfInBounds_toArray]
        try simp only [List.set_cons_succ]
        try simp only [List.set_cons_zero]
        refine wpAnyH_ready (rs := [3]) (by kernel_rfl) (by simp) ?_
        refine AllReadyH.cons rfl (fun K hK => ?_) AllReadyH.nil
        go_simp
        refine (pick_any a0 64 _ r0.1 r0.2 (by omega) (by omega)).mono ?_
        rintro e w0' ⟨rfl, hw⟩
        rw [hw, Hp0.out]
        clear hw
        go_simp
        refine hK.out _ _ hHeld (fun hHeld => ?_)
        clear hK K
        try simp only [Act.put]
        try simp only [List.getElem_toArray]
        try simp only [List.getElem_cons_succ]
        try simp only [List.getElem_cons_zero]
        try simp only [List.setIfInBounds_toArray]
        try simp only [List.set_cons_succ]
        try simp only [List.set_cons_zero]
        refine wpAnyH_take (i := 4) (v := ?vt47) rfl (by kernel_rfl) (by kernel_rfl) (by kernel_rfl) (fun _ _ _ h => h) (Or.inl ⟨by rfl, ?yt47⟩) hHeld ?rt47
        case yt47 => ((intro W hSw; obtain ⟨hS0, hS1, hS2, hS3, hS4, hS5, hS6⟩ := hSw; go_simp) <;> with_reducible rfl)
        try simp only [Act.put]
        try simp only [List.getElem_toArray]
        try simp only [List.getElem_cons_succ]
        try simp only [List.getElem_cons_zero]
        try simp only [List.setIfInBounds_toArray]
        try simp only [List.set_cons_succ]
        try simp only [List.set_cons_zero]
        refine wpAnyH_ready (rs := [8]) (by kernel_rfl) (by simp) ?_
        refine AllReadyH.cons rfl (fun K hK => ?_) AllReadyH.nil
        go_simp
        refine (pick_any a1 200 _ r1.1 r1.2 (by omega) (by omega)).mono ?_
        rintro e w1' ⟨rfl, hw⟩
        rw [hw, Hp1.out]
        clear hw
        go_simp
        refine hK.out _ _ hHeld (fun hHeld => ?_)
        clear hK K
        try simp only [Act.put]
        try simp only [List.getElem_toArray]
        try simp only [List.getElem_cons_succ]
        try simp only [List.getElem_cons_zero]
        try simp only [List.setIfInBounds_toArray]
        try simp only [List.set_cons_succ]
        try simp only [List.set_cons_zero]
        refine wpAnyH_take (i := 9) (v := ?vt48) rfl (by kernel_rfl) (by kernel_rfl) (by kernel_rfl) (fun _ _ _ h => h) (Or.inl ⟨by rfl, ?yt48⟩) hHeld ?rt48
        case yt48 => ((intro W hSw; obtain ⟨hS0, hS1, hS2, hS3, hS4, hS5, hS6⟩ := hSw; go_simp) <;> with_reducible rfl)
        try simp only [Act.put]
        try simp only [List.getElem_toArray]
        try simp only [List.getElem_cons_succ]
        try simp only [List.getElem_cons_zero]
        try simp only [List.setIfInBounds_toArray]
        try simp only [List.set_cons_succ]
        try simp only [List.set_cons_zero]
        refine wpAnyH_ready (rs := [13]) (by kernel_rfl) (by simp) ?_
        refine AllReadyH.cons rfl (fun K hK => ?_) AllReadyH.nil
        go_simp
        refine (pick_any a2 30 _ r2.1 r2.2 (by omega) (by omega)).mono ?_
        rintro e w2' ⟨rfl, hw⟩
        rw [hw, Hp2.out]
        clear hw
        go_simp
        refine hK.out _ _ hHeld (fun hHeld => ?_)
        clear hK K
        try simp only [Act.put]
        try simp only [List.getElem_toArray]
        try simp only [List.getElem_cons_succ]
        try simp only [List.getElem_cons_zero]
        try simp only [List.setIfInBounds_toArray]
        try simp only [List.set_cons_succ]
        try simp only [List.set_cons_zero]
        refine wpAnyH_ready (rs := [17]) (by kernel_rfl) (by simp) ?_
        refine AllReadyH.cons rfl (fun K hK => ?_) AllReadyH.nil
        go_simp
        refine (pick_any a3 40 _ r3.1 r3.2 (by omega) (by omega)).mono ?_
        rintro e w3' ⟨rfl, hw⟩
        rw [hw, Hp3.out]
        clear hw
        go_simp
        refine hK.out _ _ hHeld (fun hHeld => ?_)
        clear hK K
        try simp only [Act.put]
        try simp only [List.getElem_toArray]
        try simp only [List.getElem_cons_succ]
        try simp only [List.getElem_cons_zero]
        try simp only [List.setIfInBounds_toArray]
        try simp only [List.set_cons_succ]
        try simp only [List.set_cons_zero]
        refine wpAnyH_ready (rs := [21]) (by kernel_rfl) (by simp) ?_
        refine AllReadyH.cons rfl (fun K hK => ?_) AllReadyH.nil
        go_simp
        refine (pick_any a4 400 _ r4.1 r4.2 (by omega) (by omega)).mono ?_
        rintro e w4' ⟨rfl, hw⟩
        rw [hw, Hp4.out]
        clear hw
        go_simp
        refine hK.out _ _ hHeld (fun hHeld => ?_)
        clear hK K
        try simp only [Act.put]
        try simp only [List.getElem_toArray]
        try simp only [List.getElem_cons_succ]
        try simp only [List.getElem_cons_zero]
        try simp only [List.setIfInBounds_toArray]
        try simp only [List.set_cons_succ]
        try simp only [List.set_cons_zero]
        refine wpAnyH_ready (rs := [25]) (by kernel_rfl) (by simp) ?_
        refine AllReadyH.cons rfl (fun K hK => ?_) AllReadyH.nil
        go_simp
        refine (pick_any a5 30 _ r5.1 r5.2 (by omega) (by omega)).mono ?_
        rintro e w5' ⟨rfl, hw⟩
        rw [hw, Hp5.out]
        clear hw
        go_simp
        refine hK.out _ _ hHeld (fun hHeld => ?_)
        clear hK K
        try simp only [Act.put]
        try simp only [List.getElem_toArray]
        try simp only [List.getElem_cons_succ]
        try simp only [List.getElem_cons_zero]
        try simp only [List.setIfInBounds_toArray]
        try simp only [List.set_cons_succ]
        try simp only [List.set_cons_zero]
        refine wpAnyH_take (i := 26) (v := ?vt49) rfl (by kernel_rfl) (by kernel_rfl) (by kernel_rfl) (fun _ _ _ h => h) (Or.inl ⟨by rfl, ?yt49⟩) hHeld ?rt49
        case yt49 => ((intro W hSw; obtain ⟨hS0, hS1, hS2, hS3, hS4, hS5, hS6⟩ := hSw; go_simp) <;> with_reducible rfl)
        try simp only [Act.put]
        try simp only [List.getElem_toArray]
        try simp only [List.getElem_cons_succ]
        try simp only [List.getElem_cons_zero]
        try simp only [List.setIfInBounds_toArray]
        try simp only [List.set_cons_succ]
        try simp only [List.set_cons_zero]
        refine wpAnyH_ready (rs := [30]) (by kernel_rfl) (by simp) ?_
        refine AllReadyH.cons rfl (fun K hK => ?_) AllReadyH.nil
        go_simp
        refine (pick_any a6 5 _ r6.1 r6.2 (by omega) (by omega)).mono ?_
        rintro e w6' ⟨rfl, hw⟩
        rw [hw, Hp6.out]
        clear hw
        go_simp
        refine hK.out _ _ hHeld (fun hHeld => ?_)
        clear hK K
        try simp only [Act.put]
        try simp only [List.getElem_toArray]
        try simp only [List.getElem_cons_succ]
        try simp only [List.getElem_cons_zero]
        try simp only [List.setIfInBounds_toArray]
        try simp only [List.set_cons_succ]
        try simp only [List.set_cons_zero]
        refine wpAnyH_take (i := 31) (v := ?vt50) rfl (by kernel_rfl) (by kernel_rfl) (by kernel_rfl) (fun _ _ _ h => h) (Or.inl ⟨by rfl, ?yt50⟩) hHeld ?rt50
        case yt50 => ((intro W hSw; obtain ⟨hS0, hS1, hS2, hS3, hS4, hS5, hS6⟩ := hSw; go_simp) <;> with_reducible rfl)
        try simp only [Act.put]
        try simp only [List.getElem_toArray]
        try simp only [List.getElem_cons_succ]
        try simp only [List.getElem_cons_zero]
        try simp only [List.setIfInBounds_toArray]
        try simp only [List.set_cons_succ]
        try simp only [List.set_cons_zero]
        refine wpAnyH_ready (rs := [32]) (by kernel_rfl) (by simp) ?_
        refine AllReadyH.cons rfl (fun K hK => ?_) AllReadyH.nil
        go_simp
        rw [HE9.out]
        refine hK.out _ _ HC9.out (fun hHeld => ?_)
        clear hK K
        refine wpAnyH_done (by kernel_rfl) ?_ _
        refine NoPanic.normal ?_
        clear hHeld HE9 HS z0 z1 z2 z3 z4 z5 z6 zf
        have g0 := Hc9.out 0 _ rfl
        have g1 := Hc9.out 1 _ rfl
        have g2 := Hc9.out 2 _ rfl
        have g3 := Hc9.out 3 _ rfl
        have g4 := Hc9.out 4 _ rfl
        have g5 := Hc9.out 5 _ rfl
        have g6 := Hc9.out 6 _ rfl
        generalize W9.drew = W8 at *
        go_wp2
        refine bodyPost_ret (v := .agg #[.int .i64 (1 + p0), .int .i64 (1 + p1), .int .i64 p2, .int .i64 p3, .int .i64 p4, .int .i64 (1 + p5), .int .i64 p6]) (by simp [results, Try.results29, go_sem, g0, g1, g2, g3, g4, g5, g6]) rfl ⟨?_, Hb9.out⟩
        rw [HCf.out]

end Go.Proofs.Ytdjhhnolcafkiaa

/- menderkeep.known returns true. -/
namespace Go.Proofs.Ytdjhhnolcafkiaa
open Go.RowKit Pk

/-- the mender that is begun, ahead of all packets -/
theorem bM_ok (c : Cfg) (h : cfgOk c = true) : MOk (bM c) := by
  have hh := of_decide_eq_true h
  refine ⟨h, by simp [bM], ?_, ?_, by simp [bM], ?_, ?_⟩
  · simp only [bM]; omega
  · intro x hx
    simp only [bM, List.mem_cons, List.not_mem_nil, or_false] at hx
    omega
  · intro s hs
    simp only [bM, List.mem_singleton] at hs
    subst hs
    exact ⟨fun x hx => by simp at hx, by simp, by simp⟩
  · intro x hx
    simp only [bM, List.mem_singleton] at hx
    subst hx
    exact ⟨by simp [newW, plan0], by simp [newW, plan0], by simp [newW], by simp [newW]⟩
/-- the first packet -/
theorem bM_packet (c : Cfg) (n : Nat) (py : ByteArray) (cv : Value) : (packetM (bM c) (dataT n py) cv).2 = ([textOf (newW 1 3 plan0 65534) (dataP n py)], 0) := by
  unfold bM
  rw [packetM_one _ _ _ _ _ n py cv rfl rfl]
  unfold packet1
  rw [show takeF ⟨3, false, [], 0⟩ (n % 65536) 0 c.window.toNat = (⟨3, true, [], n % 65536⟩, 0, 0) from rfl]
  rw [if_neg (by simp), if_neg (by simp)]

set_option maxRecDepth 20000 in
set_option maxHeartbeats 2000000 in
theorem known_any (w : World) : Calls Try.prog 26 #[] w fun e w' => e = .returned (.bool true) ∧ Below w.heap.size w w' := by
  go_enter Try.func26, Try.ntmps26
  go_wp2_with fail
  refine (config_any (.slice none 0 0) [] w ⟨none, 0, rfl, fun j hj => absurd hj (by simp)⟩ (fun c hc => by simp at hc) (by simp [maxLen])).mono ?_
  rintro e w1 ⟨rfl, hb1⟩
  have HB1 : Hid (Below w.heap.size w w1) := hb1
  have hs1 := hb1.size
  have Hc : Hid (cfgOk (cfgF []) = true) := cfgF_ok []
  clear hb1
  generalize cfgF [] = c at *
  go_wp2_with fail
  refine (begun_any c _ Hc.out).mono ?_
  rintro e w2 ⟨mb, rfl, hb2, ρ, sv, wv, SB, WB, hM, hρ⟩
  have HB2 : Hid (Below w.heap.size w w2) := HB1.out.trans (hb2.mono hs1)
  have HM : Hid (MdAt w2 ρ mb (bM c) sv wv SB WB) := hM
  have HP : Hid (∀ b, b < w1.heap.size → ρ b = 0) := hρ
  clear hb2 hM hρ
  go_wp2_with fail
  refine (data_any 9 ⟨#[97, 98]⟩ _ (by omega) (by unfold maxLen; decide)).mono ?_
  rintro e w3 ⟨rfl, hb3⟩
  have HB3 : Hid (Below w.heap.size w w3) := HB2.out.trans (hb3.mono HB2.out.size)
  have HM3 : Hid (MdAt w3 ρ mb (bM c) sv wv SB WB) := HM.out.below hb3
  obtain ⟨hdr, hds⟩ := dataT_read 9 ⟨#[97, 98]⟩
  have Hp : Hid (∀ cv, (packetM (bM c) (dataT 9 ⟨#[97, 98]⟩) cv).2 = ([textOf (newW 1 3 plan0 65534) (dataP 9 ⟨#[97, 98]⟩)], 0)) := fun cv => bM_packet c 9 _ cv
  have Hok : Hid (MOk (bM c)) := bM_ok c Hc.out
  obtain ⟨htr, hts⟩ := textOf_read (newW 1 3 plan0 65534) 9 ⟨#[97, 98]⟩ (by decide) (by decide)
  have Htr : Hid (readP (textOf (newW 1 3 plan0 65534) (dataP 9 ⟨#[97, 98]⟩)) = some ⟨false, false, 100, 65530, 5, 7, 0, 0, [], ⟨#[]⟩, ⟨#[97, 98]⟩⟩) := htr
  generalize textOf (newW 1 3 plan0 65534) (dataP 9 ⟨#[97, 98]⟩) = tx at *
  clear hb3 HM hdr htr
  generalize dataT 9 ⟨#[97, 98]⟩ = dt at *
  go_wp2_with fail
  refine (packet_any ρ mb (bM c) sv wv SB WB dt _ HM3.out Hok.out (by unfold maxLen; omega)).mono ?_
  rintro e w4 ⟨cv, tv, rfl, ρ', sv', wv', SB', WB', hM', hMv, hrow, hrz⟩
  have hp := Hp.out cv
  generalize (packetM (bM c) dt cv).1 = M1 at *
  generalize (packetM (bM c) dt cv).2 = A2 at *
  subst hp
  obtain ⟨g, cap, rfl, hcell, hg⟩ := row_one hrow
  have hs3 := HB3.out.size
  have HB4 : Hid (Below w.heap.size w w4) := HB3.out.trans (hMv.2.below hs3 (fun x hx => by
    rcases Nat.lt_or_ge x w.heap.size with e | e
    · exact absurd (HP.out x (by omega)) hx
    · exact e))
  clear hM' hMv hrow hrz
  go_wp2_with fail
  refine (parsePacket_any tx _ (by unfold maxLen; omega)).mono ?_
  rintro e w5 ⟨hb5, hr5⟩
  rw [Htr.out] at hr5
  obtain ⟨v5, he5, hown5⟩ := hr5
  obtain ⟨a5, c5, hv5⟩ := hown5.shape
  subst hv5
  simp only [okV] at he5
  subst he5
  have HB5 : Hid (Below w.heap.size w w5) := HB4.out.trans (hb5.mono HB4.out.size)
  have hs5 := HB5.out.size
  clear hb5 hown5 hcell
  go_wp2
  go_ret
  exact ⟨ret_bool (by simp), HB5.out.alloc hs5 _⟩

end Go.Proofs.Ytdjhhnolcafkiaa

/- Wanted: the rows of the law and the mender beside them. -/
namespace Go.Proofs.Ytdjhhnolcafkiaa
open Go.RowKit
namespace Pk
structure StepR where
  what : Int
  n : Int
  py : ByteArray
def StOk (r : StepR) : Prop := (-9223372036854775808 ≤ r.what ∧ r.what ≤ 9223372036854775807) ∧ (-9223372036854775808 ≤ r.n ∧ r.n ≤ 9223372036854775807) ∧ r.py.size ≤ maxLen
def IsSteps (B : Nat) (w : World) (v : Value) (l : List StepR) : Prop :=
  ∃ ao cap, v = .slice ao l.length cap ∧ ∀ (j : Nat) (r : StepR), l[j]? = some r → ∃ b off, ao = some ⟨b, off, none⟩ ∧ b < B ∧ w.cell? ⟨b, off + j * 3, none⟩ = some (.int .i64 r.what) ∧ w.cell? ⟨b, off + j * 3 + 1, none⟩ = some (.int .i64 r.n) ∧ w.cell? ⟨b, off + j * 3 + 2, none⟩ = some (.string r.py)
/-- the rows of the law -/
structure WRows (cb tb lb xb : Nat) (c : Cfg) (came : Nat → Bool) (tr la : Nat → Int) (W : World) : Prop where
  rc : RowAt cb 50 (fun k => .bool (came k)) W
  rt : RowAt tb 50 (fun k => .int .i64 (tr k)) W
  rl : RowAt lb 50 (fun k => .int .i64 (la k)) W
  x5 : W.cell? ⟨xb, 5, none⟩ = some (.int .i64 c.retry)
  x6 : W.cell? ⟨xb, 6, none⟩ = some (.int .i64 c.tries)
theorem WRows.chg {T : Nat → Prop} {cb tb lb xb : Nat} {c : Cfg} {came : Nat → Bool} {tr la : Nat → Int} {W W' : World} (h : WRows cb tb lb xb c came tr la W) (hc : Chg T W W') (h1 : ¬ T cb) (h2 : ¬ T tb) (h3 : ¬ T lb) (h4 : ¬ T xb) : WRows cb tb lb xb c came tr la W' :=
  ⟨h.rc.chg hc h1, h.rt.chg hc h2, h.rl.chg hc h3, hc.cell h.x5 h4, hc.cell h.x6 h4⟩
/-- the mender and where it lies -/
structure WMen (w : World) (c : Cfg) (base mb cb tb lb xb i : Nat) (bg : Option (Nat × Nat × List Og)) (M : Md) (s : Stt) (sd : Sd) (x : Wn) (ρ : Nat → Nat) (W : World) : Prop where
  live : LiveM c base i bg M s sd x
  md : ∃ sv wv SB WB, MdAt W ρ mb M sv wv SB WB
  z : ∀ b, b < w.heap.size → ρ b = 0
  zc : ρ cb = 0
  zt : ρ tb = 0
  zl : ρ lb = 0
  zx : ρ xb = 0
  bel : Below w.heap.size w W
theorem WMen.below {w : World} {c : Cfg} {base mb cb tb lb xb i : Nat} {bg : Option (Nat × Nat × List Og)} {M : Md} {s : Stt} {sd : Sd} {x : Wn} {ρ : Nat → Nat} {W W' : World} (h : WMen w c base mb cb tb lb xb i bg M s sd x ρ W) (hb : Below W.heap.size W W') : WMen w c base mb cb tb lb xb i bg M s sd x ρ W' := by
  obtain ⟨sv, wv, SB, WB, hm⟩ := h.md
  exact ⟨h.live, ⟨sv, wv, SB, WB, hm.below hb⟩, h.z, h.zc, h.zt, h.zl, h.zx, h.bel.trans (hb.mono h.bel.size)⟩
/-- a store into a row of the law -/
theorem WMen.put {w : World} {c : Cfg} {base mb cb tb lb xb i : Nat} {bg : Option (Nat × Nat × List Og)} {M : Md} {s : Stt} {sd : Sd} {x : Wn} {ρ : Nat → Nat} {W : World} (h : WMen w c base mb cb tb lb xb i bg M s sd x ρ W) (b o : Nat) (v : Value) (hz : ρ b = 0) (hb : w.heap.size ≤ b) : WMen w c base mb cb tb lb xb i bg M s sd x ρ (W.setCell ⟨b, o, none⟩ v) := by
  obtain ⟨sv, wv, SB, WB, hm⟩ := h.md
  have hc : Chg (fun y => y = b) W (W.setCell ⟨b, o, none⟩ v) := (Chg.refl (fun y => y = b) _).setCell ⟨b, o, none⟩ (.inl rfl) _
  exact ⟨h.live, ⟨sv, wv, SB, WB, hm.chg hc (fun y e => by rw [e]; exact hz)⟩, h.z, h.zc, h.zt, h.zl, h.zx, h.bel.setCell (p := ⟨b, o, none⟩) hb _⟩
/-- a step has been done -/
theorem WMen.step {w : World} {c : Cfg} {base mb cb tb lb xb i : Nat} {bg bg' : Option (Nat × Nat × List Og)} {M M' : Md} {s s' : Stt} {sd sd' : Sd} {x x' : Wn} {ρ : Nat → Nat} {W W' : World} {tv : Value} {L : List ByteArray} (h : WMen w c base mb cb tb lb xb i bg M s sd x ρ W) (hc : cb < W.heap.size) (ht : tb < W.heap.size) (hl : lb < W.heap.size) (hx : xb < W.heap.size) (hL : LiveM c base (i + 1) bg' M' s' sd' x') (hm : MovedT W W' ρ mb M' tv L) :
    (∃ ρ', WMen w c base mb cb tb lb xb (i + 1) bg' M' s' sd' x' ρ' W') ∧ Chg (fun b => ρ b ≠ 0) W W' ∧ W'.ownsRow W.heap.size 9 1 tv L.length (L.map Value.string) := by
  obtain ⟨ρ', a, b, c', d, h1, h2, h3, h4⟩ := hm
  refine ⟨⟨ρ', hL, ⟨a, b, c', d, h1⟩, fun y hy => h2.1 y (Nat.lt_of_lt_of_le hy h.bel.size) (h.z y hy), h2.1 cb hc h.zc, h2.1 tb ht h.zt, h2.1 lb hl h.zl, h2.1 xb hx h.zx, h.bel.trans (h2.2.below h.bel.size (fun y hy => ?_))⟩, h2.2, h3⟩
  rcases Nat.lt_or_ge y w.heap.size with e | e
  · exact absurd (h.z y e) hy
  · exact e
def WantAt (w : World) (c : Cfg) (mb cb tb lb xb i : Nat) (time : Int) (wr : World) : Prop :=
  ∃ bg came tr la M s sd x ρ, WMen w c 200 mb cb tb lb xb i bg M s sd x ρ wr ∧ s.now = time ∧ WantSt i bg came tr la ∧ WRows cb tb lb xb c came tr la wr
theorem take_not {l : List Nat} (h : l.Nodup) {j : Nat} (hj : j < l.length) : l[j] ∉ l.take j := fun hm => by
  obtain ⟨q, hq, e⟩ := List.mem_iff_getElem.1 hm
  rw [List.length_take] at hq
  rw [List.getElem_take] at e
  exact List.pairwise_iff_getElem.1 h q j (by omega) hj (by omega) e
theorem WRows.mark {cb tb lb xb : Nat} {c : Cfg} {came : Nat → Bool} {tr la : Nat → Int} {W : World} {AK : List Nat} {j kk : Nat} {T : Int} (h : WRows cb tb lb xb c came (bump (AK.take j) tr) (stamp (AK.take j) T la) W) (hnd : AK.Nodup) (hj : j < AK.length) (hkk : AK[j] = kk) (h50 : kk < 50) (hd1 : cb ≠ tb) (hd2 : cb ≠ lb) (hd3 : tb ≠ lb) (hd5 : xb ≠ tb) (hd6 : xb ≠ lb) :
    W.cell? ⟨cb, kk, none⟩ = some (.bool (came kk)) ∧ W.cell? ⟨tb, kk, none⟩ = some (.int .i64 (tr kk)) ∧ W.cell? ⟨lb, kk, none⟩ = some (.int .i64 (la kk)) ∧
      WRows cb tb lb xb c came (bump (AK.take (j + 1)) tr) (stamp (AK.take (j + 1)) T la) ((W.setCell ⟨tb, kk, none⟩ (.int .i64 (tr kk + 1))).setCell ⟨lb, kk, none⟩ (.int .i64 T)) := by
  have hnot : kk ∉ AK.take j := hkk ▸ take_not hnd hj
  have htk : AK.take (j + 1) = AK.take j ++ [kk] := by rw [List.take_succ_eq_append_getElem hj, hkk]
  have hin1 : kk ∈ AK.take (j + 1) := by rw [htk]; simp
  have hout1 : ∀ q, q ≠ kk → (q ∈ AK.take (j + 1) ↔ q ∈ AK.take j) := fun q hq => by rw [htk]; simp [hq]
  refine ⟨h.rc.c kk h50, by have h' := h.rt.c kk h50; rw [bump_out hnot] at h'; exact h', by have h' := h.rl.c kk h50; rw [stamp_out hnot] at h'; exact h', ?_⟩
  have k1 : Chg (fun y => y = tb) W (W.setCell ⟨tb, kk, none⟩ (.int .i64 (tr kk + 1))) := (Chg.refl (fun y => y = tb) _).setCell ⟨tb, kk, none⟩ (.inl rfl) _
  have k2 : Chg (fun y => y = lb) (W.setCell ⟨tb, kk, none⟩ (.int .i64 (tr kk + 1))) ((W.setCell ⟨tb, kk, none⟩ (.int .i64 (tr kk + 1))).setCell ⟨lb, kk, none⟩ (.int .i64 T)) := (Chg.refl (fun y => y = lb) _).setCell ⟨lb, kk, none⟩ (.inl rfl) _
  refine ⟨(h.rc.chg k1 hd1).chg k2 hd2, ((h.rt.set (k := kk) (.int .i64 (tr kk + 1))).chg k2 hd3).eq (fun q hq => ?_), ((h.rl.chg k1 (fun e => hd3 e.symm)).set (k := kk) (.int .i64 T)).eq (fun q hq => ?_), k2.cell (k1.cell h.x5 hd5) hd6, k2.cell (k1.cell h.x6 hd5) hd6⟩
  · unfold updV
    by_cases e : q = kk
    · rw [if_pos e, e, bump_in hin1]
    · rw [if_neg e]
      show Value.int .i64 (bump (AK.take j) tr q) = Value.int .i64 (bump (AK.take (j + 1)) tr q)
      by_cases m : q ∈ AK.take j
      · rw [bump_in m, bump_in ((hout1 q e).2 m)]
      · rw [bump_out m, bump_out (fun m' => m ((hout1 q e).1 m'))]
  · unfold updV
    by_cases e : q = kk
    · rw [if_pos e, e, stamp_in hin1]
    · rw [if_neg e]
      show Value.int .i64 (stamp (AK.take j) T la q) = Value.int .i64 (stamp (AK.take (j + 1)) T la q)
      by_cases m : q ∈ AK.take j
      · rw [stamp_in m, stamp_in ((hout1 q e).2 m)]
      · rw [stamp_out m, stamp_out (fun m' => m ((hout1 q e).1 m'))]
theorem num_at {W : World} {B : Nat} {AK : List Nat} {j g5 cap : Nat} (h : OwnInts W B (.slice (some ⟨g5, 0, none⟩) (numK 200 AK).length cap) (numK 200 AK)) (hj : j < AK.length) (h50 : AK[j] < 50) : W.cell? ⟨g5, j, none⟩ = some (.int .i64 (200 + (AK[j] : Int))) := by
  have hnl : (numK 200 AK).length = AK.length := by unfold numK; rw [List.length_map]
  have h1 := h.cellAt j (by rw [hnl]; omega)
  have h2 : ((numK 200 AK).map (Value.int .i64))[j]? = some (.int .i64 (200 + (AK[j] : Int))) := by
    unfold numK
    rw [List.getElem?_map, List.getElem?_map, List.getElem?_eq_getElem hj]
    simp only [Option.map_some, Option.some.injEq, Value.int.injEq, true_and]
    omega
  rw [h2] at h1
  exact h1
end Pk
end Go.Proofs.Ytdjhhnolcafkiaa
