/- The document's mender in memory: plain facts. Each block has a role: 0 nobody's, 1 the mender, 2 and 3 its lists of senders and wants, 4 lists of contributors, from 10 on the senders' lists of gaps, from 1000 on the wants' lists of what went (by their ids). -/
import Derived.Test.YtdjhhnolcafkiaaGreatG05
import Derived.Test.YtdjhhnolcafkiaaGreatG02
import Derived.Deep.RegionHeld3
import Derived.Test.YtdjhhnolcafkiaaGreatG01
namespace Go.Proofs.YtdjhhnolcafkiaaGreat
open Go.RowKit
namespace Pk
structure Rg where
  n : Int
  last : Int
  tries : Int
structure Rs where
  src : Int
  newest : Int
  gv : Value
  gaps : List Rg
structure Re where
  x : PP
  cv : Value
  again : Int
structure Rw where
  id : Int
  of_ : Int
  pl : Plan
  av : Value
  all : List Re
  shift : Int
  second : Int
structure Rm where
  c : Cfg
  s : Stt
  sds : List Rs
  wns : List Rw
  ids : Int
def cRg (g : Rg) : List Value := [.int .i64 g.n, .int .i64 g.last, .int .i64 g.tries]
def cRs (s : Rs) : List Value := [.int .i64 s.src, .int .i64 s.newest, s.gv]
def cRe (e : Re) : List Value := cellsP e.x e.cv ++ [.int .i64 e.again]
def cRw (x : Rw) : List Value := [.int .i64 x.id, .int .i64 x.of_] ++ plV x.pl ++ [x.av, .int .i64 x.shift, .int .i64 x.second]
theorem cRg_len (g : Rg) : (cRg g).length = 3 := rfl
theorem cRs_len (s : Rs) : (cRs s).length = 3 := rfl
theorem cRw_len (x : Rw) : (cRw x).length = 11 := rfl
def rmV (R : Rm) (sv wv : Value) : List Value := cfgV R.c ++ sttV R.s ++ [sv, wv, .int .i64 R.ids]
/-- a row of a role -/
def RowR (W : World) (ρ : Nat → Nat) (q : Nat) (e : TypeId) (k : Nat) (v : Value) (n : Nat) (xs : List Value) : Prop := W.ownsRow 0 e k v n xs ∧ ∀ b, v.ownBlock = some b → ρ b = q
theorem RowR.keep {T : Nat → Prop} {W W' : World} {ρ ρ' : Nat → Nat} {q : Nat} {e : TypeId} {k : Nat} {v : Value} {n : Nat} {xs : List Value} (h : RowR W ρ q e k v n xs) (hc : Chg T W W') (h1 : ∀ b, T b → ρ b ≠ q) (h2 : ∀ b, b < W.heap.size → ρ b = q → ρ' b = q) : RowR W' ρ' q e k v n xs :=
  ⟨rowA_chg hc h.1 (fun b hb e => h1 b e (h.2 b hb)), fun b hb => h2 b (h.1.lt b hb).2 (h.2 b hb)⟩
structure RdAt (W : World) (ρ : Nat → Nat) (rb : Nat) (R : Rm) (sv wv : Value) : Prop where
  k : ∀ i u, (rmV R sv wv)[i]? = some u → W.cell? ⟨rb, i, none⟩ = some u
  fz : ∀ o, W.frozen? ⟨rb, o, none⟩ = false
  rm : ρ rb = 1
  sr : RowR W ρ 2 61 3 sv R.sds.length (R.sds.flatMap cRs)
  wr : RowR W ρ 3 99 11 wv R.wns.length (R.wns.flatMap cRw)
  ga : ∀ (i : Nat) (s : Rs), R.sds[i]? = some s → RowR W ρ (10 + i) 126 3 s.gv s.gaps.length (s.gaps.flatMap cRg)
  al : ∀ (i : Nat) (x : Rw), R.wns[i]? = some x → RowR W ρ (1000 + x.id.toNat) 152 12 x.av x.all.length (x.all.flatMap cRe) ∧ ∀ e ∈ x.all, IsC (fun b => ρ b = 4) W e.cv e.x.cl
  ids : ∀ (i j : Nat) (x y : Rw), i ≠ j → R.wns[i]? = some x → R.wns[j]? = some y → x.id.toNat ≠ y.id.toNat
  s4 : R.sds.length ≤ 4
  w8 : R.wns.length ≤ 8
  hi : ∀ b, W.heap.size ≤ b → ρ b = 0
theorem IsC.keep {T : Nat → Prop} {W W' : World} {ρ ρ' : Nat → Nat} {v : Value} {l : List Int} (h : IsC (fun b => ρ b = 4) W v l) (hc : Chg T W W') (h1 : ∀ b, T b → ρ b ≠ 4) (h2 : ∀ b, b < W.heap.size → ρ b = 4 → ρ' b = 4) : IsC (fun b => ρ' b = 4) W' v l :=
  ((h.mono (C' := fun b => ρ b = 4 ∧ ρ' b = 4) (fun b hb e => ⟨e, h2 b hb e⟩)).chg hc (fun b hb e => h1 b e hb.1)).mono (fun _ _ e => e.2)
section
variable {W W' : World} {ρ ρ' : Nat → Nat} {rb : Nat} {R R' : Rm} {sv wv sv' wv' : Value} {T : Nat → Prop}
theorem RdAt.lt (h : RdAt W ρ rb R sv wv) : rb < W.heap.size := lt_of_cell (h.k 0 _ rfl)
/-- whatever turns: what is untouched stays, the rest is told anew -/
theorem RdAt.make (h : RdAt W ρ rb R sv wv) (hc : Chg T W W') (hρ : ∀ b, b < W.heap.size → ρ b ≠ 0 → ρ' b = ρ b) (hh : ∀ b, W'.heap.size ≤ b → ρ' b = 0)
    (hk : ∀ i u, (rmV R' sv' wv')[i]? = some u → W'.cell? ⟨rb, i, none⟩ = some u) (hf : ∀ o, W'.frozen? ⟨rb, o, none⟩ = false)
    (hsr : RowR W' ρ' 2 61 3 sv' R'.sds.length (R'.sds.flatMap cRs)) (hwr : RowR W' ρ' 3 99 11 wv' R'.wns.length (R'.wns.flatMap cRw))
    (hga : ∀ (i : Nat) (s : Rs), R'.sds[i]? = some s → (∃ s0 : Rs, R.sds[i]? = some s0 ∧ s0.gv = s.gv ∧ s0.gaps = s.gaps ∧ ∀ b, T b → ρ b ≠ 10 + i) ∨ RowR W' ρ' (10 + i) 126 3 s.gv s.gaps.length (s.gaps.flatMap cRg))
    (hal : ∀ (i : Nat) (x : Rw), R'.wns[i]? = some x → (∃ (j : Nat) (x0 : Rw), R.wns[j]? = some x0 ∧ x0.id = x.id ∧ x0.av = x.av ∧ x0.all = x.all ∧ ∀ b, T b → ρ b ≠ 1000 + x.id.toNat) ∨ (RowR W' ρ' (1000 + x.id.toNat) 152 12 x.av x.all.length (x.all.flatMap cRe) ∧ ∀ e ∈ x.all, IsC (fun b => ρ' b = 4) W' e.cv e.x.cl))
    (h4 : ∀ b, T b → ρ b ≠ 4) (hids : ∀ (i j : Nat) (x y : Rw), i ≠ j → R'.wns[i]? = some x → R'.wns[j]? = some y → x.id.toNat ≠ y.id.toNat) (hs4 : R'.sds.length ≤ 4) (hw8 : R'.wns.length ≤ 8) : RdAt W' ρ' rb R' sv' wv' := by
  refine ⟨hk, hf, (hρ rb h.lt (by rw [h.rm]; decide)).trans h.rm, hsr, hwr, fun i s hs => ?_, fun i x hx => ?_, hids, hs4, hw8, hh⟩
  · rcases hga i s hs with ⟨s0, e1, e2, e3, e4⟩ | e
    · have := (h.ga i s0 e1).keep hc e4 (fun b hb e => (hρ b hb (by omega)).trans e)
      rw [e2, e3] at this
      exact this
    · exact e
  · rcases hal i x hx with ⟨j, x0, e1, e2, e3, e4, e5⟩ | e
    · obtain ⟨a1, a2⟩ := h.al j x0 e1
      rw [e2, e3, e4] at a1
      rw [e4] at a2
      exact ⟨a1.keep hc e5 (fun b hb e => (hρ b hb (by omega)).trans e), fun e he => (a2 e he).keep hc h4 (fun b hb e => (hρ b hb (by omega)).trans e)⟩
    · exact e
theorem RdAt.cells (h : RdAt W ρ rb R sv wv) (hc : Chg T W W') (hT : ¬ T rb) : (∀ i u, (rmV R sv wv)[i]? = some u → W'.cell? ⟨rb, i, none⟩ = some u) ∧ ∀ o, W'.frozen? ⟨rb, o, none⟩ = false :=
  ⟨fun i u hu => hc.cell (h.k i u hu) hT, fun o => (hc.frozen (p := ⟨rb, o, none⟩) h.lt hT).trans (h.fz o)⟩
/-- what is nobody's turns -/
theorem RdAt.chg (h : RdAt W ρ rb R sv wv) (hc : Chg T W W') (hT : ∀ b, T b → ρ b = 0) : RdAt W' ρ rb R sv wv := by
  obtain ⟨k1, k2⟩ := h.cells hc (fun e => by have := hT rb e; rw [h.rm] at this; cases this)
  exact h.make hc (fun _ _ _ => rfl) (fun b hb => h.hi b (Nat.le_trans hc.size hb)) k1 k2 (h.sr.keep hc (fun b hb => by rw [hT b hb]; decide) (fun _ _ e => e)) (h.wr.keep hc (fun b hb => by rw [hT b hb]; decide) (fun _ _ e => e))
    (fun i s hs => .inl ⟨s, hs, rfl, rfl, fun b hb => by rw [hT b hb]; omega⟩) (fun i x hx => .inl ⟨i, x, hx, rfl, rfl, rfl, fun b hb => by rw [hT b hb]; omega⟩) (fun b hb => by rw [hT b hb]; decide) h.ids h.s4 h.w8
theorem RdAt.below (h : RdAt W ρ rb R sv wv) (hb : Below W.heap.size W W') : RdAt W' ρ rb R sv wv := h.chg (T := fun _ => False) (Chg.ofBelow hb) (fun _ e => e.elim)
/-- the mender's own cells turn -/
theorem RdAt.own (h : RdAt W ρ rb R sv wv) (hc : Chg (fun b => b = rb) W W') (hk : ∀ i u, (rmV R' sv wv)[i]? = some u → W'.cell? ⟨rb, i, none⟩ = some u) (hf : ∀ o, W'.frozen? ⟨rb, o, none⟩ = false) (e1 : R'.sds = R.sds) (e2 : R'.wns = R.wns) : RdAt W' ρ rb R' sv wv := by
  have hT : ∀ q, q ≠ 1 → ∀ b, b = rb → ρ b ≠ q := fun q hq b hb e => by rw [hb, h.rm] at e; exact hq e.symm
  refine h.make hc (fun _ _ _ => rfl) (fun b hb => h.hi b (Nat.le_trans hc.size hb)) hk hf ?_ ?_ (fun i s hs => .inl ⟨s, e1 ▸ hs, rfl, rfl, hT _ (by omega)⟩) (fun i x hx => .inl ⟨i, x, e2 ▸ hx, rfl, rfl, rfl, hT _ (by omega)⟩) (hT _ (by omega)) (e2 ▸ h.ids) (e1 ▸ h.s4) (e2 ▸ h.w8)
  · rw [e1]; exact h.sr.keep hc (hT _ (by omega)) (fun _ _ e => e)
  · rw [e2]; exact h.wr.keep hc (hT _ (by omega)) (fun _ _ e => e)
/-- a store into the mender's own cells -/
theorem RdAt.put (h : RdAt W ρ rb R sv wv) (j : Nat) (u : Value) (hj : rmV R' sv wv = (rmV R sv wv).set j u) (e1 : R'.sds = R.sds) (e2 : R'.wns = R.wns) : RdAt (W.setCell ⟨rb, j, none⟩ u) ρ rb R' sv wv := by
  have hc : Chg (fun b => b = rb) W (W.setCell ⟨rb, j, none⟩ u) := (Chg.refl (fun b => b = rb) _).setCell ⟨rb, j, none⟩ (.inl rfl) _
  refine h.own hc (fun i v hv => ?_) (fun o => by rw [World.frozen?_setCell]; exact h.fz o) e1 e2
  rw [hj, List.getElem?_set] at hv
  by_cases e : j = i
  · subst e
    rw [if_pos rfl] at hv
    split at hv
    · rename_i hl
      simp only [Option.some.injEq] at hv
      rw [← hv]
      exact World.cell?_setCell_same _ _ _ (h.k j _ (List.getElem?_eq_getElem hl))
    · cases hv
  · rw [if_neg e] at hv
    rw [World.cell?_setCell_other _ _ _ _ (fun e' => e (by injection e'))]
    exact h.k i v hv
/-- where the cells of a sender lie -/
theorem RdAt.sndAt (h : RdAt W ρ rb R sv wv) {i : Nat} {s : Rs} (hs : R.sds[i]? = some s) : ∃ g cap, sv = .slice (some ⟨g, 0, none⟩) R.sds.length cap ∧ W.cell? ⟨g, i * 3, none⟩ = some (.int .i64 s.src) ∧ W.cell? ⟨g, i * 3 + 1, none⟩ = some (.int .i64 s.newest) ∧ W.cell? ⟨g, i * 3 + 2, none⟩ = some s.gv ∧ (∀ o, W.frozen? ⟨g, o, none⟩ = false) ∧ g < W.heap.size ∧ ρ g = 2 := by
  have hl : i < R.sds.length := (List.getElem?_eq_some_iff.1 hs).1
  have hse : R.sds[i] = s := (List.getElem?_eq_some_iff.1 hs).2
  obtain ⟨ao, cap, rfl⟩ := rowA_shape h.sr.1
  have hr := h.sr.1
  obtain ⟨g, rfl⟩ := rowA_some hr (by omega)
  have at_ : ∀ j, j < 3 → W.cell? ⟨g, i * 3 + j, none⟩ = (cRs s)[j]? := fun j hj => by
    rw [hr.cellAt (i * 3 + j) (by omega), flat_at cRs_len R.sds i j hl hj, hse]
  exact ⟨g, cap, rfl, at_ 0 (by omega), at_ 1 (by omega), at_ 2 (by omega), fun o => hr.frozenAt o, (hr.lt g rfl).2, h.sr.2 g rfl⟩
theorem RdAt.wntAt (h : RdAt W ρ rb R sv wv) {i : Nat} {x : Rw} (hx : R.wns[i]? = some x) : ∃ g cap, wv = .slice (some ⟨g, 0, none⟩) R.wns.length cap ∧ (∀ j u, (cRw x)[j]? = some u → W.cell? ⟨g, i * 11 + j, none⟩ = some u) ∧ (∀ o, W.frozen? ⟨g, o, none⟩ = false) ∧ g < W.heap.size ∧ ρ g = 3 := by
  have hl : i < R.wns.length := (List.getElem?_eq_some_iff.1 hx).1
  have hse : R.wns[i] = x := (List.getElem?_eq_some_iff.1 hx).2
  obtain ⟨ao, cap, rfl⟩ := rowA_shape h.wr.1
  have hr := h.wr.1
  obtain ⟨g, rfl⟩ := rowA_some hr (by omega)
  refine ⟨g, cap, rfl, fun j u hj => ?_, fun o => hr.frozenAt o, (hr.lt g rfl).2, h.wr.2 g rfl⟩
  have h11 : j < 11 := by have := (List.getElem?_eq_some_iff.1 hj).1; rw [cRw_len] at this; exact this
  rw [hr.cellAt (i * 11 + j) (by omega), flat_at cRw_len R.wns i j hl h11, hse]
  exact hj
end
end Pk
end Go.Proofs.YtdjhhnolcafkiaaGreat

/- The document's answer: its small functions. -/
namespace Go.Proofs.YtdjhhnolcafkiaaGreat
open Go.RowKit Pk

set_option maxHeartbeats 400000 in
theorem refIn_any (a b : Int) (w : World) :
    Calls Tryz.prog 36 #[.int .i64 a, .int .i64 b] w fun e w' => e = .returned (.bool (decide (0 ≤ a ∧ a ≤ b))) ∧ w' = w := by
  by_cases h0 : 0 ≤ a
  · by_cases h1 : a ≤ b
    · go_enter Tryz.func36, Tryz.ntmps36
      go_wp2
      go_ret
      exact ⟨by simp [h0, h1], rfl⟩
    · go_enter Tryz.func36, Tryz.ntmps36
      go_wp2
      go_ret
      exact ⟨by simp [h1], rfl⟩
  · have hd : decide (0 ≤ a) = false := by simpa using h0
    go_enter Tryz.func36, Tryz.ntmps36
    go_wp2
    go_ret
    exact ⟨by simp, rfl⟩

theorem ref_byte (s : ByteArray) (a k : Nat) (h : a + k < s.size) : s[a + k] = (s.data.toList.drop a)[k]'(by rw [List.length_drop, ← Lib.size_eq]; omega) := by
  rw [List.getElem_drop]; rfl

set_option maxHeartbeats 400000 in
theorem refNumber_any (s : ByteArray) (a n : Nat) (w : World) (hs : s.size ≤ maxLen) (hn : n ≤ 4) (ha : a + n ≤ s.size) :
    Calls Tryz.prog 82 #[.string s, .int .i64 a, .int .i64 n] w fun e w' => e = .returned (.int .i64 (num ((s.data.toList.drop a).take n))) ∧ w' = w := by
  unfold maxLen at hs
  have hl : (s.data.toList.drop a).length = s.size - a := by rw [List.length_drop, ← Lib.size_eq]
  have Hl : Hid ((s.data.toList.drop a).length = s.size - a) := hl
  clear hl
  go_enter Tryz.func82, Tryz.ntmps82
  go_wp2
  go_loop [7, 8] (fun v i => ∃ k : Nat, k ≤ n ∧ i = .int .i64 k ∧ v = .int .i64 (num ((s.data.toList.drop a).take k))) (fun _ i => n - (intOf i).toNat)
  case atStart => exact ⟨0, Nat.zero_le _, rfl, rfl⟩
  case round =>
    obtain ⟨k, hk, rfl, rfl⟩ := hrel
    have h1 := num_lt ((s.data.toList.drop a).take k)
    have h2 : ((s.data.toList.drop a).take k).length ≤ 4 := by rw [List.length_take]; omega
    have h3 : 256 ^ ((s.data.toList.drop a).take k).length ≤ 256 ^ 4 := Nat.pow_le_pow_right (by omega) h2
    have hm : num ((s.data.toList.drop a).take k) < 4294967296 := by omega
    clear h1 h2 h3
    by_cases hlt : k < n
    · have hi : a + k < s.size := by omega
      have Hs : Hid (num ((s.data.toList.drop a).take (k + 1)) = num ((s.data.toList.drop a).take k) * 256 + (s[a + k]).toNat) := by
        show _ = _
        rw [List.take_succ_eq_append_getElem (by rw [Hl.out]; omega), num_snoc, ref_byte s a k hi]
      have hb := (s[a + k]).toNat_lt
      generalize num ((s.data.toList.drop a).take k) = m at *
      go_wp2
      go_round
      case rel => exact ⟨k + 1, by omega, by go_num, by rw [Hs.out]; simp; omega⟩
      case measure => simp [intOf]; omega
    · go_wp2
      go_ret
      have e : k = n := by omega
      subst e
      exact ⟨rfl, rfl⟩

set_option maxHeartbeats 400000 in
theorem refBit_any (B k : Nat) (w : World) (hb2 : B ≤ 65535) (hk : k ≤ 16) :
    Calls Tryz.prog 83 #[.int .i64 B, .int .i64 k] w fun e w' => e = .returned (.bool (decide (B / 2 ^ k % 2 = 1))) ∧ w' = w := by
  go_enter Tryz.func83, Tryz.ntmps83
  go_wp2
  go_loop [0, 5] (fun v i => ∃ j : Nat, j ≤ k ∧ i = .int .i64 j ∧ v = .int .i64 ((B / 2 ^ j : Nat) : Int)) (fun _ i => k - (intOf i).toNat)
  case atStart => exact ⟨0, Nat.zero_le _, rfl, by simp⟩
  case round =>
    obtain ⟨j, hj, rfl, rfl⟩ := hrel
    have hle : B / 2 ^ j ≤ B := Nat.div_le_self _ _
    have Hn : Hid (B / 2 ^ (j + 1) = B / 2 ^ j / 2) := by show _ = _; rw [Nat.pow_succ, Nat.div_div_eq_div_mul]
    obtain ⟨m, hm⟩ : ∃ m, B / 2 ^ j = m := ⟨_, rfl⟩
    rw [hm] at hle Hn
    have Hm : Hid (B / 2 ^ j = m) := hm
    rw [hm]
    clear hm
    by_cases hlt : j < k
    · go_wp2
      go_round
      case rel => exact ⟨j + 1, by omega, by go_num, by rw [Hn.out]; simp⟩
      case measure => simp [intOf]; omega
    · have e : j = k := by omega
      subst e
      go_wp2
      go_ret
      refine ⟨ret_bool ?_, rfl⟩
      rw [Hm.out, Bool.eq_iff_iff]
      simp
      omega

end Go.Proofs.YtdjhhnolcafkiaaGreat

/- The document's mender: between, sender, known, want, New. -/
namespace Go.Proofs.YtdjhhnolcafkiaaGreat
open Go.RowKit
namespace Pk
def optI : Option Nat → Int
  | none => -1
  | some i => i
def rsPos (R : Rm) (source : Int) : Option Nat := R.sds.findIdx? fun s => decide (s.src = source)
def rwPos (R : Rm) (id : Int) : Option Nat := R.wns.findIdx? fun x => decide (x.id = id)
def rHas (x : Rw) (source : Int) : Bool := decide (x.pl.source = source) || decide (x.pl.second = source)
def rKnown (R : Rm) (source : Int) : Bool := R.wns.any (fun x => rHas x source) || (rsPos R source).isSome
def rNew (c : Cfg) : Rm := ⟨c, ⟨0, c.burst, 0, 0, 0, 0, 0, 0, 0, 0, 0⟩, [], [], 0⟩
theorem any_take {α : Type} (f : α → Bool) (l : List α) (k : Nat) (h : k < l.length) : (l.take (k + 1)).any f = ((l.take k).any f || f l[k]) := by
  rw [List.take_succ_eq_append_getElem h, List.any_append]
  simp
end Pk
open Pk

set_option maxHeartbeats 400000 in
theorem refBetween_any (n lo hi : Int) (w : World) :
    Calls Tryz.prog 31 #[.int .i64 n, .int .i64 lo, .int .i64 hi] w fun e w' => e = .returned (.bool (decide (lo ≤ n ∧ n ≤ hi))) ∧ w' = w := by
  by_cases h0 : lo ≤ n
  · by_cases h1 : n ≤ hi
    · go_enter Tryz.func31, Tryz.ntmps31
      go_wp2
      go_ret
      exact ⟨ret_bool (decide_eq_true (by omega)).symm, rfl⟩
    · go_enter Tryz.func31, Tryz.ntmps31
      go_wp2
      go_ret
      exact ⟨ret_bool (by first | exact (decide_eq_false (by omega)).symm | (rw [decide_eq_false (by omega), decide_eq_false (by omega)])), rfl⟩
  · go_enter Tryz.func31, Tryz.ntmps31
    go_wp2
    go_ret
    exact ⟨ret_bool (by rw [decide_eq_false (show ¬ lo ≤ n by omega)]; rfl), rfl⟩

set_option maxHeartbeats 1000000 in
theorem refSender_any (ρ : Nat → Nat) (rb : Nat) (R : Rm) (sv wv : Value) (source : Int) (w : World) (h : RdAt w ρ rb R sv wv) :
    Calls Tryz.prog 41 #[.pointer (some ⟨rb, 0, none⟩), .int .i64 source] w fun e w' => e = .returned (.int .i64 (optI (rsPos R source))) ∧ w' = w := by
  obtain ⟨ao, cap, rfl⟩ := rowA_shape h.sr.1
  have H := Pk.hid h
  have y18 : w.cell? ⟨rb, 18, none⟩ = some (.slice ao R.sds.length cap) := h.k 18 _ rfl
  have hs4 := h.s4
  clear h
  go_enter Tryz.func41, Tryz.ntmps41
  go_wp2
  go_loopw [5] (fun s5 wr => ∃ k : Nat, k ≤ R.sds.length ∧ s5 = .int .i64 k ∧ (∀ m (hm : m < R.sds.length), m < k → decide ((R.sds[m]).src = source) = false) ∧ wr = w) (fun s5 _ => R.sds.length - (intOf s5).toNat)
  case atStart => exact ⟨0, Nat.zero_le _, rfl, fun m _ hm => by omega, rfl⟩
  case round =>
    obtain ⟨k, hk, rfl, hno, hwr⟩ := hrel
    rw [hwr]
    have Hno := Pk.hid hno
    clear hwr hno
    by_cases hlt : k < R.sds.length
    · have hlt' : (k : Int) < R.sds.length := by omega
      obtain ⟨g, cap', hsl, x0, -, -, -, -⟩ := H.out.sndAt (List.getElem?_eq_getElem hlt)
      simp only [Value.slice.injEq] at hsl
      obtain ⟨rfl, -, -⟩ := hsl
      obtain ⟨s, hse⟩ : ∃ s, (R.sds[k]).src = s := ⟨_, rfl⟩
      rw [hse] at x0
      have Hse := Pk.hid hse
      clear hse
      by_cases he : s = source
      · have Hi : Hid (rsPos R source = some k) := idx_some hlt Hno.out (by rw [Hse.out]; exact decide_eq_true he)
        have hb : (s == source) = true := by simp [he]
        clear he
        go_wp2
        go_ret
        exact ⟨by rw [Hi.out]; rfl, rfl⟩
      · have He : Hid (decide (s = source) = false) := decide_eq_false he
        have hb : (s == source) = false := by simp [he]
        clear he
        go_wp2
        go_roundw
        case rel => exact ⟨k + 1, by omega, by go_num, fun m hm hmk => by
          rcases Nat.lt_or_ge m k with h | h
          · exact Hno.out m hm h
          · obtain rfl : m = k := by omega
            rw [Hse.out]; exact He.out, trivial⟩
        case measure => simp [intOf]; omega
    · have hlt' : ¬ (k : Int) < R.sds.length := by omega
      have Hi : Hid (rsPos R source = none) := idx_none (k := k) (by omega) Hno.out
      go_wp2
      go_ret
      exact ⟨by rw [Hi.out]; rfl, rfl⟩

set_option maxHeartbeats 1000000 in
theorem refWant_any (ρ : Nat → Nat) (rb : Nat) (R : Rm) (sv wv : Value) (id : Int) (w : World) (h : RdAt w ρ rb R sv wv) :
    Calls Tryz.prog 44 #[.pointer (some ⟨rb, 0, none⟩), .int .i64 id] w fun e w' => e = .returned (.int .i64 (optI (rwPos R id))) ∧ w' = w := by
  obtain ⟨ao, cap, rfl⟩ := rowA_shape h.wr.1
  have H := Pk.hid h
  have y18 : w.cell? ⟨rb, 19, none⟩ = some (.slice ao R.wns.length cap) := h.k 19 _ rfl
  have hs4 := h.w8
  clear h
  go_enter Tryz.func44, Tryz.ntmps44
  go_wp2
  go_loopw [5] (fun s5 wr => ∃ k : Nat, k ≤ R.wns.length ∧ s5 = .int .i64 k ∧ (∀ m (hm : m < R.wns.length), m < k → decide ((R.wns[m]).id = id) = false) ∧ wr = w) (fun s5 _ => R.wns.length - (intOf s5).toNat)
  case atStart => exact ⟨0, Nat.zero_le _, rfl, fun m _ hm => by omega, rfl⟩
  case round =>
    obtain ⟨k, hk, rfl, hno, hwr⟩ := hrel
    rw [hwr]
    have Hno := Pk.hid hno
    clear hwr hno
    by_cases hlt : k < R.wns.length
    · have hlt' : (k : Int) < R.wns.length := by omega
      obtain ⟨g, cap', hsl, xs, -, -, -⟩ := H.out.wntAt (List.getElem?_eq_getElem hlt)
      simp only [Value.slice.injEq] at hsl
      obtain ⟨rfl, -, -⟩ := hsl
      have x0 : w.cell? ⟨g, k * 11, none⟩ = some (.int .i64 (R.wns[k]).id) := xs 0 _ rfl
      obtain ⟨s, hse⟩ : ∃ s, (R.wns[k]).id = s := ⟨_, rfl⟩
      rw [hse] at x0
      have Hse := Pk.hid hse
      clear hse xs
      by_cases he : s = id
      · have Hi : Hid (rwPos R id = some k) := idx_some hlt Hno.out (by rw [Hse.out]; exact decide_eq_true he)
        have hb : (s == id) = true := by simp [he]
        clear he
        go_wp2
        go_ret
        exact ⟨by rw [Hi.out]; rfl, rfl⟩
      · have He : Hid (decide (s = id) = false) := decide_eq_false he
        have hb : (s == id) = false := by simp [he]
        clear he
        go_wp2
        go_roundw
        case rel => exact ⟨k + 1, by omega, by go_num, fun m hm hmk => by
          rcases Nat.lt_or_ge m k with h | h
          · exact Hno.out m hm h
          · obtain rfl : m = k := by omega
            rw [Hse.out]; exact He.out, trivial⟩
        case measure => simp [intOf]; omega
    · have hlt' : ¬ (k : Int) < R.wns.length := by omega
      have Hi : Hid (rwPos R id = none) := idx_none (k := k) (by omega) Hno.out
      go_wp2
      go_ret
      exact ⟨by rw [Hi.out]; rfl, rfl⟩

set_option maxHeartbeats 1000000 in
theorem refKnown_any (ρ : Nat → Nat) (rb : Nat) (R : Rm) (sv wv : Value) (source : Int) (w : World) (h : RdAt w ρ rb R sv wv) :
    Calls Tryz.prog 37 #[.pointer (some ⟨rb, 0, none⟩), .int .i64 source] w fun e w' => e = .returned (.bool (rKnown R source)) ∧ w' = w := by
  obtain ⟨ao, cap, rfl⟩ := rowA_shape h.wr.1
  have H := Pk.hid h
  have y18 : w.cell? ⟨rb, 19, none⟩ = some (.slice ao R.wns.length cap) := h.k 19 _ rfl
  have hs4 := h.w8
  clear h
  go_enter Tryz.func37, Tryz.ntmps37
  go_wp2
  go_loopw [5] (fun s5 wr => ∃ k : Nat, k ≤ R.wns.length ∧ s5 = .int .i64 k ∧ (R.wns.take k).any (fun x => rHas x source) = false ∧ wr = w) (fun s5 _ => R.wns.length - (intOf s5).toNat)
  case atStart => exact ⟨0, Nat.zero_le _, rfl, rfl, rfl⟩
  case round =>
    obtain ⟨k, hk, rfl, hno, hwr⟩ := hrel
    rw [hwr]
    have Hno := Pk.hid hno
    clear hwr hno
    by_cases hlt : k < R.wns.length
    · have hlt' : (k : Int) < R.wns.length := by omega
      obtain ⟨g, cap', hsl, xs, -, -, -⟩ := H.out.wntAt (List.getElem?_eq_getElem hlt)
      simp only [Value.slice.injEq] at hsl
      obtain ⟨rfl, -, -⟩ := hsl
      have x0 : w.cell? ⟨g, k * 11 + 2, none⟩ = some (.int .i64 (R.wns[k]).pl.source) := xs 2 _ rfl
      have x1 : w.cell? ⟨g, k * 11 + 3, none⟩ = some (.int .i64 (R.wns[k]).pl.second) := xs 3 _ rfl
      obtain ⟨s, hse⟩ : ∃ s, (R.wns[k]).pl.source = s := ⟨_, rfl⟩
      obtain ⟨s2, hse2⟩ : ∃ s2, (R.wns[k]).pl.second = s2 := ⟨_, rfl⟩
      have Hh : Hid (rHas R.wns[k] source = (decide (s = source) || decide (s2 = source))) := by
        unfold rHas
        rw [hse, hse2]
        rfl
      rw [hse] at x0
      rw [hse2] at x1
      clear hse hse2 xs
      have Hyes : Hid (rHas R.wns[k] source = true → rKnown R source = true) := fun e => by
        unfold rKnown
        rw [List.any_eq_true.2 ⟨_, List.getElem_mem hlt, e⟩]
        rfl
      by_cases he : s = source
      · have Hi : Hid (rKnown R source = true) := Hyes.out (by rw [Hh.out, decide_eq_true he]; rfl)
        have hb : (s == source) = true := by simp [he]
        clear he
        go_wp2
        go_ret
        exact ⟨by rw [Hi.out]; rfl, rfl⟩
      · have hb : (s == source) = false := by simp [he]
        have He : Hid (decide (s = source) = false) := decide_eq_false he
        clear he
        by_cases he2 : s2 = source
        · have Hi : Hid (rKnown R source = true) := Hyes.out (by rw [Hh.out, decide_eq_true he2, Bool.or_true])
          have hb2 : (s2 == source) = true := by simp [he2]
          clear he2
          go_wp2
          go_ret
          exact ⟨by rw [Hi.out]; rfl, rfl⟩
        · have hb2 : (s2 == source) = false := by simp [he2]
          have Hn : Hid ((R.wns.take (k + 1)).any (fun x => rHas x source) = false) := by
            show _ = _
            rw [any_take _ _ _ hlt, Hno.out, Hh.out, He.out, decide_eq_false he2]
            rfl
          clear he2
          go_wp2
          go_roundw
          case rel => exact ⟨k + 1, by omega, by go_num, Hn.out, trivial⟩
          case measure => simp [intOf]; omega
    · have hlt' : ¬ (k : Int) < R.wns.length := by omega
      have Hk : Hid (rKnown R source = (rsPos R source).isSome) := by
        unfold rKnown
        have h := Hno.out
        rw [List.take_of_length_le (by omega)] at h
        rw [h]
        rfl
      go_wp2_with fail
      refine (refSender_any ρ rb R sv _ source _ H.out).mono ?_
      rintro e w1 ⟨rfl, hw1⟩
      rw [hw1]
      clear hw1
      cases hp : rsPos R source with
      | none =>
        have Hp : Hid (rKnown R source = false) := by show _ = _; rw [Hk.out, hp]; rfl
        clear hp
        unfold optI
        go_wp2
        go_ret
        exact ⟨by rw [Hp.out]; rfl, rfl⟩
      | some i =>
        have Hp : Hid (rKnown R source = true) := by show _ = _; rw [Hk.out, hp]; rfl
        clear hp
        unfold optI
        have hi0 : (0 : Int) ≤ (i : Int) := by omega
        go_wp2
        go_ret
        exact ⟨by rw [Hp.out]; rfl, rfl⟩

end Go.Proofs.YtdjhhnolcafkiaaGreat

/- The document's mender in memory: what is added, what is stored. -/
namespace Go.Proofs.YtdjhhnolcafkiaaGreat
open Go.RowKit
namespace Pk
/-- what a call of the document's mender leaves -/
def RMv (w : World) (ρ : Nat → Nat) (W : World) (ρ' : Nat → Nat) : Prop := (∀ b, b < w.heap.size → ρ b = 0 → ρ' b = 0) ∧ Chg (fun b => ρ b ≠ 0) w W
theorem RMv.trans {w W V : World} {ρ ρ' ρ2 : Nat → Nat} (h : RMv w ρ W ρ') (k : RMv W ρ' V ρ2) : RMv w ρ V ρ2 :=
  ⟨fun b hb e => k.1 b (Nat.lt_of_lt_of_le hb h.2.size) (h.1 b hb e), h.2.trans k.2 (fun b hb e e0 => e (h.1 b hb e0))⟩
theorem RMv.below {w W : World} {ρ : Nat → Nat} (h : Below w.heap.size w W) : RMv w ρ W ρ := ⟨fun _ _ e => e, Chg.ofBelow h⟩
theorem RMv.refl (w : World) (ρ : Nat → Nat) : RMv w ρ w ρ := RMv.below (Below.refl _ _)
def role (v : Value) (q : Nat) (ρ : Nat → Nat) (b : Nat) : Nat := if v.ownBlock = some b then q else ρ b
theorem role_in {v : Value} {q : Nat} {ρ : Nat → Nat} {b : Nat} (h : v.ownBlock = some b) : role v q ρ b = q := if_pos h
theorem role_out {v : Value} {q : Nat} {ρ : Nat → Nat} {b : Nat} (h : ¬ v.ownBlock = some b) : role v q ρ b = ρ b := if_neg h
section
variable {W W1 W2 : World} {ρ : Nat → Nat} {rb : Nat} {R R' : Rm} {sv wv sv' wv' v' : Value} {T : Nat → Prop}
theorem RdAt.cellsSet (h : RdAt W ρ rb R sv wv) (hc : Chg T W W2) (hT : ¬ T rb) (j : Nat) (u : Value) (hj : rmV R' sv' wv' = (rmV R sv wv).set j u) : (∀ i u', (rmV R' sv' wv')[i]? = some u' → (W2.setCell ⟨rb, j, none⟩ u).cell? ⟨rb, i, none⟩ = some u') ∧ ∀ o, (W2.setCell ⟨rb, j, none⟩ u).frozen? ⟨rb, o, none⟩ = false := by
  obtain ⟨k1, k2⟩ := h.cells hc hT
  refine ⟨fun i v hv => ?_, fun o => by rw [World.frozen?_setCell]; exact k2 o⟩
  rw [hj, List.getElem?_set] at hv
  by_cases e : j = i
  · subst e
    rw [if_pos rfl] at hv
    split at hv
    · rename_i hl
      simp only [Option.some.injEq] at hv
      rw [← hv]
      exact World.cell?_setCell_same _ _ _ (k1 j _ (List.getElem?_eq_getElem hl))
    · cases hv
  · rw [if_neg e] at hv
    rw [World.cell?_setCell_other _ _ _ _ (fun e' => e (by injection e'))]
    exact k1 i v hv
/-- a row of role q has grown, from W to W2, and is now where v' says -/
structure Grew (ρ : Nat → Nat) (q : Nat) (W W2 : World) (v v' : Value) : Prop where
  c : Chg (fun b => ρ b = q) W W2
  own : ∀ b, v'.ownBlock = some b → ρ b = q ∨ (W.heap.size ≤ b ∧ b < W2.heap.size)
theorem Grew.of {q : Nat} {v : Value} (hq : ∀ b, v.ownBlock = some b → ρ b = q) (hb : Below W.heap.size W W1) (hg : W1.grownBy W2 v.ownBlock) (ho : v'.ownBlock = v.ownBlock ∨ v'.ownBlock = some W1.heap.size) (hl : ∀ b, v'.ownBlock = some b → b < W2.heap.size) : Grew ρ q W W2 v v' := by
  refine ⟨(Chg.ofBelow hb).trans (Chg.ofGrown hg) (fun x _ e => hq x e), fun b e => ?_⟩
  rcases ho with o | o
  · exact .inl (hq b (o ▸ e))
  · refine .inr ⟨?_, hl b e⟩
    rw [o, Option.some.injEq] at e
    rw [← e]
    exact hb.size
theorem Grew.keep {q : Nat} {v : Value} (h : Grew ρ q W W2 v v') : ∀ b, b < W.heap.size → ρ b ≠ 0 → role v' q ρ b = ρ b := fun b hb e0 => by
  by_cases e : v'.ownBlock = some b
  · rcases h.own b e with o | o
    · rw [role_in e, o]
    · omega
  · exact role_out e
theorem Grew.hi {q : Nat} {v : Value} (h : Grew ρ q W W2 v v') (hh : ∀ b, W.heap.size ≤ b → ρ b = 0) (hq : q ≠ 0) : ∀ b, W2.heap.size ≤ b → role v' q ρ b = 0 := fun b hb => by
  have hs := h.c.size
  by_cases e : v'.ownBlock = some b
  · rcases h.own b e with o | o
    · rw [hh b (by omega)] at o
      exact absurd o.symm hq
    · omega
  · rw [role_out e]
    exact hh b (by omega)
theorem Grew.zero {q : Nat} {v : Value} (h : Grew ρ q W W2 v v') (hq : q ≠ 0) : ∀ b, b < W.heap.size → ρ b = 0 → role v' q ρ b = 0 := fun b hb e0 => by
  by_cases e : v'.ownBlock = some b
  · rcases h.own b e with o | o
    · rw [e0] at o
      exact absurd o.symm hq
    · omega
  · rw [role_out e, e0]
/-- a sender is added -/
theorem RdAt.addS (h : RdAt W ρ rb R sv wv) (hg : Grew ρ 2 W W2 sv v') (s : Rs) (hs : s.gv = .slice none 0 0 ∧ s.gaps = []) (hr : W2.ownsRow 0 61 3 v' (R.sds.length + 1) (R.sds.flatMap cRs ++ cRs s)) (hl : R.sds.length < 4) :
    RdAt (W2.setCell ⟨rb, 18, none⟩ v') (role v' 2 ρ) rb { R with sds := R.sds ++ [s] } v' wv ∧ RMv W ρ (W2.setCell ⟨rb, 18, none⟩ v') (role v' 2 ρ) := by
  have hrm := h.rm
  have hrb : ¬ v'.ownBlock = some rb := fun e => by
    have := h.lt
    rcases hg.own rb e with o | o
    · rw [hrm] at o; cases o
    · omega
  have c3 : Chg (fun b => b = rb) W2 (W2.setCell ⟨rb, 18, none⟩ v') := (Chg.refl (fun b => b = rb) _).setCell ⟨rb, 18, none⟩ (.inl rfl) _
  have cc : Chg (fun b => ρ b = 2 ∨ b = rb) W (W2.setCell ⟨rb, 18, none⟩ v') := (hg.c.mono (fun _ _ e => .inl e)).trans c3 (fun _ _ e => .inr e)
  have nT : ∀ q, q ≠ 1 → q ≠ 2 → ∀ b, (ρ b = 2 ∨ b = rb) → ρ b ≠ q := fun q h1 h2 b hb => by
    rcases hb with e | e
    · rw [e]; exact fun e' => h2 e'.symm
    · rw [e, hrm]; exact fun e' => h1 e'.symm
  obtain ⟨k1, k2⟩ := h.cellsSet (R' := { R with sds := R.sds ++ [s] }) (sv' := v') (wv' := wv) hg.c (by rw [hrm]; decide) 18 v' rfl
  refine ⟨h.make cc hg.keep (fun b hb => hg.hi h.hi (by decide) b (by simpa using hb)) k1 k2 ⟨rowA_chg c3 (by simpa using hr) (fun b hb e => hrb (e ▸ hb)), fun b hb => role_in hb⟩ (h.wr.keep cc (nT 3 (by decide) (by decide)) (fun b hb e => (hg.keep b hb (by omega)).trans e)) (fun i t ht => ?_) (fun i x hx => .inl ⟨i, x, hx, rfl, rfl, rfl, nT _ (by omega) (by omega)⟩) (nT 4 (by decide) (by decide)) h.ids (by simp only [List.length_append, List.length_singleton]; omega) h.w8, hg.zero (by decide), cc.mono (fun b _ e => ?_)⟩
  · simp only at ht
    by_cases hi : i < R.sds.length
    · rw [List.getElem?_append_left hi] at ht
      exact .inl ⟨t, ht, rfl, rfl, nT _ (by omega) (by omega)⟩
    · rw [List.getElem?_append_right (by omega)] at ht
      have : t = s := by
        have hlt := (List.getElem?_eq_some_iff.1 ht).1
        simp only [List.length_singleton] at hlt
        rw [show i - R.sds.length = 0 by omega] at ht
        simpa using ht.symm
      subst this
      rw [hs.1, hs.2]
      exact .inr ⟨World.ownsRow_nil _ _ _ _, fun b hb => by cases hb⟩
  · rcases e with e | e
    · rw [e]; decide
    · rw [e, hrm]; decide
/-- a want is added -/
theorem RdAt.addW (h : RdAt W ρ rb R sv wv) (hg : Grew ρ 3 W W2 wv v') (x : Rw) (hx : x.av = .slice none 0 0 ∧ x.all = []) (hid : ∀ y ∈ R.wns, y.id.toNat ≠ x.id.toNat) (hr : W2.ownsRow 0 99 11 v' (R.wns.length + 1) (R.wns.flatMap cRw ++ cRw x)) (hl : R.wns.length < 8) :
    RdAt (W2.setCell ⟨rb, 19, none⟩ v') (role v' 3 ρ) rb { R with wns := R.wns ++ [x] } sv v' ∧ RMv W ρ (W2.setCell ⟨rb, 19, none⟩ v') (role v' 3 ρ) := by
  have hrm := h.rm
  have hrb : ¬ v'.ownBlock = some rb := fun e => by
    have := h.lt
    rcases hg.own rb e with o | o
    · rw [hrm] at o; cases o
    · omega
  have c3 : Chg (fun b => b = rb) W2 (W2.setCell ⟨rb, 19, none⟩ v') := (Chg.refl (fun b => b = rb) _).setCell ⟨rb, 19, none⟩ (.inl rfl) _
  have cc : Chg (fun b => ρ b = 3 ∨ b = rb) W (W2.setCell ⟨rb, 19, none⟩ v') := (hg.c.mono (fun _ _ e => .inl e)).trans c3 (fun _ _ e => .inr e)
  have nT : ∀ q, q ≠ 1 → q ≠ 3 → ∀ b, (ρ b = 3 ∨ b = rb) → ρ b ≠ q := fun q h1 h2 b hb => by
    rcases hb with e | e
    · rw [e]; exact fun e' => h2 e'.symm
    · rw [e, hrm]; exact fun e' => h1 e'.symm
  have hat : ∀ i y, (R.wns ++ [x])[i]? = some y → R.wns[i]? = some y ∨ (i = R.wns.length ∧ y = x) := fun i y hy => by
    by_cases hi : i < R.wns.length
    · rw [List.getElem?_append_left hi] at hy
      exact .inl hy
    · rw [List.getElem?_append_right (by omega)] at hy
      have hlt := (List.getElem?_eq_some_iff.1 hy).1
      simp only [List.length_singleton] at hlt
      rw [show i - R.wns.length = 0 by omega] at hy
      exact .inr ⟨by omega, by simpa using hy.symm⟩
  obtain ⟨k1, k2⟩ := h.cellsSet (R' := { R with wns := R.wns ++ [x] }) (sv' := sv) (wv' := v') hg.c (by rw [hrm]; decide) 19 v' rfl
  refine ⟨h.make cc hg.keep (fun b hb => hg.hi h.hi (by decide) b (by simpa using hb)) k1 k2 (h.sr.keep cc (nT 2 (by decide) (by decide)) (fun b hb e => (hg.keep b hb (by omega)).trans e)) ⟨rowA_chg c3 (by simpa using hr) (fun b hb e => hrb (e ▸ hb)), fun b hb => role_in hb⟩ (fun i s hs => .inl ⟨s, hs, rfl, rfl, nT _ (by omega) (by omega)⟩) (fun i y hy => ?_) (nT 4 (by decide) (by decide)) (fun i j y z hij hy hz => ?_) h.s4 (by simp only [List.length_append, List.length_singleton]; omega), hg.zero (by decide), cc.mono (fun b _ e => ?_)⟩
  · rcases hat i y hy with e | ⟨-, rfl⟩
    · exact .inl ⟨i, y, e, rfl, rfl, rfl, nT _ (by omega) (by omega)⟩
    · rw [hx.1, hx.2]
      exact .inr ⟨⟨World.ownsRow_nil _ _ _ _, fun b hb => by cases hb⟩, fun e he => by cases he⟩
  · rcases hat i y hy with e | ⟨e, rfl⟩
    · rcases hat j z hz with e' | ⟨e', rfl⟩
      · exact h.ids i j y z hij e e'
      · exact hid y (List.mem_of_getElem? e)
    · rcases hat j z hz with e' | ⟨e', rfl⟩
      · exact fun e2 => hid z (List.mem_of_getElem? e') e2.symm
      · omega
  · rcases e with e | e
    · rw [e]; decide
    · rw [e, hrm]; decide
end
end Pk
end Go.Proofs.YtdjhhnolcafkiaaGreat

/- The document's mender: New, AddSender, Missing. -/
namespace Go.Proofs.YtdjhhnolcafkiaaGreat
open Go.RowKit
namespace Pk
def rAddS (R : Rm) (source : Int) : Rm × Int :=
  if ¬ (0 ≤ source ∧ source ≤ 4294967295) then (R, 2) else if rKnown R source = true then (R, 3) else if 4 ≤ R.sds.length then (R, 5) else ({ R with sds := R.sds ++ [⟨source, -1, .slice none 0 0, []⟩] }, 0)
theorem rnew_at (w : World) (c : Cfg) : RdAt (w.alloc (.cells (rmV (rNew c) (.slice none 0 0) (.slice none 0 0)).toArray 53)) (newRoleM w.heap.size) w.heap.size (rNew c) (.slice none 0 0) (.slice none 0 0) := by
  refine ⟨fun i u hu => ?_, fun o => frozen_new _ _ _ o, by simp [newRoleM], ⟨World.ownsRow_nil _ _ _ _, fun b hb => by cases hb⟩, ⟨World.ownsRow_nil _ _ _ _, fun b hb => by cases hb⟩, fun i s hs => by simp [rNew] at hs, fun i x hx => by simp [rNew] at hx, fun i j x y _ hx => by simp [rNew] at hx, by simp [rNew], by simp [rNew], fun b hb => ?_⟩
  · rw [cell_new, ← hu, List.getElem?_toArray]
  · unfold newRoleM
    rw [if_neg (by simp at hb; omega)]
theorem sender_info : (Tryz.prog.info? 61).map (fun i => (i.zero, i.size, i.bytes)) = some (some (.agg #[.int .i64 0, .int .i64 0, .slice none 0 0]), 3, 40) := by kernel_rfl
end Pk
open Pk

set_option maxRecDepth 20000 in
set_option maxHeartbeats 2000000 in
theorem refNew_any (c : Cfg) (w : World) :
    Calls Tryz.prog 13 #[.agg #[.int .i64 c.ring, .int .i64 c.window, .int .i64 c.delay, .int .i64 c.rate, .int .i64 c.burst, .int .i64 c.retry, .int .i64 c.tries]] w fun e w' => Below w.heap.size w w' ∧
      ((cfgOk c = false ∧ e = .returned (.tuple #[.pointer none, .int .i64 2])) ∨ (cfgOk c = true ∧ ∃ rb, w.heap.size ≤ rb ∧ e = .returned (.tuple #[.pointer (some ⟨rb, 0, none⟩), .int .i64 0]) ∧ RdAt w' (newRoleM rb) rb (rNew c) (.slice none 0 0) (.slice none 0 0))) := by
  go_enter Tryz.func13, Tryz.ntmps13
  go_wp2_with fail
  refine (refBetween_any _ _ _ _).mono ?_; rintro e w' ⟨rfl, rfl⟩
  obtain ⟨b1, hb1⟩ : ∃ b, decide (1 ≤ c.ring ∧ c.ring ≤ 64) = b := ⟨_, rfl⟩
  rw [hb1]
  have H1 := Pk.hid hb1
  clear hb1
  go_wp2_with fail
  refine (refBetween_any _ _ _ _).mono ?_; rintro e w' ⟨rfl, rfl⟩
  obtain ⟨b2, hb1⟩ : ∃ b, decide (1 ≤ c.window ∧ c.window ≤ 200) = b := ⟨_, rfl⟩
  rw [hb1]
  have H2 := Pk.hid hb1
  clear hb1
  go_wp2_with fail
  refine (refBetween_any _ _ _ _).mono ?_; rintro e w' ⟨rfl, rfl⟩
  obtain ⟨b3, hb1⟩ : ∃ b, decide (0 ≤ c.delay ∧ c.delay ≤ 1000000) = b := ⟨_, rfl⟩
  rw [hb1]
  have H3 := Pk.hid hb1
  clear hb1
  go_wp2_with fail
  refine (refBetween_any _ _ _ _).mono ?_; rintro e w' ⟨rfl, rfl⟩
  obtain ⟨b4, hb1⟩ : ∃ b, decide (0 ≤ c.rate ∧ c.rate ≤ 100000) = b := ⟨_, rfl⟩
  rw [hb1]
  have H4 := Pk.hid hb1
  clear hb1
  go_wp2_with fail
  refine (refBetween_any _ _ _ _).mono ?_; rintro e w' ⟨rfl, rfl⟩
  obtain ⟨b5, hb1⟩ : ∃ b, decide (0 ≤ c.burst ∧ c.burst ≤ 1000000) = b := ⟨_, rfl⟩
  rw [hb1]
  have H5 := Pk.hid hb1
  clear hb1
  go_wp2_with fail
  refine (refBetween_any _ _ _ _).mono ?_; rintro e w' ⟨rfl, rfl⟩
  obtain ⟨b6, hb1⟩ : ∃ b, decide (1 ≤ c.retry ∧ c.retry ≤ 1000000) = b := ⟨_, rfl⟩
  rw [hb1]
  have H6 := Pk.hid hb1
  clear hb1
  go_wp2_with fail
  refine (refBetween_any _ _ _ _).mono ?_; rintro e w' ⟨rfl, rfl⟩
  obtain ⟨b7, hb1⟩ : ∃ b, decide (0 ≤ c.tries ∧ c.tries ≤ 10) = b := ⟨_, rfl⟩
  rw [hb1]
  have H7 := Pk.hid hb1
  clear hb1
  have Hok : Hid (cfgOk c = (b1 && b2 && b3 && b4 && b5 && b6 && b7)) := by
    show _ = _
    rw [← H1.out, ← H2.out, ← H3.out, ← H4.out, ← H5.out, ← H6.out, ← H7.out]
    unfold cfgOk
    rw [Bool.eq_iff_iff]
    simp only [decide_eq_true_eq, Bool.and_eq_true, and_assoc]
  clear H1 H2 H3 H4 H5 H6 H7
  have Hno : Hid (∀ r : Bool, (b1 && b2 && b3 && b4 && b5 && b6 && b7) = r → cfgOk c = r) := fun r e => Hok.out.trans e
  clear Hok
  cases b1 with
  | false =>
    go_wp2
    go_ret2
    exact ⟨(Below.refl _ _).alloc (Nat.le_refl _) _, .inl ⟨Hno.out _ (by simp), rfl⟩⟩
  | true =>
    cases b2 with
    | false =>
      go_wp2
      go_ret2
      exact ⟨(Below.refl _ _).alloc (Nat.le_refl _) _, .inl ⟨Hno.out _ (by simp), rfl⟩⟩
    | true =>
      cases b3 with
      | false =>
        go_wp2
        go_ret2
        exact ⟨(Below.refl _ _).alloc (Nat.le_refl _) _, .inl ⟨Hno.out _ (by simp), rfl⟩⟩
      | true =>
        cases b4 with
        | false =>
          go_wp2
          go_ret2
          exact ⟨(Below.refl _ _).alloc (Nat.le_refl _) _, .inl ⟨Hno.out _ (by simp), rfl⟩⟩
        | true =>
          cases b5 with
          | false =>
            go_wp2
            go_ret2
            exact ⟨(Below.refl _ _).alloc (Nat.le_refl _) _, .inl ⟨Hno.out _ (by simp), rfl⟩⟩
          | true =>
            cases b6 with
            | false =>
              go_wp2
              go_ret2
              exact ⟨(Below.refl _ _).alloc (Nat.le_refl _) _, .inl ⟨Hno.out _ (by simp), rfl⟩⟩
            | true =>
              cases b7 with
              | false =>
                go_wp2
                go_ret2
                exact ⟨(Below.refl _ _).alloc (Nat.le_refl _) _, .inl ⟨Hno.out _ (by simp), rfl⟩⟩
              | true =>
                go_wp2
                go_ret2
                refine ⟨((Below.refl _ _).alloc (Nat.le_refl _) _).alloc (by simp) _, .inr ⟨Hno.out _ rfl, w.heap.size + 1, by omega, rfl, ?_⟩⟩
                have h := rnew_at (w.alloc (.cells #[.int .i64 c.ring, .int .i64 c.window, .int .i64 c.delay, .int .i64 c.rate, .int .i64 c.burst, .int .i64 c.retry, .int .i64 c.tries] 23)) c
                rw [show (w.alloc (.cells #[.int .i64 c.ring, .int .i64 c.window, .int .i64 c.delay, .int .i64 c.rate, .int .i64 c.burst, .int .i64 c.retry, .int .i64 c.tries] 23)).heap.size = w.heap.size + 1 by simp] at h
                exact h

set_option maxRecDepth 20000 in
set_option maxHeartbeats 2000000 in
theorem refAddSender_any (ρ : Nat → Nat) (rb : Nat) (R : Rm) (sv wv : Value) (source : Int) (w : World) (h : RdAt w ρ rb R sv wv) :
    Calls Tryz.prog 16 #[.pointer (some ⟨rb, 0, none⟩), .int .i64 source] w fun e w' => e = .returned (.int .i64 (rAddS R source).2) ∧ ∃ ρ' sv', RdAt w' ρ' rb (rAddS R source).1 sv' wv ∧ RMv w ρ w' ρ' := by
  obtain ⟨ao, cap, rfl⟩ := rowA_shape h.sr.1
  have H := Pk.hid h
  have y18 : w.cell? ⟨rb, 18, none⟩ = some (.slice ao R.sds.length cap) := h.k 18 _ rfl
  have yf : w.frozen? ⟨rb, 18, none⟩ = false := h.fz 18
  have hs4 := h.s4
  have hlt := h.lt
  clear h
  obtain ⟨X, hX⟩ : ∃ X, rAddS R source = X := ⟨_, rfl⟩
  have HX := Pk.hid hX
  rw [hX]
  clear hX
  go_enter Tryz.func16, Tryz.ntmps16
  go_wp2_with fail
  refine (refIn_any _ _ _).mono ?_
  rintro e w1 ⟨rfl, hw1⟩
  rw [hw1]
  clear hw1
  by_cases hin : 0 ≤ source ∧ source ≤ 4294967295
  · rw [decide_eq_true hin]
    have Hin : Hid (¬ ¬ (0 ≤ source ∧ source ≤ 4294967295)) := fun e => e hin
    clear hin
    go_wp2_with fail
    refine (refKnown_any ρ rb R _ wv source _ H.out).mono ?_
    rintro e w2 ⟨rfl, hw2⟩
    rw [hw2]
    clear hw2
    cases hk : rKnown R source with
    | true =>
      have E : Hid (X = (R, 3)) := by show _ = _; rw [← HX.out]; unfold rAddS; rw [if_neg Hin.out, if_pos hk]
      clear hk
      go_wp2
      go_ret
      exact ⟨by rw [E.out]; rfl, ρ, _, by rw [E.out]; exact H.out, RMv.refl _ _⟩
    | false =>
      have Hk : Hid (¬ rKnown R source = true) := by show ¬ _; rw [hk]; decide
      clear hk
      by_cases hf : 4 ≤ R.sds.length
      · have hf' : (4 : Int) ≤ R.sds.length := by omega
        have E : Hid (X = (R, 5)) := by show _ = _; rw [← HX.out]; unfold rAddS; rw [if_neg Hin.out, if_neg Hk.out, if_pos hf]
        go_wp2
        go_ret
        exact ⟨by rw [E.out]; rfl, ρ, _, by rw [E.out]; exact H.out, RMv.refl _ _⟩
      · have hf' : ¬ (4 : Int) ≤ R.sds.length := by omega
        have E : Hid (X = ({ R with sds := R.sds ++ [⟨source, -1, .slice none 0 0, []⟩] }, 0)) := by show _ = _; rw [← HX.out]; unfold rAddS; rw [if_neg Hin.out, if_neg Hk.out, if_neg hf]
        obtain ⟨i0, hi, hz0, hz1, hz2⟩ := info_parts sender_info
        have Hi : Hid (Tryz.prog.info? 61 = some i0 ∧ i0.zero = some (.agg #[.int .i64 0, .int .i64 0, .slice none 0 0]) ∧ i0.size = 3 ∧ i0.bytes = 40) := ⟨hi, hz0, hz1, hz2⟩
        have Hf : Hid (R.sds.length < 4) := by show _ < _; omega
        clear hi hz0 hz1 hz2 hf
        go_wp2_with (at_builtin; (
          refine wpList_append_at rfl (.tmp 25) (.tmp 28) 50 rfl 0 61 i0 _ 3 40 Tryz.underlying50 Hi.out rfl (by decide) _ R.sds.length (R.sds.flatMap cRs) rfl (H.out.sr.1.alloc _) _ 1 1 [.int .i64 source, .int .i64 (-1), .slice none 0 0] rfl rfl (cells_new _ [.int .i64 source, .int .i64 (-1), .slice none 0 0] _) ?_ (by unfold maxLen; omega) (by omega) (Nat.zero_le _) ?_
          · intro u hu; simp at hu; rcases hu with rfl | rfl | rfl <;> rfl
          intro v' w2 hown' hgrow hob
          refine stop_here ?_))
        refine hid_in ?_
        have hgr := Grew.of (ρ := ρ) (q := 2) (W := w) H.out.sr.2 ((Below.refl _ _).alloc (Nat.le_refl _) _) hgrow hob (fun b hb => (hown'.lt b hb).2)
        have HA := H.out.addS hgr ⟨source, -1, .slice none 0 0, []⟩ ⟨rfl, rfl⟩ hown' Hf.out
        have z18 : w2.cell? ⟨rb, 18, none⟩ = some (.slice ao R.sds.length cap) := hgr.c.cell y18 (by rw [H.out.rm]; decide)
        have zf : w2.frozen? ⟨rb, 18, none⟩ = false := (hgr.c.frozen (p := ⟨rb, 18, none⟩) hlt (by rw [H.out.rm]; decide)).trans yf
        have HA2 := Pk.hid HA
        obtain ⟨a3, c3, rfl⟩ := rowA_shape hown'
        clear hown' hgrow hob hgr HA
        go_wp2
        go_ret
        exact ⟨by rw [E.out]; rfl, _, _, by rw [E.out]; exact HA2.out.1, HA2.out.2⟩
  · rw [decide_eq_false hin]
    have E : Hid (X = (R, 2)) := by show _ = _; rw [← HX.out]; unfold rAddS; rw [if_pos hin]
    clear hin
    go_wp2
    go_ret
    exact ⟨by rw [E.out]; rfl, ρ, _, by rw [E.out]; exact H.out, RMv.refl _ _⟩

end Go.Proofs.YtdjhhnolcafkiaaGreat

/- What is read is told again as it was; what is told is read again as it was. -/
namespace Go.Proofs.YtdjhhnolcafkiaaGreat
namespace Pk

theorem twelve (l : List UInt8) (h : 12 ≤ l.length) : ∃ a0 a1 a2 a3 a4 a5 a6 a7 a8 a9 a10 a11 r, l = a0 :: a1 :: a2 :: a3 :: a4 :: a5 :: a6 :: a7 :: a8 :: a9 :: a10 :: a11 :: r := by
  match l, h with
  | a0 :: a1 :: a2 :: a3 :: a4 :: a5 :: a6 :: a7 :: a8 :: a9 :: a10 :: a11 :: r, _ => exact ⟨a0, a1, a2, a3, a4, a5, a6, a7, a8, a9, a10, a11, r, rfl⟩

theorem head_told (s : ByteArray) (h : 12 ≤ s.size) (hm : (B0 s).toNat / 64 = 2) :
    s.data.toList.take 12 = headB ((B0 s).toNat % 16) (decide (128 ≤ (B1 s).toNat)) (decide ((B0 s).toNat / 32 % 2 = 1)) (decide ((B0 s).toNat / 16 % 2 = 1)) ((B1 s).toNat % 128) (num ((s.data.toList.drop 2).take 2)) (num ((s.data.toList.drop 4).take 4)) (num ((s.data.toList.drop 8).take 4)) := by
  have hb0 := (B0 s).toNat_lt
  have hb1 := (B1 s).toNat_lt
  have e0 : hdB ((B0 s).toNat % 16) (decide ((B0 s).toNat / 32 % 2 = 1)) (decide ((B0 s).toNat / 16 % 2 = 1)) = B0 s := by
    apply UInt8.toNat_inj.1
    rw [hdB_toNat _ _ _ (by omega)]
    by_cases h1 : (B0 s).toNat / 32 % 2 = 1 <;> by_cases h2 : (B0 s).toNat / 16 % 2 = 1 <;> simp [h1, h2] <;> omega
  have e1 : tyB ((B1 s).toNat % 128) (decide (128 ≤ (B1 s).toNat)) = B1 s := by
    apply UInt8.toNat_inj.1
    rw [tyB_toNat _ _ (by omega)]
    by_cases h1 : 128 ≤ (B1 s).toNat <;> simp [h1] <;> omega
  unfold headB
  rw [e0, e1]
  unfold B0 B1
  obtain ⟨a0, a1, a2, a3, a4, a5, a6, a7, a8, a9, a10, a11, r, hl⟩ := twelve s.data.toList (by rw [← Lib.size_eq]; exact h)
  rw [hl, told_num 2 _ rfl, told_num 4 _ rfl, told_num 4 _ rfl]
  rfl

theorem con_told (s : ByteArray) (h0 : at0 s ≤ s.size) :
    (s.data.toList.drop 12).take (at0 s - 12) = conB (words (s.extract 12 (at0 s)).data.toList) ∧ (words (s.extract 12 (at0 s)).data.toList).length = (B0 s).toNat % 16 ∧ allIn (words (s.extract 12 (at0 s)).data.toList) 4294967295 = true := by
  have hl : (s.extract 12 (at0 s)).data.toList.length = 4 * ((B0 s).toNat % 16) := by
    rw [← Lib.size_eq, ByteArray.size_extract]
    unfold at0 at *
    omega
  refine ⟨?_, words_length _ _ hl, words_in _ _ hl⟩
  rw [conB_words _ _ hl, Lib.extract_data]

theorem told_of_read (s : ByteArray) (x : PP) (h : readP s = some x) :
    tellOk x.ex x.ty x.nu x.ti x.so x.pr x.pa x.cl x.en = true ∧ s.data.toList = tellB x.mrk x.ex x.ty x.nu x.ti x.so x.pr x.pa x.cl x.en x.py ∧ s.size ≤ 1500 := by
  cases hb : bad1 s with
  | true => rw [readP_bad s hb] at h; cases h
  | false =>
    have hb' := of_decide_eq_false hb
    by_cases hat : s.size < at0 s
    · rw [readP_at s hb hat] at h; cases h
    · rw [readP_of s hb (by omega)] at h
      cases hx : extPart s with
      | none => rw [hx] at h; cases h
      | some q =>
        obtain ⟨pr, en, a1⟩ := q
        obtain ⟨t1, t2, t3, t4⟩ := ext_told s pr a1 en (by omega) hx
        rw [hx, Option.bind_some] at h
        cases hp : padPart s a1 with
        | none => rw [hp] at h; cases h
        | some q =>
          obtain ⟨pa, fin⟩ := q
          obtain ⟨u1, u2, u3, u4, u5⟩ := pad_told s a1 pa fin t4 (by omega) hp
          rw [hp, Option.map_some, Option.some.injEq] at h
          subst h
          obtain ⟨c1, c2, c3⟩ := con_told s (by omega)
          have hd := head_told s (by omega) (by omega)
          have n2 := num_lt ((s.data.toList.drop 2).take 2)
          have n4 := num_lt ((s.data.toList.drop 4).take 4)
          have n8 := num_lt ((s.data.toList.drop 8).take 4)
          have l2 : ((s.data.toList.drop 2).take 2).length = 2 := by rw [List.length_take, List.length_drop, ← Lib.size_eq]; omega
          have l4 : ((s.data.toList.drop 4).take 4).length = 4 := by rw [List.length_take, List.length_drop, ← Lib.size_eq]; omega
          have l8 : ((s.data.toList.drop 8).take 4).length = 4 := by rw [List.length_take, List.length_drop, ← Lib.size_eq]; omega
          rw [l2] at n2; rw [l4] at n4; rw [l8] at n8
          refine ⟨?_, ?_, by omega⟩
          · simp only [mkP, tellOk, headOk, Bool.and_eq_true]
            exact ⟨⟨⟨⟨⟨⟨⟨decide_eq_true (by omega), decide_eq_true (by omega)⟩, decide_eq_true (by omega)⟩, decide_eq_true (by omega)⟩, decide_eq_true (by rw [c2]; omega)⟩, c3⟩, t1⟩, decide_eq_true (by omega)⟩
          · have e : decide ((0 : Int) < (mkP s (pr, en, a1) (pa, fin)).pa) = decide ((B0 s).toNat / 32 % 2 = 1) := by
              rw [← u5]
              simp [mkP]
            unfold tellB
            rw [e]
            simp only [mkP, Int.toNat_natCast, c2]
            rw [← hd, ← c1, ← t2, ← u1, Lib.extract_data]
            have q1 := cutAt s.data.toList a1 fin u2
            have q2 := cutAt s.data.toList (at0 s) a1 t3
            have q3 := cutAt s.data.toList 12 (at0 s) (by unfold at0; omega)
            rw [List.append_assoc, List.append_assoc, List.append_assoc, ← q1, ← q2, ← q3, List.take_append_drop]

theorem ba_ext {a b : ByteArray} (h : a.data.toList = b.data.toList) : a = b := ByteArray.ext (Array.ext' h)

theorem tellB_length (mk ex : Bool) (ty nu ti so pr pa : Int) (cl : List Int) (en py : ByteArray) (hp : 0 ≤ pa) :
    ((tellB mk ex ty nu ti so pr pa cl en py).length : Int) = plen ex cl en py pa := by
  unfold tellB plen
  rw [List.length_append, List.length_append, List.length_append, List.length_append, headB_length, conB_length, extB_length, padB_length, ← Lib.size_eq, ← Lib.size_eq]
  cases ex <;> simp <;> omega

end Pk
end Go.Proofs.YtdjhhnolcafkiaaGreat

/- The document's answer: noughts, and a number as bytes. -/
namespace Go.Proofs.YtdjhhnolcafkiaaGreat
open Go.RowKit Pk

theorem append_list (a b : ByteArray) : (a ++ b).data.toList = a.data.toList ++ b.data.toList := by
  rw [ByteArray.data_append, Array.toList_append]

set_option maxHeartbeats 400000 in
theorem refNoughts_any (n : Nat) (w : World) (hn : n ≤ 255) :
    Calls Tryz.prog 71 #[.int .i64 n] w fun e w' => (∃ t : ByteArray, e = .returned (.string t) ∧ t.data.toList = List.replicate n 0) ∧ w' = w := by
  go_enter Tryz.func71, Tryz.ntmps71
  go_wp2
  go_loop [3, 4] (fun v i => ∃ (k : Nat) (t : ByteArray), k ≤ n ∧ i = .int .i64 k ∧ v = .string t ∧ t.data.toList = List.replicate k 0) (fun _ i => n - (intOf i).toNat)
  case atStart => exact ⟨0, ⟨#[]⟩, Nat.zero_le _, rfl, rfl, rfl⟩
  case round =>
    obtain ⟨k, t, hk, rfl, rfl, ht⟩ := hrel
    have hts : t.size ≤ 255 := by rw [Lib.size_eq, ht, List.length_replicate]; omega
    have Ht := Pk.hid ht
    clear ht
    by_cases hlt : k < n
    · go_wp2
      go_round
      case rel => exact ⟨k + 1, t ++ ⟨#[0]⟩, by omega, by go_num, rfl, by rw [append_list, Ht.out, List.replicate_succ']⟩
      case measure => simp [intOf]; omega
    · have e : k = n := by omega
      subst e
      go_wp2
      go_ret
      exact ⟨⟨t, rfl, Ht.out⟩, rfl⟩

theorem conv_one (g : Nat) (W : World) (b : UInt8) (h : W.cell? ⟨g, 0, none⟩ = some (.int .u8 (b.toNat : Int))) :
    (convert 166 9 (.slice (some ⟨g, 0, none⟩) 1 1)).run Tryz.prog W = .ok (.string ⟨#[b]⟩) W := by
  rw [run_convert_bytes_string W 166 9 5 _ _ _ Tryz.underlying166 Tryz.underlying5 Tryz.underlying9]
  have hl := run_loadCells_list (P := Tryz.prog) W ⟨g, 0, none⟩ [.int .u8 (b.toNat : Int)] (fun j v hj => by
    match j, hj with
    | 0, hj => simp at hj; subst hj; simpa [Addr.add] using h)
  rw [run_bytesToString W ⟨g, 0, none⟩ 1 1 [(b.toNat : Int)] hl]
  congr 2
  apply ba_ext
  rw [push_fold]
  simp

set_option maxHeartbeats 300000 in
theorem refTold_step (k v : Nat) (w : World) (hk : k + 1 ≤ 8) (hv : v < 9223372036854775808) (ih : ∀ (v : Nat) (w : World), k ≤ 8 → v < 9223372036854775808 → Calls Tryz.prog 70 #[.int .i64 v, .int .i64 k] w fun e w' => (∃ t : ByteArray, e = .returned (.string t) ∧ t.data.toList = told v k) ∧ Below w.heap.size w w') :
    Calls Tryz.prog 70 #[.int .i64 v, .int .i64 ((k + 1 : Nat) : Int)] w fun e w' => (∃ t : ByteArray, e = .returned (.string t) ∧ t.data.toList = told v (k + 1)) ∧ Below w.heap.size w w' := by
  have Ih : Hid (∀ (x : Int) (w : World), 0 ≤ x → x < 9223372036854775808 → Calls Tryz.prog 70 #[.int .i64 x, .int .i64 k] w fun e w' => (∃ t : ByteArray, e = .returned (.string t) ∧ t.data.toList = told x.toNat k) ∧ Below w.heap.size w w') := by
    intro x w h0 h1
    obtain ⟨q, rfl⟩ := Int.eq_ofNat_of_zero_le h0
    rw [Int.toNat_natCast]
    exact ih q w (by omega) (by omega)
  clear ih
  obtain ⟨b, hb⟩ : ∃ b : UInt8, b = UInt8.ofNat (v % 256) := ⟨_, rfl⟩
  have Hb : Hid (UInt8.ofNat (v % 256) = b) := hb.symm
  have hbv : IntKind.u8.wrap ((v : Int).tmod 256) = (b.toNat : Int) := by
    rw [Int.tmod_eq_emod_of_nonneg (by omega), IntKind.wrap_u8', hb, UInt8.toNat_ofNat']; omega
  have hwv : IntKind.i64.wrap ((v : Int) / 256) = (v : Int) / 256 := wrapI64 _ (by omega) (by omega)
  have hwk : IntKind.i64.wrap (k : Int) = (k : Int) := wrapI64 _ (by omega) (by omega)
  have hne : (((k + 1 : Nat) : Int) == 0) = false := by simp; omega
  have hcv := fun g W => conv_one g W b
  clear hb
  go_enter Tryz.func70, Tryz.ntmps70
  go_wp2
  refine wp_region_noPanic ?_
  refine wp_region_held_drew (S := fun _ => True) (by kernel_rfl) trivial (fun hHeld => ?_)
  refine tkH 0 ?_ hHeld ?_ ?_; rotate_left
  · ((intro W hSw; go_simp) <;> with_reducible rfl)
  refine tkH 1 ?_ hHeld ?_ ?_; rotate_left
  · ((intro W hSw; go_simp) <;> with_reducible rfl)
  refine tkH 2 ?_ hHeld ?_ ?_; rotate_left
  · ((intro W hSw; go_simp) <;> with_reducible rfl)
  refine tkH 3 ?_ hHeld ?_ ?_; rotate_left
  · ((intro W hSw; go_simp) <;> with_reducible rfl)
  refine tkH 5 ?_ hHeld ?_ ?_; rotate_left
  · ((intro W hSw; go_simp) <;> with_reducible rfl)
  refine tkH 6 ?_ hHeld ?_ ?_; rotate_left
  · ((intro W hSw; go_simp) <;> with_reducible rfl)
  refine tkH 7 ?_ hHeld ?_ ?_; rotate_left
  · ((intro W hSw; go_simp) <;> with_reducible rfl)
  refine wpAnyH_ready (rs := [4, 8]) (by kernel_rfl) (by simp) ?_
  refine AllReadyH.cons rfl (fun K hK => ?_) (AllReadyH.cons rfl (fun K hK => ?_) AllReadyH.nil)
  · go_simp
    refine (Ih.out ((v : Int) / 256) _ (by omega) (by omega)).mono ?_
    rintro e w1 ⟨⟨t, rfl, ht⟩, hb1⟩
    have hq : ((v : Int) / 256).toNat = v / 256 := by omega
    rw [hq] at ht
    have Ht := Pk.hid ht
    clear hq
    have hts : t.size ≤ 8 := by rw [Lib.size_eq, ht, told_length]; omega
    have hcat : ¬ 9223372036854775807 < t.size + 1 := by omega
    clear ht
    have Hbel : Hid (Below w.heap.size w w1) := (Below.refl _ _).drew.trans hb1
    clear hb1
    go_wp2_with fail
    refine hK.out _ _ trivial (fun hHeld => ?_)
    clear hK K
    refine wpAnyH_ready (rs := [8]) (by kernel_rfl) (by simp) ?_
    refine AllReadyH.cons rfl (fun K hK => ?_) AllReadyH.nil
    go_simp
    refine hK.out _ _ trivial (fun hHeld => ?_)
    clear hK K
    refine wpAnyH_ready (rs := [9]) (by kernel_rfl) (by simp) ?_
    refine AllReadyH.cons rfl (fun K hK => ?_) AllReadyH.nil
    go_simp
    refine hK.out _ _ trivial (fun hHeld => ?_)
    clear hK K
    refine tkH 10 ?_ hHeld ?_ ?_; rotate_left
    · ((intro W hSw; go_simp) <;> with_reducible rfl)
    refine tkH 11 ?_ hHeld ?_ ?_; rotate_left
    · ((intro W hSw; go_simp) <;> with_reducible rfl)
    refine wpAnyH_done (by kernel_rfl) ?_ _
    refine NoPanic.normal ?_
    go_wp2
    go_ret
    refine ⟨⟨t ++ ⟨#[b]⟩, rfl, ?_⟩, Hbel.out.alloc Hbel.out.size _⟩
    rw [append_list, Ht.out, told, Hb.out]
  · go_simp
    refine hK.out _ _ trivial (fun hHeld => ?_)
    clear hK K
    refine wpAnyH_ready (rs := [4, 9]) (by kernel_rfl) (by simp) ?_
    refine AllReadyH.cons rfl (fun K hK => ?_) (AllReadyH.cons rfl (fun K hK => ?_) AllReadyH.nil)
    · go_simp
      refine (Ih.out ((v : Int) / 256) _ (by omega) (by omega)).mono ?_
      rintro e w1 ⟨⟨t, rfl, ht⟩, hb1⟩
      have hq : ((v : Int) / 256).toNat = v / 256 := by omega
      rw [hq] at ht
      have Ht := Pk.hid ht
      clear hq
      have hts : t.size ≤ 8 := by rw [Lib.size_eq, ht, told_length]; omega
      have hcat : ¬ 9223372036854775807 < t.size + 1 := by omega
      clear ht
      have hcc : w1.cell? ⟨w.heap.size, 0, none⟩ = some (.int .u8 (b.toNat : Int)) := (hb1.cell (p := ⟨w.heap.size, 0, none⟩) (by simp)).trans (by go_simp)
      have Hbel : Hid (Below w.heap.size w w1) := (((Below.refl _ _).alloc (Nat.le_refl _) _).drew).trans (hb1.mono (by simp))
      clear hb1
      go_wp2_with fail
      refine hK.out _ _ trivial (fun hHeld => ?_)
      clear hK K
      refine wpAnyH_ready (rs := [9]) (by kernel_rfl) (by simp) ?_
      refine AllReadyH.cons rfl (fun K hK => ?_) AllReadyH.nil
      go_simp
      refine hK.out _ _ trivial (fun hHeld => ?_)
      clear hK K
      refine tkH 10 ?_ hHeld ?_ ?_; rotate_left
      · ((intro W hSw; go_simp) <;> with_reducible rfl)
      refine tkH 11 ?_ hHeld ?_ ?_; rotate_left
      · ((intro W hSw; go_simp) <;> with_reducible rfl)
      refine wpAnyH_done (by kernel_rfl) ?_ _
      refine NoPanic.normal ?_
      go_wp2
      go_ret
      refine ⟨⟨t ++ ⟨#[b]⟩, rfl, ?_⟩, Hbel.out⟩
      rw [append_list, Ht.out, told, Hb.out]
    · go_simp
      refine hK.out _ _ trivial (fun hHeld => ?_)
      clear hK K
      refine wpAnyH_ready (rs := [4]) (by kernel_rfl) (by simp) ?_
      refine AllReadyH.cons rfl (fun K hK => ?_) AllReadyH.nil
      go_simp
      refine (Ih.out ((v : Int) / 256) _ (by omega) (by omega)).mono ?_
      rintro e w1 ⟨⟨t, rfl, ht⟩, hb1⟩
      have hq : ((v : Int) / 256).toNat = v / 256 := by omega
      rw [hq] at ht
      have Ht := Pk.hid ht
      clear hq
      have hts : t.size ≤ 8 := by rw [Lib.size_eq, ht, told_length]; omega
      have hcat : ¬ 9223372036854775807 < t.size + 1 := by omega
      clear ht
      have Hbel : Hid (Below w.heap.size w w1) := (((Below.refl _ _).alloc (Nat.le_refl _) _).drew).trans (hb1.mono (by simp))
      clear hb1
      go_wp2_with fail
      refine hK.out _ _ trivial (fun hHeld => ?_)
      clear hK K
      refine tkH 10 ?_ hHeld ?_ ?_; rotate_left
      · ((intro W hSw; go_simp) <;> with_reducible rfl)
      refine tkH 11 ?_ hHeld ?_ ?_; rotate_left
      · ((intro W hSw; go_simp) <;> with_reducible rfl)
      refine wpAnyH_done (by kernel_rfl) ?_ _
      refine NoPanic.normal ?_
      go_wp2
      go_ret
      refine ⟨⟨t ++ ⟨#[b]⟩, rfl, ?_⟩, Hbel.out⟩
      rw [append_list, Ht.out, told, Hb.out]

theorem refTold_any (k : Nat) : ∀ (v : Nat) (w : World), k ≤ 8 → v < 9223372036854775808 → Calls Tryz.prog 70 #[.int .i64 v, .int .i64 k] w fun e w' => (∃ t : ByteArray, e = .returned (.string t) ∧ t.data.toList = told v k) ∧ Below w.heap.size w w' := by
  induction k with
  | zero =>
    intro v w _ _
    go_enter Tryz.func70, Tryz.ntmps70
    go_wp2
    go_ret
    exact ⟨⟨_, rfl, rfl⟩, Below.refl _ _⟩
  | succ k ih =>
    intro v w hk hv
    exact refTold_step k v w hk hv ih

end Go.Proofs.YtdjhhnolcafkiaaGreat

/- The document's asking as bytes: plain facts; Round. -/
namespace Go.Proofs.YtdjhhnolcafkiaaGreat
open Go.RowKit
namespace Pk

theorem tmod_round (n : Int) : n % 65536 = (if n.tmod 65536 < 0 then n.tmod 65536 + 65536 else n.tmod 65536) ∧ -65536 < n.tmod 65536 ∧ n.tmod 65536 < 65536 := by
  rcases Int.le_total 0 n with h | h
  · rw [Int.tmod_eq_emod_of_nonneg h]
    split <;> omega
  · obtain ⟨m, hm⟩ : ∃ m, m = -n := ⟨_, rfl⟩
    have e : n = -m := by omega
    rw [e, Int.neg_tmod, Int.tmod_eq_emod_of_nonneg (by omega)]
    split <;> omega

end Pk
open Pk

set_option maxHeartbeats 400000 in
theorem refRound_any (n : Int) (w : World) :
    Calls Tryz.prog 62 #[.int .i64 n] w fun e w' => e = .returned (.int .i64 (n % 65536)) ∧ w' = w := by
  obtain ⟨He, hb1, hb2⟩ := tmod_round n
  by_cases hn : n.tmod 65536 < 0
  · rw [if_pos hn] at He
    have He' : Hid (n % 65536 = n.tmod 65536 + 65536) := He
    clear He
    go_enter Tryz.func62, Tryz.ntmps62
    go_wp2
    go_ret
    exact ⟨ret_int He'.out.symm, rfl⟩
  · rw [if_neg hn] at He
    have He' : Hid (n % 65536 = n.tmod 65536) := He
    clear He
    go_enter Tryz.func62, Tryz.ntmps62
    go_wp2
    go_ret
    exact ⟨ret_int He'.out.symm, rfl⟩

end Go.Proofs.YtdjhhnolcafkiaaGreat

/- NumberBytes; repacked. -/
namespace Go.Proofs.YtdjhhnolcafkiaaGreat
open Go.RowKit
namespace Pk
end Pk
open Pk

namespace Pk
end Pk

end Go.Proofs.YtdjhhnolcafkiaaGreat

/- Again. -/
namespace Go.Proofs.YtdjhhnolcafkiaaGreat
open Go.RowKit
namespace Pk
theorem flat_set {α : Type} {f : α → List Value} {k : Nat} (hf : ∀ x, (f x).length = k) (y : α) (u : Value) (j : Nat) (hj : j < k) : ∀ (l : List α) (i : Nat) (h : i < l.length), f y = (f l[i]).set j u → (l.flatMap f).set (i * k + j) u = (l.set i y).flatMap f
  | a :: r, 0, _, e => by
    have e' : f y = (f a).set j u := e
    rw [List.flatMap_cons, List.set_cons_zero, List.flatMap_cons, e', Nat.zero_mul, Nat.zero_add, List.set_append_left _ _ (by rw [hf]; exact hj)]
  | a :: r, i + 1, h, e => by
    have ih := flat_set hf y u j hj r i (by simpa using h) (by simpa using e)
    have e1 : (i + 1) * k + j - (f a).length = i * k + j := by rw [hf, Nat.succ_mul]; omega
    rw [List.flatMap_cons, List.set_cons_succ, List.flatMap_cons, List.set_append_right _ _ (by rw [hf, Nat.succ_mul]; omega), e1, ih]
end Pk
open Pk

end Go.Proofs.YtdjhhnolcafkiaaGreat

/- The document's mender: Missing; what stands amid a call. -/
namespace Go.Proofs.YtdjhhnolcafkiaaGreat
open Go.RowKit
namespace Pk
def rNums (l : List Rg) : List Int := l.map fun g => g.n % 65536
theorem rNums_take (l : List Rg) (k : Nat) (h : k < l.length) : rNums (l.take (k + 1)) = rNums (l.take k) ++ [(l[k]).n % 65536] := by
  unfold rNums
  rw [List.take_succ_eq_append_getElem h, List.map_append]
  rfl
theorem rNums_len (l : List Rg) (k : Nat) (h : k ≤ l.length) : (rNums (l.take k)).length = k := by
  unfold rNums
  rw [List.length_map, List.length_take]
  omega
/-- the cells of a gap in a row -/
theorem gap_at {W : World} {base g n cap : Nat} {l : List Rg} (h : W.ownsRow base 126 3 (.slice (some ⟨g, 0, none⟩) n cap) n (l.flatMap cRg)) (hn : n = l.length) (k : Nat) (hk : k < l.length) : W.cell? ⟨g, k * 3, none⟩ = some (.int .i64 (l[k]).n) ∧ W.cell? ⟨g, k * 3 + 1, none⟩ = some (.int .i64 (l[k]).last) ∧ W.cell? ⟨g, k * 3 + 2, none⟩ = some (.int .i64 (l[k]).tries) := by
  have at_ : ∀ j, j < 3 → W.cell? ⟨g, k * 3 + j, none⟩ = (cRg l[k])[j]? := fun j hj => by
    rw [h.cellAt (k * 3 + j) (by omega), flat_at cRg_len l k j hk hj]
  exact ⟨at_ 0 (by omega), at_ 1 (by omega), at_ 2 (by omega)⟩
/-- what stands amid a call: R as it is by now, the lists of gaps and of what went aside -/
structure RMid (w : World) (ρ : Nat → Nat) (rb : Nat) (R : Rm) (sv wv : Value) (T : Nat → Prop) (W : World) : Prop where
  c : Chg T w W
  k : ∀ i u, (rmV R sv wv)[i]? = some u → W.cell? ⟨rb, i, none⟩ = some u
  fz : ∀ o, W.frozen? ⟨rb, o, none⟩ = false
  sr : RowR W ρ 2 61 3 sv R.sds.length (R.sds.flatMap cRs)
  wr : RowR W ρ 3 99 11 wv R.wns.length (R.wns.flatMap cRw)
section
variable {w W W' : World} {ρ : Nat → Nat} {rb : Nat} {R R' : Rm} {sv wv : Value} {T T' : Nat → Prop}
theorem RdAt.mid (h : RdAt w ρ rb R sv wv) (T : Nat → Prop) : RMid w ρ rb R sv wv T w := ⟨Chg.refl _ _, h.k, h.fz, h.sr, h.wr⟩
theorem RMid.lt (h : RMid w ρ rb R sv wv T W) : rb < W.heap.size := lt_of_cell (h.k 0 _ rfl)
/-- blocks of other roles turn -/
theorem RMid.chg (h : RMid w ρ rb R sv wv T W) (hrm : ρ rb = 1) (hc : Chg T' W W') (hT : ∀ b, T' b → ρ b ≠ 1 ∧ ρ b ≠ 2 ∧ ρ b ≠ 3) (hTT : ∀ b, b < w.heap.size → T' b → T b) : RMid w ρ rb R sv wv T W' := by
  have hr : ¬ T' rb := fun e => (hT rb e).1 hrm
  exact ⟨h.c.trans hc hTT, fun i u hu => hc.cell (h.k i u hu) hr, fun o => (hc.frozen (p := ⟨rb, o, none⟩) h.lt hr).trans (h.fz o), h.sr.keep hc (fun b e => (hT b e).2.1) (fun _ _ e => e), h.wr.keep hc (fun b e => (hT b e).2.2) (fun _ _ e => e)⟩
theorem RMid.below (h : RMid w ρ rb R sv wv T W) (hrm : ρ rb = 1) (hb : Below W.heap.size W W') : RMid w ρ rb R sv wv T W' := h.chg hrm (T' := fun _ => False) (Chg.ofBelow hb) (fun _ e => e.elim) (fun _ _ e => e.elim)
/-- a store into the mender's own cells -/
theorem RMid.put (h : RMid w ρ rb R sv wv T W) (hrm : ρ rb = 1) (hT : T rb) (j : Nat) (u : Value) (hj : rmV R' sv wv = (rmV R sv wv).set j u) (e1 : R'.sds = R.sds) (e2 : R'.wns = R.wns) : RMid w ρ rb R' sv wv T (W.setCell ⟨rb, j, none⟩ u) := by
  have hc : Chg (fun b => b = rb) W (W.setCell ⟨rb, j, none⟩ u) := (Chg.refl (fun b => b = rb) _).setCell ⟨rb, j, none⟩ (.inl rfl) _
  refine ⟨h.c.trans hc (fun b _ e => by rw [e]; exact hT), fun i v hv => ?_, fun o => by rw [World.frozen?_setCell]; exact h.fz o, ?_, ?_⟩
  · rw [hj, List.getElem?_set] at hv
    by_cases e : j = i
    · subst e
      rw [if_pos rfl] at hv
      split at hv
      · rename_i hl
        simp only [Option.some.injEq] at hv
        rw [← hv]
        exact World.cell?_setCell_same _ _ _ (h.k j _ (List.getElem?_eq_getElem hl))
      · cases hv
    · rw [if_neg e] at hv
      rw [World.cell?_setCell_other _ _ _ _ (fun e' => e (by injection e'))]
      exact h.k i v hv
  · rw [e1]
    exact h.sr.keep hc (fun b e => by rw [e, hrm]; decide) (fun _ _ e => e)
  · rw [e2]
    exact h.wr.keep hc (fun b e => by rw [e, hrm]; decide) (fun _ _ e => e)
/-- a store into a sender -/
theorem RMid.setS (h : RMid w ρ rb R sv wv T W) (hrm : ρ rb = 1) {g cap i : Nat} (hsv : sv = .slice (some ⟨g, 0, none⟩) R.sds.length cap) (hT : T g ∨ w.heap.size ≤ g) (hi : i < R.sds.length) (j : Nat) (hj : j < 3) (u : Value) (s' : Rs) (hs : cRs s' = (cRs R.sds[i]).set j u) : RMid w ρ rb { R with sds := R.sds.set i s' } sv wv T (W.setCell ⟨g, i * 3 + j, none⟩ u) := by
  subst hsv
  have hg2 : ρ g = 2 := h.sr.2 g rfl
  have hc : Chg (fun b => b = g) W (W.setCell ⟨g, i * 3 + j, none⟩ u) := (Chg.refl (fun b => b = g) _).setCell ⟨g, i * 3 + j, none⟩ (.inl rfl) _
  have hst := (h.sr.1.stored (i * 3 + j) u).1
  refine ⟨h.c.trans hc (fun b hb e => ?_), fun q v hv => hc.cell (h.k q v hv) (fun e => by rw [← e, hrm] at hg2; cases hg2), fun o => by rw [World.frozen?_setCell]; exact h.fz o, ⟨?_, h.sr.2⟩, h.wr.keep hc (fun b e => by rw [e, hg2]; decide) (fun _ _ e => e)⟩
  · rcases hT with hT | hT
    · rw [e]; exact hT
    · rw [e] at hb; exact absurd hb (by omega)
  · simp only [List.length_set]
    rw [← flat_set cRs_len s' u j hj R.sds i hi hs]
    exact hst
end
end Pk
open Pk

set_option maxRecDepth 20000 in
set_option maxHeartbeats 2000000 in
theorem refMissing_any (ρ : Nat → Nat) (rb : Nat) (R : Rm) (sv wv : Value) (source : Int) (w : World) (h : RdAt w ρ rb R sv wv) (hg : ∀ s ∈ R.sds, s.gaps.length ≤ 90000) :
    Calls Tryz.prog 26 #[.pointer (some ⟨rb, 0, none⟩), .int .i64 source] w fun e w' => Below w.heap.size w w' ∧
      ((rsPos R source = none ∧ e = .returned (.tuple #[.slice none 0 0, .int .i64 4])) ∨ ∃ i s v, rsPos R source = some i ∧ R.sds[i]? = some s ∧ e = .returned (.tuple #[v, .int .i64 0]) ∧ OwnInts w' w.heap.size v (rNums s.gaps)) := by
  have H := Pk.hid h
  have Hg := Pk.hid hg
  clear h hg
  go_enter Tryz.func26, Tryz.ntmps26
  go_wp2_with fail
  refine (refSender_any ρ rb R sv wv source _ H.out).mono ?_
  rintro e w1 ⟨rfl, hw1⟩
  rw [hw1]
  clear hw1
  cases hp : rsPos R source with
  | none =>
    have Hp := Pk.hid hp
    unfold optI
    clear hp
    go_wp2
    go_ret2
    exact ⟨Below.refl _ _, .inl ⟨Hp.out, rfl⟩⟩
  | some i =>
    have Hp := Pk.hid hp
    unfold optI
    obtain ⟨hil, -, -⟩ := List.findIdx?_eq_some_iff_getElem.1 hp
    clear hp
    have hs : R.sds[i]? = some R.sds[i] := List.getElem?_eq_getElem hil
    have hgl := Hg.out _ (List.getElem_mem hil)
    obtain ⟨g, cap, rfl, x0, x1, x2, xf, xl, xr⟩ := H.out.sndAt hs
    have hga := (H.out.ga i _ hs).1
    have y18 : w.cell? ⟨rb, 18, none⟩ = some (.slice (some ⟨g, 0, none⟩) R.sds.length cap) := H.out.k 18 _ rfl
    have hrl := H.out.lt
    have hs4 := H.out.s4
    generalize R.sds[i] = s at *
    have Hs := Pk.hid hs
    obtain ⟨ga, gc, hgv⟩ := rowA_shape hga
    rw [hgv] at x2 hga
    have Hga := Pk.hid hga
    clear hga hgv hs x0 x1 xf xr
    have hi0 : ¬ (i : Int) < 0 := by omega
    have hi4 : (i : Int) < (R.sds.length : Int) := by omega
    go_wp2
    go_loopw [7, 8] (fun v s8 wr => ∃ k : Nat, k ≤ s.gaps.length ∧ s8 = .int .i64 k ∧ OwnInts wr w.heap.size v (rNums (s.gaps.take k)) ∧ Below w.heap.size w wr) (fun _ s8 _ => s.gaps.length - (intOf s8).toNat)
    case atStart => exact ⟨0, Nat.zero_le _, rfl, World.ownsRow_nil _ _ _ _, Below.refl _ _⟩
    case round =>
      obtain ⟨k, hk, rfl, hown, hb⟩ := hrel
      have Hb := Pk.hid hb
      have Hown := Pk.hid hown
      obtain ⟨va, vc, rfl⟩ := hown.shape
      have hlk : (rNums (s.gaps.take k)).length = k := rNums_len _ _ hk
      rw [hlk] at Hown ⊢
      have Hlk := Pk.hid hlk
      clear hlk
      have z18 : wr.cell? ⟨rb, 18, none⟩ = some (.slice (some ⟨g, 0, none⟩) R.sds.length cap) := (hb.cell (p := ⟨rb, 18, none⟩) hrl).trans y18
      have z2 : wr.cell? ⟨g, i * 3 + 2, none⟩ = some (.slice ga s.gaps.length gc) := (hb.cell (p := ⟨g, i * 3 + 2, none⟩) xl).trans x2
      have hsz := hb.size
      clear hown hb
      by_cases hlt : k < s.gaps.length
      · have hlt' : (k : Int) < s.gaps.length := by omega
        obtain ⟨gg, rfl⟩ := rowA_some Hga.out (by omega)
        have d0 : wr.cell? ⟨gg, k * 3, none⟩ = some (.int .i64 (s.gaps[k]).n) := (Hb.out.cell (p := ⟨gg, k * 3, none⟩) (Hga.out.lt gg rfl).2).trans (gap_at Hga.out rfl k hlt).1
        have HTk : Hid (rNums (s.gaps.take (k + 1)) = rNums (s.gaps.take k) ++ [(s.gaps[k]).n % 65536]) := rNums_take s.gaps k hlt
        generalize (s.gaps[k]).n = q at *
        go_wp2_with fail
        refine (refRound_any q _).mono ?_
        rintro e w2 ⟨rfl, hw2⟩
        rw [hw2]
        clear hw2
        go_wp2_with (at_builtin; (
          refine wpList_append_int rfl (.tmp 27) (.tmp 41) rfl w.heap.size _ (rNums (s.gaps.take k)) (q % 65536) rfl (Hown.out.alloc _) _ 1 rfl ?_ (by rw [Hlk.out]; omega) (by simp; omega) ?_
          · exact cell_one_new _ _ _ 0 _ rfl
          intro v' w3 hown' hgrow hob
          refine stop_here ?_))
        refine hid_in ?_
        have R1 : Hid (OwnInts w3 w.heap.size v' (rNums (s.gaps.take (k + 1)))) := by
          rw [HTk.out]
          exact hown'
        have R2 : Hid (Below w.heap.size w w3) := (Hb.out.alloc hsz _).grown hgrow (by simp; omega) (fun g hg => (World.ownsRow.lt Hown.out g hg).1)
        clear hown' hgrow hob
        go_wp2
        go_roundw
        case rel => exact ⟨k + 1, by omega, by go_num, R1.out, R2.out⟩
        case measure => simp [intOf]; omega
      · have hlt' : ¬ (k : Int) < s.gaps.length := by omega
        have hke : k = s.gaps.length := by omega
        have RR : Hid (OwnInts wr w.heap.size (.slice va k vc) (rNums s.gaps)) := by
          have h := Hown.out
          rw [List.take_of_length_le (by omega)] at h
          exact h
        clear hke
        go_wp2
        go_ret2
        exact ⟨Hb.out, .inr ⟨i, Hp.out, s, Hs.out, _, rfl, RR.out⟩⟩

end Go.Proofs.YtdjhhnolcafkiaaGreat

/- The document's want: kept. -/
namespace Go.Proofs.YtdjhhnolcafkiaaGreat
open Go.RowKit
namespace Pk
end Pk
open Pk

end Go.Proofs.YtdjhhnolcafkiaaGreat

/- A sender more, a want more: plain facts. -/
namespace Go.Proofs.YtdjhhnolcafkiaaGreat
open Go.RowKit
namespace Pk
section
variable {W W' : World} {ρ : Nat → Nat} {mb : Nat} {M : Md} {sv wv : Value} {SB WB : List (Nat × Value)}

theorem snoc_at {α : Type} {l : List α} {a : α} {i : Nat} {x : α} (h : (l ++ [a])[i]? = some x) : (i < l.length ∧ l[i]? = some x) ∨ (i = l.length ∧ x = a) := by
  rcases Nat.lt_or_ge i l.length with hi | hi
  · rw [List.getElem?_append_left hi] at h
    exact .inl ⟨hi, h⟩
  · rw [List.getElem?_append_right hi] at h
    have hlt := (List.getElem?_eq_some_iff.1 h).1
    simp at hlt
    have e : i - l.length = 0 := by omega
    rw [e] at h
    simp at h
    exact .inr ⟨by omega, h.symm⟩

theorem MdAt.addS {sb : Nat} {sv' : Value} {s : Sd} (h : MdAt W ρ mb M sv wv SB WB) (hl : SB.length < 4) (hc : Chg (fun b => b = mb ∨ sv.ownBlock = some b) W W') (hk : ∀ i u, (mdV M sv' wv)[i]? = some u → W'.cell? ⟨mb, i, none⟩ = some u) (hf : ∀ o, W'.frozen? ⟨mb, o, none⟩ = false)
    (hr : W'.ownsRow (mb + 1) 91 1 sv' (SB.length + 1) (SB.map (fun p => ptr p.1) ++ [ptr sb])) (hS : SdAt W' (sb + 1) sb (.slice none 0 0) s) (hsb : W.heap.size ≤ sb) (hv : ∀ b, sv'.ownBlock = some b → (sv.ownBlock = some b ∨ W.heap.size ≤ b) ∧ b ≠ sb) :
    MdAt W' (fun b => if b = sb then 10 + 2 * SB.length else if sv'.ownBlock = some b then 2 else ρ b) mb { M with sds := M.sds ++ [s] } sv' wv (SB ++ [(sb, .slice none 0 0)]) WB ∧ (∀ b, b < W.heap.size → ρ b = 0 → (if b = sb then 10 + 2 * SB.length else if sv'.ownBlock = some b then 2 else ρ b) = 0) ∧ Chg (fun b => ρ b ≠ 0) W W' := by
  have tr : ∀ y, (y = mb ∨ sv.ownBlock = some y) → ρ y = 1 ∨ ρ y = 2 := fun y hy => by
    rcases hy with e | e
    · exact .inl (by rw [e]; exact h.rm)
    · exact .inr (h.rs y e)
  have k2 : ∀ y r, ρ y = r → r ≠ 0 → r ≠ 2 → (if y = sb then 10 + 2 * SB.length else if sv'.ownBlock = some y then 2 else ρ y) = r := fun y r e1 e2 e3 => by
    have hne : y ≠ sb := fun e => by rw [e, h.hi sb hsb] at e1; omega
    rw [if_neg hne, if_neg (fun e => by
      rcases (hv y e).1 with e' | e'
      · rw [h.rs y e'] at e1; omega
      · rw [h.hi y e'] at e1; omega), e1]
  have kC : ∀ y, y < W'.heap.size → (ρ y = 4 ↔ (if y = sb then 10 + 2 * SB.length else if sv'.ownBlock = some y then 2 else ρ y) = 4) := fun y _ => by
    constructor
    · intro e; rw [k2 y 4 e (by omega) (by omega)]
    · intro e
      split at e
      · omega
      · split at e
        · omega
        · exact e
  refine ⟨⟨?_, hf, ?_, rowA_chg hc h.wr (fun y hy e => by have := h.rw y hy; rcases tr y e with e' | e' <;> omega), by simp [h.sl], h.wl, by simp [← h.sl]; omega, ?_, ?_, h.ids, k2 mb 1 h.rm (by omega) (by omega), ?_, fun y hy => k2 y 3 (h.rw y hy) (by omega) (by omega), ?_⟩, ?_, ?_⟩
  · exact hk
  · rw [List.length_append, List.map_append]
    exact hr
  · intro i p t g1 g2
    rcases snoc_at g1 with ⟨hi, g1⟩ | ⟨hi, rfl⟩
    · have g2' : M.sds[i]? = some t := by
        have h' : (M.sds ++ [s])[i]? = some t := g2
        rwa [List.getElem?_append_left (by rw [← h.sl]; exact hi)] at h'
      obtain ⟨_, b', c'⟩ := h.sa i p t g1 g2'
      exact ⟨(h.part hc i p).1 t g1 g2' (fun y hy => by rcases tr y hy with e' | e' <;> omega), k2 p.1 _ b' (by omega) (by omega), fun y hy => k2 y _ (c' y hy) (by omega) (by omega)⟩
    · have g2' : t = s := by
        have h' : (M.sds ++ [s])[i]? = some t := g2
        rw [hi, h.sl] at h'
        simpa using h'.symm
      subst g2'
      refine ⟨hS, by rw [hi]; simp, fun y hy => by cases hy⟩
  · intro i p t g1 g2
    obtain ⟨_, b', c'⟩ := h.wa i p t g1 g2
    have hw := (h.part hc i p).2 t g1 g2 (fun y hy => by rcases tr y hy with e' | e' <;> omega)
    exact ⟨hw.mono kC, k2 p.1 _ b' (by omega) (by omega), fun y hy => k2 y _ (c' y hy) (by omega) (by omega)⟩
  · intro y hy
    rw [if_neg (hv y hy).2, if_pos hy]
  · intro y hy
    rw [if_neg (fun e => by have := hS.lt; omega), if_neg (fun e => by have := (hr.lt y e).2; omega)]
    exact h.hi y (Nat.le_trans hc.size hy)
  · intro y hy h0
    rw [if_neg (by omega), if_neg (fun e => by
      rcases (hv y e).1 with e' | e'
      · rw [h.rs y e'] at h0; omega
      · omega)]
    exact h0
  · exact hc.mono (fun y _ e => by rcases tr y e with e' | e' <;> omega)

theorem MdAt.addW {wb : Nat} {wv' : Value} {x : Wn} {last : Int} (h : MdAt W ρ mb M sv wv SB WB) (hc : Chg (fun b => b = mb ∨ wv.ownBlock = some b) W W') (hk : ∀ i u, (mdV { M with last := last } sv wv')[i]? = some u → W'.cell? ⟨mb, i, none⟩ = some u) (hf : ∀ o, W'.frozen? ⟨mb, o, none⟩ = false)
    (hr : W'.ownsRow (mb + 1) 95 1 wv' (WB.length + 1) (WB.map (fun p => ptr p.1) ++ [ptr wb])) (hS : WnAt (fun _ => False) W' (wb + 1) wb (.slice none 0 0) x) (hxk : x.kept = []) (hwb : W.heap.size ≤ wb) (hv : ∀ b, wv'.ownBlock = some b → (wv.ownBlock = some b ∨ W.heap.size ≤ b) ∧ b ≠ wb) (hid : ∀ y ∈ M.wns, y.id.toNat ≠ x.id.toNat) :
    MdAt W' (fun b => if b = wb then 1000 + 2 * x.id.toNat else if wv'.ownBlock = some b then 3 else ρ b) mb { M with wns := M.wns ++ [x], last := last } sv wv' SB (WB ++ [(wb, .slice none 0 0)]) ∧ (∀ b, b < W.heap.size → ρ b = 0 → (if b = wb then 1000 + 2 * x.id.toNat else if wv'.ownBlock = some b then 3 else ρ b) = 0) ∧ Chg (fun b => ρ b ≠ 0) W W' := by
  have tr : ∀ y, (y = mb ∨ wv.ownBlock = some y) → ρ y = 1 ∨ ρ y = 3 := fun y hy => by
    rcases hy with e | e
    · exact .inl (by rw [e]; exact h.rm)
    · exact .inr (h.rw y e)
  have k2 : ∀ y r, ρ y = r → r ≠ 0 → r ≠ 3 → (if y = wb then 1000 + 2 * x.id.toNat else if wv'.ownBlock = some y then 3 else ρ y) = r := fun y r e1 e2 e3 => by
    have hne : y ≠ wb := fun e => by rw [e, h.hi wb hwb] at e1; omega
    rw [if_neg hne, if_neg (fun e => by
      rcases (hv y e).1 with e' | e'
      · rw [h.rw y e'] at e1; omega
      · rw [h.hi y e'] at e1; omega), e1]
  have kC : ∀ y, y < W'.heap.size → (ρ y = 4 ↔ (if y = wb then 1000 + 2 * x.id.toNat else if wv'.ownBlock = some y then 3 else ρ y) = 4) := fun y _ => by
    constructor
    · intro e; rw [k2 y 4 e (by omega) (by omega)]
    · intro e
      split at e
      · omega
      · split at e
        · omega
        · exact e
  refine ⟨⟨?_, hf, rowA_chg hc h.sr (fun y hy e => by have := h.rs y hy; rcases tr y e with e' | e' <;> omega), ?_, h.sl, by simp [h.wl], h.s4, ?_, ?_, ?_, k2 mb 1 h.rm (by omega) (by omega), fun y hy => k2 y 2 (h.rs y hy) (by omega) (by omega), ?_, ?_⟩, ?_, ?_⟩
  · exact hk
  · rw [List.length_append, List.map_append]
    exact hr
  · intro i p t g1 g2
    have g3 : M.sds[i]? = some t := g2
    have hj : i < 4 := by have := (List.getElem?_eq_some_iff.1 g3).1; have := h.s4; omega
    obtain ⟨_, b', c'⟩ := h.sa i p t g1 g2
    exact ⟨(h.part hc i p).1 t g1 g2 (fun y hy => by rcases tr y hy with e' | e' <;> omega), k2 p.1 _ b' (by omega) (by omega), fun y hy => k2 y _ (c' y hy) (by omega) (by omega)⟩
  · intro i p t g1 g2
    rcases snoc_at g1 with ⟨hi, g1⟩ | ⟨hi, rfl⟩
    · have g2' : M.wns[i]? = some t := by
        have h' : (M.wns ++ [x])[i]? = some t := g2
        rwa [List.getElem?_append_left (by rw [← h.wl]; exact hi)] at h'
      obtain ⟨_, b', c'⟩ := h.wa i p t g1 g2'
      have hw := (h.part hc i p).2 t g1 g2' (fun y hy => by rcases tr y hy with e' | e' <;> omega)
      exact ⟨hw.mono kC, k2 p.1 _ b' (by omega) (by omega), fun y hy => k2 y _ (c' y hy) (by omega) (by omega)⟩
    · have g2' : t = x := by
        have h' : (M.wns ++ [x])[i]? = some t := g2
        rw [hi, h.wl] at h'
        simpa using h'.symm
      subst g2'
      refine ⟨⟨hS.c0, hS.c1, hS.c2, hS.c3, hS.c4, hS.c5, hS.c6, hS.c7, hS.c8, hS.c9, hS.c10, hS.c11, hS.c12, hS.fz, hS.row, hS.sb, fun k hk' => (by rw [hxk] at hk'; cases hk'), fun e => by simp at e; omega, fun y hy => by cases hy⟩, by simp, fun y hy => by cases hy⟩
  · intro i j y z hij g1 g2
    have g1' : (M.wns ++ [x])[i]? = some y := g1
    have g2' : (M.wns ++ [x])[j]? = some z := g2
    rcases snoc_at g1' with ⟨hi, g3⟩ | ⟨hi, rfl⟩
    · rcases snoc_at g2' with ⟨hj, g4⟩ | ⟨hj, rfl⟩
      · exact h.ids i j y z hij g3 g4
      · exact hid y (List.mem_of_getElem? g3)
    · rcases snoc_at g2' with ⟨hj, g4⟩ | ⟨hj, e⟩
      · exact Ne.symm (hid z (List.mem_of_getElem? g4))
      · omega
  · intro y hy
    rw [if_neg (hv y hy).2, if_pos hy]
  · intro y hy
    rw [if_neg (fun e => by have := hS.lt; omega), if_neg (fun e => by have := (hr.lt y e).2; omega)]
    exact h.hi y (Nat.le_trans hc.size hy)
  · intro y hy h0
    rw [if_neg (by omega), if_neg (fun e => by
      rcases (hv y e).1 with e' | e'
      · rw [h.rw y e'] at h0; omega
      · omega)]
    exact h0
  · exact hc.mono (fun y _ e => by rcases tr y e with e' | e' <;> omega)

/-- one cell of the mender's block is stored: the others are as they were -/
theorem mdV_set {a b : World} {mb : Nat} {M M' : Md} {sv wv sv' wv' : Value} (j : Nat) (y : Value) (h : ∀ i u, (mdV M sv wv)[i]? = some u → a.cell? ⟨mb, i, none⟩ = some u) (hb : ∀ o, b.cell? ⟨mb, o, none⟩ = a.cell? ⟨mb, o, none⟩) (hj : j < 21) (he : mdV M' sv' wv' = (mdV M sv wv).set j y) :
    ∀ i u, (mdV M' sv' wv')[i]? = some u → (b.setCell ⟨mb, j, none⟩ y).cell? ⟨mb, i, none⟩ = some u := by
  intro i u hu
  rw [he, List.getElem?_set] at hu
  by_cases e : j = i
  · subst e
    rw [if_pos rfl, if_pos (by simpa [mdV, cfgV, sttV] using hj)] at hu
    cases hu
    have hl : j < (mdV M sv wv).length := by simpa [mdV, cfgV, sttV] using hj
    exact World.cell?_setCell_same _ _ _ ((hb j).trans (h j _ (List.getElem?_eq_getElem hl)))
  · rw [if_neg e] at hu
    rw [World.cell?_setCell_other _ _ _ _ (fun e' => e (by injection e')), hb]
    exact h i u hu
end
end Pk
end Go.Proofs.YtdjhhnolcafkiaaGreat

/- AddSender. -/
namespace Go.Proofs.YtdjhhnolcafkiaaGreat
open Go.RowKit
namespace Pk
theorem infoS : (Tryz.prog.info? 91).map (fun i => (i.zero, i.size, i.bytes)) = some (some (.pointer none), 1, 8) := by kernel_rfl
/-- a mender turned -/
def Moved (w w' : World) (ρ : Nat → Nat) (mb : Nat) (M' : Md) : Prop :=
  ∃ ρ' sv' wv' SB' WB', MdAt w' ρ' mb M' sv' wv' SB' WB' ∧ (∀ b, b < w.heap.size → ρ b = 0 → ρ' b = 0) ∧ Chg (fun b => ρ b ≠ 0) w w'
theorem Moved.mk {w w' : World} {ρ ρ' : Nat → Nat} {mb : Nat} {M' : Md} {sv' wv' : Value} {SB' WB' : List (Nat × Value)} (h : MdAt w' ρ' mb M' sv' wv' SB' WB' ∧ (∀ b, b < w.heap.size → ρ b = 0 → ρ' b = 0) ∧ Chg (fun b => ρ b ≠ 0) w w') : Moved w w' ρ mb M' := ⟨ρ', sv', wv', SB', WB', h⟩
theorem Moved.same {w w' : World} {ρ : Nat → Nat} {mb : Nat} {M : Md} {sv wv : Value} {SB WB : List (Nat × Value)} (h : MdAt w ρ mb M sv wv SB WB) (hb : Below w.heap.size w w') : Moved w w' ρ mb M := ⟨ρ, sv, wv, SB, WB, h.below hb, fun _ _ e => e, Chg.ofBelow hb⟩
theorem Moved.before {w w1 w' : World} {ρ : Nat → Nat} {mb : Nat} {M : Md} (hb : Below w.heap.size w w1) (h : Moved w1 w' ρ mb M) : Moved w w' ρ mb M := by
  obtain ⟨ρ', a, b, c, d, h1, h2, h3⟩ := h
  exact ⟨ρ', a, b, c, d, h1, fun x hx => h2 x (Nat.lt_of_lt_of_le hx hb.size), (Chg.ofBelow hb).trans h3 (fun _ _ e => e)⟩
def addSM (M : Md) (source : Int) : Md × Int :=
  if ¬ (0 ≤ source ∧ source ≤ 4294967295) then (M, 2) else if knowsF M source = true then (M, 3) else if 4 ≤ M.sds.length then (M, 5) else ({ M with sds := M.sds ++ [⟨source, false, [], 0⟩] }, 0)
theorem Moved.addS {w1 w3 : World} {ρ : Nat → Nat} {mb : Nat} {M : Md} {ao a3 : Option Addr} {cap c3 : Nat} {wv : Value} {SB WB : List (Nat × Value)} {source : Int} (h : MdAt w1 ρ mb M (.slice ao SB.length cap) wv SB WB) (hl : SB.length < 4) (ob : Obj)
    (hg : World.grownBy ((w1.alloc (.cells #[.int .i64 source, .bool false, .slice none 0 0, .int .u16 0] 134)).alloc ob).drew w3 (Value.slice ao SB.length cap).ownBlock)
    (hown : w3.ownsRow (mb + 1) 91 1 (.slice a3 (SB.length + 1) c3) (SB.length + 1) (SB.map (fun p => ptr p.1) ++ [ptr w1.heap.size]))
    (hob : (Value.slice a3 (SB.length + 1) c3).ownBlock = (Value.slice ao SB.length cap).ownBlock ∨ (Value.slice a3 (SB.length + 1) c3).ownBlock = some ((w1.alloc (.cells #[.int .i64 source, .bool false, .slice none 0 0, .int .u16 0] 134)).alloc ob).drew.heap.size) :
    Moved w1 (w3.setCell ⟨mb, 18, none⟩ (.slice a3 (SB.length + 1) c3)) ρ mb { M with sds := M.sds ++ [⟨source, false, [], 0⟩] } := by
  have hneM : (Value.slice ao SB.length cap).ownBlock ≠ some mb := fun e => by have := h.rs mb e; rw [h.rm] at this; cases this
  have hobl : ∀ b, (Value.slice ao SB.length cap).ownBlock = some b → b < w1.heap.size := fun b hb => (h.sr.lt b hb).2
  have hlt := h.lt
  have hcA : Chg (fun b => (Value.slice ao SB.length cap).ownBlock = some b) (w1.alloc (.cells #[.int .i64 source, .bool false, .slice none 0 0, .int .u16 0] 134)) w3 := Chg.ofGrown (((World.grownBy_alloc _ _ _).trans (World.grownBy_drewX _ _)).trans hg)
  have hc1 : Chg (fun b => (Value.slice ao SB.length cap).ownBlock = some b) w1 w3 := Chg.ofGrown ((((World.grownBy_alloc _ _ _).trans (World.grownBy_alloc _ _ _)).trans (World.grownBy_drewX _ _)).trans hg)
  have hcS : Chg (fun b => b = mb) w3 (w3.setCell ⟨mb, 18, none⟩ (.slice a3 (SB.length + 1) c3)) := (Chg.refl (fun b => b = mb) _).setCell ⟨mb, 18, none⟩ (.inl rfl) _
  have hcA' : Chg (fun b => b = mb ∨ (Value.slice ao SB.length cap).ownBlock = some b) (w1.alloc (.cells #[.int .i64 source, .bool false, .slice none 0 0, .int .u16 0] 134)) (w3.setCell ⟨mb, 18, none⟩ (.slice a3 (SB.length + 1) c3)) := (hcA.mono (fun _ _ e => .inr e)).trans hcS (fun _ _ e => .inl e)
  have hc' : Chg (fun b => b = mb ∨ (Value.slice ao SB.length cap).ownBlock = some b) w1 (w3.setCell ⟨mb, 18, none⟩ (.slice a3 (SB.length + 1) c3)) := (hc1.mono (fun _ _ e => .inr e)).trans hcS (fun _ _ e => .inl e)
  have hnT : ¬ (w1.heap.size = mb ∨ (Value.slice ao SB.length cap).ownBlock = some w1.heap.size) := by
    rintro (e | e)
    · omega
    · have := hobl _ e; omega
  have hsz : ((w1.alloc (.cells #[.int .i64 source, .bool false, .slice none 0 0, .int .u16 0] 134)).alloc ob).drew.heap.size = w1.heap.size + 1 + 1 := by simp
  have hne3 : (Value.slice a3 (SB.length + 1) c3).ownBlock ≠ some mb := fun e => by
    have := (hown.lt mb e).1
    omega
  have hh := MdAt.addS (sb := w1.heap.size) (sv' := .slice a3 (SB.length + 1) c3) (s := ⟨source, false, [], 0⟩) h hl hc'
  refine Moved.mk (hh ?_ ?_ ?_ ?_ (Nat.le_refl _) ?_)
  · exact mdV_set 18 _ h.k (fun o => World.cell?_of_block (hc1.block mb hlt hneM)) (by omega) rfl
  · intro o
    rw [World.frozen?_setCell]
    exact (hc1.frozen (p := ⟨mb, o, none⟩) hlt hneM).trans (h.fz o)
  · exact rowA_chg hcS hown (fun y hy e => hne3 (e ▸ hy))
  · refine ⟨hcA'.cell (cell_new _ _ _ 0) hnT, hcA'.cell (cell_new _ _ _ 1) hnT, hcA'.cell (cell_new _ _ _ 2) hnT, hcA'.cell (cell_new _ _ _ 3) hnT, fun o => (hcA'.frozen (p := ⟨w1.heap.size, o, none⟩) (by simp) hnT).trans (frozen_new _ _ _ o), World.ownsRow_nil _ _ _ _, by omega⟩
  · intro b hb
    rcases hob with e | e
    · rw [e] at hb
      have := hobl b hb
      exact ⟨.inl hb, by omega⟩
    · rw [e, hsz] at hb
      cases hb
      exact ⟨.inr (by omega), by omega⟩
end Pk
open Pk

set_option maxRecDepth 20000 in
set_option maxHeartbeats 1000000 in
theorem addSender_any (ρ : Nat → Nat) (mb : Nat) (M : Md) (sv wv : Value) (SB WB : List (Nat × Value)) (source : Int) (w : World) (h : MdAt w ρ mb M sv wv SB WB) (h8 : M.wns.length ≤ 8) (hr : 1 ≤ M.c.ring) :
    Calls Tryz.prog 15 #[.pointer (some ⟨mb, 0, none⟩), .int .i64 source] w fun e w' => e = .returned (.int .i64 (addSM M source).2) ∧ Moved w w' ρ mb (addSM M source).1 := by
  obtain ⟨ao, cap, rfl⟩ := rowA_shape h.sr
  have H := Pk.hid h
  have hlt := h.lt
  clear h
  go_enter Tryz.func15, Tryz.ntmps15
  go_wp2_with fail
  refine (orNone_any mb _).mono ?_
  rintro e w1 ⟨rfl, hw1⟩
  rw [hw1]
  clear hw1
  go_wp2_with fail
  refine (between_any _ _ _ _).mono ?_
  rintro e w1 ⟨rfl, hw1⟩
  rw [hw1]
  clear hw1
  by_cases hin : 0 ≤ source ∧ source ≤ 4294967295
  · rw [decide_eq_true hin]
    have Hin := Pk.hid hin
    clear hin
    go_wp2_with fail
    refine (knows_any ρ mb M _ wv SB WB source _ H.out h8).mono ?_
    rintro e w1 ⟨rfl, hb1⟩
    have Hb1 := Pk.hid hb1
    have H1 : Hid (MdAt w1 ρ mb M (.slice ao SB.length cap) wv SB WB) := H.out.below hb1
    clear hb1
    cases hk : knowsF M source with
    | true =>
      have HA : Hid (addSM M source = (M, 3)) := by show _ = _; unfold addSM; rw [if_neg (fun e => e Hin.out), if_pos hk]
      clear hk
      go_wp2
      go_ret
      rw [HA.out]
      exact ⟨rfl, Moved.same H.out Hb1.out⟩
    | false =>
    have y18 : w1.cell? ⟨mb, 18, none⟩ = some (.slice ao SB.length cap) := H1.out.k 18 _ rfl
    by_cases h4 : 4 ≤ SB.length
    · have h4' : (4 : Int) ≤ SB.length := by omega
      have HA : Hid (addSM M source = (M, 5)) := by show _ = _; unfold addSM; rw [if_neg (fun e => e Hin.out), if_neg (by rw [hk]; decide), if_pos (by rw [← H.out.sl]; exact h4)]
      clear hk
      go_wp2
      go_ret
      rw [HA.out]
      exact ⟨rfl, Moved.same H.out Hb1.out⟩
    · have h4' : ¬ (4 : Int) ≤ SB.length := by omega
      have HA : Hid (addSM M source = ({ M with sds := M.sds ++ [⟨source, false, [], 0⟩] }, 0)) := by show _ = _; unfold addSM; rw [if_neg (fun e => e Hin.out), if_neg (by rw [hk]; decide), if_neg (by rw [← H.out.sl]; exact h4)]
      clear hk
      obtain ⟨i0, hi0, hz0, hz1, hz2⟩ := info_parts infoS
      have Hi : Hid (Tryz.prog.info? 91 = some i0 ∧ i0.zero = _ ∧ i0.size = 1 ∧ i0.bytes = 8) := ⟨hi0, hz0, hz1, hz2⟩
      clear hi0 hz0 hz1 hz2
      go_wp2_with fail
      refine (made_any mb M.c.ring _ (H1.out.k 0 _ rfl) hr).mono ?_
      rintro e w2 ⟨rfl, hw2⟩
      rw [hw2]
      clear hw2
      have hs1 : mb < w1.heap.size := H1.out.lt
      have hneM : (Value.slice ao SB.length cap).ownBlock ≠ some mb := fun e => by have := H1.out.rs mb e; rw [H1.out.rm] at this; cases this
      have yf : ∀ o, w1.frozen? ⟨mb, o, none⟩ = false := H1.out.fz
      go_wp2
      refine wp_region_noPanic ?_
      refine wp_region_held_drew (S := fun _ => True) (by kernel_rfl) trivial (fun hHeld => ?_)
      refine tkH 0 ?_ hHeld ?_ ?_; rotate_left
      · ((intro W hSw; go_simp) <;> with_reducible rfl)
      refine tkH 1 ?_ hHeld ?_ ?_; rotate_left
      · ((intro W hSw; go_simp) <;> with_reducible rfl)
      refine tkH 2 ?_ hHeld ?_ ?_; rotate_left
      · ((intro W hSw; go_simp) <;> with_reducible rfl)
      refine tkH 3 ?_ hHeld ?_ ?_; rotate_left
      · ((intro W hSw; go_simp) <;> with_reducible rfl)
      refine tkH 5 ?_ hHeld ?_ ?_; rotate_left
      · ((intro W hSw; go_simp) <;> with_reducible rfl)
      refine wpAnyH_ready (rs := [4, 6]) (by kernel_rfl) (by simp) ?_
      refine AllReadyH.cons rfl (fun K hK => ?_) (AllReadyH.cons rfl (fun K hK => ?_) AllReadyH.nil)
      · go_simp
        refine hK.out _ _ trivial (fun hHeld => ?_)
        clear hK K
        try simp only [Act.put]
        try simp only [List.getElem_toArray]
        try simp only [List.getElem_cons_succ]
        try simp only [List.getElem_cons_zero]
        try simp only [List.setIfInBounds_toArray]
        try simp only [List.set_cons_succ]
        try simp only [List.set_cons_zero]
        refine wpAnyH_ready (rs := [6]) (by kernel_rfl) (by simp) ?_
        refine AllReadyH.cons rfl (fun K hK => ?_) AllReadyH.nil
        go_simp
        refine (newSender_any source _).mono ?_
        rintro e w2 ⟨rfl, hw2⟩
        rw [hw2]
        clear hw2
        unfold ptr
        go_simp
        refine hK.out _ _ trivial (fun hHeld => ?_)
        clear hK K
        try simp only [Act.put]
        try simp only [List.getElem_toArray]
        try simp only [List.getElem_cons_succ]
        try simp only [List.getElem_cons_zero]
        try simp only [List.setIfInBounds_toArray]
        try simp only [List.set_cons_succ]
        try simp only [List.set_cons_zero]
        refine wpAnyH_ready (rs := [7]) (by kernel_rfl) (by simp) ?_
        refine AllReadyH.cons rfl (fun K hK => ?_) AllReadyH.nil
        go_simp
        refine hK.out _ _ trivial (fun hHeld => ?_)
        clear hK K
        try simp only [Act.put]
        try simp only [List.getElem_toArray]
        try simp only [List.getElem_cons_succ]
        try simp only [List.getElem_cons_zero]
        try simp only [List.setIfInBounds_toArray]
        try simp only [List.set_cons_succ]
        try simp only [List.set_cons_zero]
        refine wpAnyH_ready (rs := [8]) (by kernel_rfl) (by simp) ?_
        refine AllReadyH.cons rfl (fun K hK => ?_) AllReadyH.nil
        rw [if_pos (by rfl)]
        refine wp_append_at (.tmp 31) (.tmp 34) 84 rfl (mb + 1) 91 i0 _ 1 8 Tryz.underlying84 Hi.out.1 Hi.out.2.1 Hi.out.2.2.1 Hi.out.2.2.2 rfl (by decide) (.slice ao SB.length cap) SB.length (SB.map fun p => ptr p.1) (by rfl) (World.ownsRow.drew (World.ownsRow.alloc (World.ownsRow.alloc H1.out.sr _) _)) _ 1 1 [ptr w1.heap.size] (by rfl) rfl (cells_newAt _ [ptr w1.heap.size] _ _ (by simp)) ?_ (by unfold maxLen; omega) (by omega) (by simp; omega) ?_
        · intro u hu
          simp at hu
          subst hu
          rfl
        intro v' w3 hown' hgrow hob
        obtain ⟨a3, c3, rfl⟩ := rowA_shape hown'
        have hc3 : Chg (fun x => (Value.slice ao SB.length cap).ownBlock = some x) w1 w3 := Chg.ofGrown ((((World.grownBy_alloc _ _ _).trans (World.grownBy_alloc _ _ _)).trans (World.grownBy_drewX _ _)).trans hgrow)
        have z18 : w3.cell? ⟨mb, 18, none⟩ = some (.slice ao SB.length cap) := hc3.cell y18 hneM
        have zf : ∀ o, w3.frozen? ⟨mb, o, none⟩ = false := fun o => (hc3.frozen (p := ⟨mb, o, none⟩) hs1 hneM).trans (yf o)
        have HM : Hid (Moved w1 (w3.setCell ⟨mb, 18, none⟩ (.slice a3 (SB.length + 1) c3)) ρ mb { M with sds := M.sds ++ [⟨source, false, [], 0⟩] }) := Moved.addS H1.out (by omega) _ hgrow hown' hob
        refine hK.out _ _ trivial (fun hHeld => ?_)
        clear hK K hown' hgrow hob hc3 y18 yf
        try simp only [Act.put]
        try simp only [List.getElem_toArray]
        try simp only [List.getElem_cons_succ]
        try simp only [List.getElem_cons_zero]
        try simp only [List.setIfInBounds_toArray]
        try simp only [List.set_cons_succ]
        try simp only [List.set_cons_zero]
        refine tkH 9 ?_ hHeld ?_ ?_; rotate_left
        · ((intro W hSw; go_simp) <;> with_reducible rfl)
        refine tkH 10 ?_ hHeld ?_ ?_; rotate_left
        · ((intro W hSw; go_simp) <;> with_reducible rfl)
        refine wpAnyH_ready (rs := [11]) (by kernel_rfl) (by simp) ?_
        refine AllReadyH.cons rfl (fun K hK => ?_) AllReadyH.nil
        go_simp
        refine hK.out _ _ trivial (fun hHeld => ?_)
        clear hK K
        refine wpAnyH_done (by kernel_rfl) ?_ _
        refine NoPanic.normal ?_
        go_wp2
        go_ret
        rw [HA.out]
        exact ⟨rfl, Moved.before Hb1.out HM.out⟩
      · go_simp
        refine (newSender_any source _).mono ?_
        rintro e w2 ⟨rfl, hw2⟩
        rw [hw2]
        clear hw2
        unfold ptr
        go_simp
        refine hK.out _ _ trivial (fun hHeld => ?_)
        clear hK K
        try simp only [Act.put]
        try simp only [List.getElem_toArray]
        try simp only [List.getElem_cons_succ]
        try simp only [List.getElem_cons_zero]
        try simp only [List.setIfInBounds_toArray]
        try simp only [List.set_cons_succ]
        try simp only [List.set_cons_zero]
        refine wpAnyH_ready (rs := [4, 7]) (by kernel_rfl) (by simp) ?_
        refine AllReadyH.cons rfl (fun K hK => ?_) (AllReadyH.cons rfl (fun K hK => ?_) AllReadyH.nil)
        · go_simp
          refine hK.out _ _ trivial (fun hHeld => ?_)
          clear hK K
          try simp only [Act.put]
          try simp only [List.getElem_toArray]
          try simp only [List.getElem_cons_succ]
          try simp only [List.getElem_cons_zero]
          try simp only [List.setIfInBounds_toArray]
          try simp only [List.set_cons_succ]
          try simp only [List.set_cons_zero]
          refine wpAnyH_ready (rs := [7]) (by kernel_rfl) (by simp) ?_
          refine AllReadyH.cons rfl (fun K hK => ?_) AllReadyH.nil
          go_simp
          refine hK.out _ _ trivial (fun hHeld => ?_)
          clear hK K
          try simp only [Act.put]
          try simp only [List.getElem_toArray]
          try simp only [List.getElem_cons_succ]
          try simp only [List.getElem_cons_zero]
          try simp only [List.setIfInBounds_toArray]
          try simp only [List.set_cons_succ]
          try simp only [List.set_cons_zero]
          refine wpAnyH_ready (rs := [8]) (by kernel_rfl) (by simp) ?_
          refine AllReadyH.cons rfl (fun K hK => ?_) AllReadyH.nil
          rw [if_pos (by rfl)]
          refine wp_append_at (.tmp 31) (.tmp 34) 84 rfl (mb + 1) 91 i0 _ 1 8 Tryz.underlying84 Hi.out.1 Hi.out.2.1 Hi.out.2.2.1 Hi.out.2.2.2 rfl (by decide) (.slice ao SB.length cap) SB.length (SB.map fun p => ptr p.1) (by rfl) (World.ownsRow.drew (World.ownsRow.alloc (World.ownsRow.alloc H1.out.sr _) _)) _ 1 1 [ptr w1.heap.size] (by rfl) rfl (cells_newAt _ [ptr w1.heap.size] _ _ (by simp)) ?_ (by unfold maxLen; omega) (by omega) (by simp; omega) ?_
          · intro u hu
            simp at hu
            subst hu
            rfl
          intro v' w3 hown' hgrow hob
          obtain ⟨a3, c3, rfl⟩ := rowA_shape hown'
          have hc3 : Chg (fun x => (Value.slice ao SB.length cap).ownBlock = some x) w1 w3 := Chg.ofGrown ((((World.grownBy_alloc _ _ _).trans (World.grownBy_alloc _ _ _)).trans (World.grownBy_drewX _ _)).trans hgrow)
          have z18 : w3.cell? ⟨mb, 18, none⟩ = some (.slice ao SB.length cap) := hc3.cell y18 hneM
          have zf : ∀ o, w3.frozen? ⟨mb, o, none⟩ = false := fun o => (hc3.frozen (p := ⟨mb, o, none⟩) hs1 hneM).trans (yf o)
          have HM : Hid (Moved w1 (w3.setCell ⟨mb, 18, none⟩ (.slice a3 (SB.length + 1) c3)) ρ mb { M with sds := M.sds ++ [⟨source, false, [], 0⟩] }) := Moved.addS H1.out (by omega) _ hgrow hown' hob
          refine hK.out _ _ trivial (fun hHeld => ?_)
          clear hK K hown' hgrow hob hc3 y18 yf
          try simp only [Act.put]
          try simp only [List.getElem_toArray]
          try simp only [List.getElem_cons_succ]
          try simp only [List.getElem_cons_zero]
          try simp only [List.setIfInBounds_toArray]
          try simp only [List.set_cons_succ]
          try simp only [List.set_cons_zero]
          refine tkH 9 ?_ hHeld ?_ ?_; rotate_left
          · ((intro W hSw; go_simp) <;> with_reducible rfl)
          refine tkH 10 ?_ hHeld ?_ ?_; rotate_left
          · ((intro W hSw; go_simp) <;> with_reducible rfl)
          refine wpAnyH_ready (rs := [11]) (by kernel_rfl) (by simp) ?_
          refine AllReadyH.cons rfl (fun K hK => ?_) AllReadyH.nil
          go_simp
          refine hK.out _ _ trivial (fun hHeld => ?_)
          clear hK K
          refine wpAnyH_done (by kernel_rfl) ?_ _
          refine NoPanic.normal ?_
          go_wp2
          go_ret
          rw [HA.out]
          exact ⟨rfl, Moved.before Hb1.out HM.out⟩
        · go_simp
          refine hK.out _ _ trivial (fun hHeld => ?_)
          clear hK K
          try simp only [Act.put]
          try simp only [List.getElem_toArray]
          try simp only [List.getElem_cons_succ]
          try simp only [List.getElem_cons_zero]
          try simp only [List.setIfInBounds_toArray]
          try simp only [List.set_cons_succ]
          try simp only [List.set_cons_zero]
          refine wpAnyH_ready (rs := [4]) (by kernel_rfl) (by simp) ?_
          refine AllReadyH.cons rfl (fun K hK => ?_) AllReadyH.nil
          go_simp
          refine hK.out _ _ trivial (fun hHeld => ?_)
          clear hK K
          try simp only [Act.put]
          try simp only [List.getElem_toArray]
          try simp only [List.getElem_cons_succ]
          try simp only [List.getElem_cons_zero]
          try simp only [List.setIfInBounds_toArray]
          try simp only [List.set_cons_succ]
          try simp only [List.set_cons_zero]
          refine wpAnyH_ready (rs := [8]) (by kernel_rfl) (by simp) ?_
          refine AllReadyH.cons rfl (fun K hK => ?_) AllReadyH.nil
          rw [if_pos (by rfl)]
          refine wp_append_at (.tmp 31) (.tmp 34) 84 rfl (mb + 1) 91 i0 _ 1 8 Tryz.underlying84 Hi.out.1 Hi.out.2.1 Hi.out.2.2.1 Hi.out.2.2.2 rfl (by decide) (.slice ao SB.length cap) SB.length (SB.map fun p => ptr p.1) (by rfl) (World.ownsRow.drew (World.ownsRow.alloc (World.ownsRow.alloc H1.out.sr _) _)) _ 1 1 [ptr w1.heap.size] (by rfl) rfl (cells_newAt _ [ptr w1.heap.size] _ _ (by simp)) ?_ (by unfold maxLen; omega) (by omega) (by simp; omega) ?_
          · intro u hu
            simp at hu
            subst hu
            rfl
          intro v' w3 hown' hgrow hob
          obtain ⟨a3, c3, rfl⟩ := rowA_shape hown'
          have hc3 : Chg (fun x => (Value.slice ao SB.length cap).ownBlock = some x) w1 w3 := Chg.ofGrown ((((World.grownBy_alloc _ _ _).trans (World.grownBy_alloc _ _ _)).trans (World.grownBy_drewX _ _)).trans hgrow)
          have z18 : w3.cell? ⟨mb, 18, none⟩ = some (.slice ao SB.length cap) := hc3.cell y18 hneM
          have zf : ∀ o, w3.frozen? ⟨mb, o, none⟩ = false := fun o => (hc3.frozen (p := ⟨mb, o, none⟩) hs1 hneM).trans (yf o)
          have HM : Hid (Moved w1 (w3.setCell ⟨mb, 18, none⟩ (.slice a3 (SB.length + 1) c3)) ρ mb { M with sds := M.sds ++ [⟨source, false, [], 0⟩] }) := Moved.addS H1.out (by omega) _ hgrow hown' hob
          refine hK.out _ _ trivial (fun hHeld => ?_)
          clear hK K hown' hgrow hob hc3 y18 yf
          try simp only [Act.put]
          try simp only [List.getElem_toArray]
          try simp only [List.getElem_cons_succ]
          try simp only [List.getElem_cons_zero]
          try simp only [List.setIfInBounds_toArray]
          try simp only [List.set_cons_succ]
          try simp only [List.set_cons_zero]
          refine tkH 9 ?_ hHeld ?_ ?_; rotate_left
          · ((intro W hSw; go_simp) <;> with_reducible rfl)
          refine tkH 10 ?_ hHeld ?_ ?_; rotate_left
          · ((intro W hSw; go_simp) <;> with_reducible rfl)
          refine wpAnyH_ready (rs := [11]) (by kernel_rfl) (by simp) ?_
          refine AllReadyH.cons rfl (fun K hK => ?_) AllReadyH.nil
          go_simp
          refine hK.out _ _ trivial (fun hHeld => ?_)
          clear hK K
          refine wpAnyH_done (by kernel_rfl) ?_ _
          refine NoPanic.normal ?_
          go_wp2
          go_ret
          rw [HA.out]
          exact ⟨rfl, Moved.before Hb1.out HM.out⟩

  · rw [decide_eq_false hin]
    have HA : Hid (addSM M source = (M, 2)) := by show _ = _; unfold addSM; rw [if_pos hin]
    clear hin
    go_wp2
    go_ret
    rw [HA.out]
    exact ⟨rfl, Moved.same H.out (Below.refl _ _)⟩

end Go.Proofs.YtdjhhnolcafkiaaGreat
