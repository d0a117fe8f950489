/- The document's mender: DropWant. -/
import Derived.Test.YtdjhhnolcafkiaaGreatG08
import Derived.Test.YtdjhhnolcafkiaaGreatG06
import Derived.Test.YtdjhhnolcafkiaaGreatG02
import Derived.Test.YtdjhhnolcafkiaaGreatG03
import Derived.Test.YtdjhhnolcafkiaaGreatG07
import Derived.Test.YtdjhhnolcafkiaaGreatG01
import Derived.Deep.RegionHeld
import Derived.Test.YtdjhhnolcafkiaaGreatG05
namespace Go.Proofs.YtdjhhnolcafkiaaGreat
open Go.RowKit
namespace Pk
def rDrop (R : Rm) (id : Int) : Rm × Int :=
  match rwPos R id with
  | none => (R, 4)
  | some k => ({ R with wns := R.wns.eraseIdx k }, 0)
theorem erase_take {α : Type} (l : List α) (k q : Nat) (h : q < l.length) : (l.take (q + 1)).eraseIdx k = (l.take q).eraseIdx k ++ if q = k then [] else [l[q]] := by
  rw [List.take_succ_eq_append_getElem h]
  have hl : (l.take q).length = q := by rw [List.length_take]; omega
  rcases Nat.lt_trichotomy k q with e | e | e
  · rw [List.eraseIdx_append_of_lt_length (by omega), if_neg (by omega)]
  · subst e
    rw [List.eraseIdx_append_of_length_le (by omega), hl, Nat.sub_self, if_pos rfl, List.eraseIdx_of_length_le (l := l.take k) (by omega)]
    rfl
  · rw [List.eraseIdx_of_length_le (by simp; omega), List.eraseIdx_of_length_le (by omega), if_neg (by omega)]
theorem erase_at {α : Type} {l : List α} {k i : Nat} {x : α} (h : (l.eraseIdx k)[i]? = some x) : l[if i < k then i else i + 1]? = some x := by
  rw [List.getElem?_eraseIdx] at h
  split at h
  · rename_i e; rw [if_pos e]; exact h
  · rename_i e; rw [if_neg e]; exact h
theorem RdAt.dropW {w W2 : World} {ρ : Nat → Nat} {rb : Nat} {R : Rm} {sv wv v : Value} (h : RdAt w ρ rb R sv wv) (hb : Below w.heap.size w W2) (k : Nat) (hr : W2.ownsRow w.heap.size 99 11 v (R.wns.eraseIdx k).length ((R.wns.eraseIdx k).flatMap cRw)) :
    RdAt (W2.setCell ⟨rb, 19, none⟩ v) (role v 3 ρ) rb { R with wns := R.wns.eraseIdx k } sv v ∧ RMv w ρ (W2.setCell ⟨rb, 19, none⟩ v) (role v 3 ρ) := by
  have hrm := h.rm
  have hlt := h.lt
  have c3 : Chg (fun b => b = rb) W2 (W2.setCell ⟨rb, 19, none⟩ v) := (Chg.refl (fun b => b = rb) _).setCell ⟨rb, 19, none⟩ (.inl rfl) _
  have cc : Chg (fun b => b = rb) w (W2.setCell ⟨rb, 19, none⟩ v) := (Chg.ofBelow hb).trans c3 (fun _ _ e => e)
  have hk : ∀ b, b < w.heap.size → role v 3 ρ b = ρ b := fun b hl => role_out (fun e => by have := (hr.lt b e).1; omega)
  have nT : ∀ q, q ≠ 1 → ∀ b, b = rb → ρ b ≠ q := fun q h1 b e => by rw [e, hrm]; exact fun e' => h1 e'.symm
  obtain ⟨k1, k2⟩ := h.cellsSet (R' := { R with wns := R.wns.eraseIdx k }) (sv' := sv) (wv' := v) (T := fun _ => False) (Chg.ofBelow hb) (fun e => e) 19 v rfl
  refine ⟨h.make cc (fun b hl _ => hk b hl) (fun b hl => ?_) k1 k2 (h.sr.keep cc (nT 2 (by decide)) (fun b hl e => (hk b hl).trans e)) ⟨rowN_mono (rowA_chg c3 hr (fun b e e' => by have := (hr.lt b e).1; omega)) (Nat.zero_le _), fun b e => role_in e⟩ (fun i s hs => .inl ⟨s, hs, rfl, rfl, nT _ (by omega)⟩) (fun i x hx => .inl ⟨_, x, erase_at hx, rfl, rfl, rfl, nT _ (by omega)⟩) (nT 4 (by decide)) (fun i j x y hij hx hy => h.ids _ _ x y (by split <;> split <;> omega) (erase_at hx) (erase_at hy)) h.s4 (Nat.le_trans (List.length_eraseIdx_le _ _) h.w8), fun b hl e => (hk b hl).trans e, cc.mono (fun b _ e => by rw [e, hrm]; decide)⟩
  have := cc.size
  have hs2 : (W2.setCell ⟨rb, 19, none⟩ v).heap.size = W2.heap.size := World.size_setCell _ _ _
  rw [role_out (fun e => by have := (hr.lt b e).2; omega)]
  exact h.hi b (by omega)
end Pk
open Pk

set_option maxRecDepth 20000 in
set_option maxHeartbeats 4000000 in
theorem refDropWant_any (ρ : Nat → Nat) (rb : Nat) (R : Rm) (sv wv : Value) (id : Int) (w : World) (h : RdAt w ρ rb R sv wv) :
    Calls Tryz.prog 20 #[.pointer (some ⟨rb, 0, none⟩), .int .i64 id] w fun e w' => e = .returned (.int .i64 (rDrop R id).2) ∧ ∃ ρ' wv', RdAt w' ρ' rb (rDrop R id).1 sv wv' ∧ RMv w ρ w' ρ' := by
  obtain ⟨ao, cap, rfl⟩ := rowA_shape h.wr.1
  have H := Pk.hid h
  have y19 : w.cell? ⟨rb, 19, none⟩ = some (.slice ao R.wns.length cap) := h.k 19 _ rfl
  have hrl := h.lt
  have hw8 := h.w8
  clear h
  obtain ⟨X, hX⟩ : ∃ X, rDrop R id = X := ⟨_, rfl⟩
  have HX := Pk.hid hX
  rw [hX]
  clear hX
  go_enter Tryz.func20, Tryz.ntmps20
  go_wp2_with fail
  refine (refWant_any ρ rb R sv _ id _ H.out).mono ?_
  rintro e w1 ⟨rfl, hw1⟩
  rw [hw1]
  clear hw1
  cases hp : rwPos R id with
  | none =>
    have E : Hid (X = (R, 4)) := by show _ = _; rw [← HX.out]; unfold rDrop; rw [hp]
    clear hp
    unfold optI
    go_wp2
    go_ret
    exact ⟨by rw [E.out]; rfl, ρ, _, by rw [E.out]; exact H.out, RMv.refl _ _⟩
  | some k =>
    have E : Hid (X = ({ R with wns := R.wns.eraseIdx k }, 0)) := by show _ = _; rw [← HX.out]; unfold rDrop; rw [hp]
    obtain ⟨hkl, -, -⟩ := List.findIdx?_eq_some_iff_getElem.1 hp
    clear hp
    unfold optI
    have hk0 : ¬ (k : Int) < 0 := by omega
    obtain ⟨i0, hi, hz0, hz1, hz2⟩ := info_parts want_info
    have Hi : Hid (Tryz.prog.info? 99 = some i0 ∧ i0.zero = some (.agg #[.int .i64 0, .int .i64 0, .int .i64 0, .int .i64 0, .int .i64 0, .int .i64 0, .int .i64 0, .int .i64 0, .slice none 0 0, .int .i64 0, .int .i64 0]) ∧ i0.size = 11 ∧ i0.bytes = 104) := ⟨hi, hz0, hz1, hz2⟩
    clear hi hz0 hz1 hz2
    go_wp2
    go_loopw [6, 7] (fun v s7 wr => ∃ q : Nat, q ≤ R.wns.length ∧ s7 = .int .i64 q ∧ wr.ownsRow w.heap.size 99 11 v ((R.wns.take q).eraseIdx k).length (((R.wns.take q).eraseIdx k).flatMap cRw) ∧ Below w.heap.size w wr) (fun _ s7 _ => R.wns.length - (intOf s7).toNat)
    case atStart => exact ⟨0, Nat.zero_le _, rfl, by simpa using World.ownsRow_nil _ _ _ _, Below.refl _ _⟩
    case round =>
      obtain ⟨q, hq, rfl, hl, hb⟩ := hrel
      obtain ⟨la, lc, rfl⟩ := rowA_shape hl
      have Hl := Pk.hid hl
      have Hb := Pk.hid hb
      have hsz := hb.size
      have hfl : ((R.wns.take q).eraseIdx k).length ≤ 8 := Nat.le_trans (List.length_eraseIdx_le _ _) (by rw [List.length_take]; omega)
      have u19 : wr.cell? ⟨rb, 19, none⟩ = some (.slice ao R.wns.length cap) := (hb.cell (p := ⟨rb, 19, none⟩) hrl).trans y19
      clear hl hb
      by_cases hlt : q < R.wns.length
      · have hlt' : (q : Int) < R.wns.length := by omega
        have Hf : Hid ((R.wns.take (q + 1)).eraseIdx k = (R.wns.take q).eraseIdx k ++ if q = k then [] else [R.wns[q]]) := erase_take R.wns k q hlt
        by_cases hqk : q = k
        · have hne : ((q : Int) != (k : Int)) = false := by simp [hqk]
          have Hf2 : Hid ((R.wns.take (q + 1)).eraseIdx k = (R.wns.take q).eraseIdx k) := by
            show _ = _
            rw [Hf.out, if_pos hqk, List.append_nil]
          clear hqk
          go_wp2
          go_roundw
          case rel => exact ⟨q + 1, by omega, by go_num, by rw [Hf2.out]; exact Hl.out, Hb.out⟩
          case measure => simp [intOf]; omega
        · have hne : ((q : Int) != (k : Int)) = true := by simp; omega
          have Hf2 : Hid ((R.wns.take (q + 1)).eraseIdx k = (R.wns.take q).eraseIdx k ++ [R.wns[q]]) := by
            show _ = _
            rw [Hf.out, if_neg hqk]
          obtain ⟨g, cap', hsl, xs, -, xl, -⟩ := H.out.wntAt (List.getElem?_eq_getElem hlt)
          simp only [Value.slice.injEq] at hsl
          obtain ⟨rfl, -, -⟩ := hsl
          have ys : ∀ j u, (cRw R.wns[q])[j]? = some u → wr.cell? ⟨g, q * 11 + j, none⟩ = some u := fun j u hj => (Hb.out.cell (p := ⟨g, q * 11 + j, none⟩) xl).trans (xs j u hj)
          obtain ⟨x, hx⟩ : ∃ x, R.wns[q] = x := ⟨_, rfl⟩
          rw [hx] at ys Hf2
          obtain ⟨xi, xo, ⟨p0, p1, p2, p3, p4, p5⟩, xa, xall, xsh, xse⟩ := x
          have a0 : wr.cell? ⟨g, q * 11, none⟩ = some (.int .i64 xi) := ys 0 _ rfl
          have a1 := ys 1 _ rfl
          have a2 := ys 2 _ rfl
          have a3 := ys 3 _ rfl
          have a4 := ys 4 _ rfl
          have a5 := ys 5 _ rfl
          have a6 := ys 6 _ rfl
          have a7 := ys 7 _ rfl
          have a8 := ys 8 _ rfl
          have a9 := ys 9 _ rfl
          have a10 := ys 10 _ rfl
          have hal := (H.out.al q _ (List.getElem?_eq_getElem hlt)).1.1
          rw [hx] at hal
          obtain ⟨xaa, xac, hxa⟩ := rowA_shape hal
          simp only at hxa
          subst hxa
          clear xs ys hx hqk hal Hf
          go_wp2_with (at_builtin; (
            refine wpList_append_at rfl (.tmp 25) (.tmp 33) 51 rfl w.heap.size 99 i0 _ 11 104 Tryz.underlying51 Hi.out rfl (by decide) _ ((R.wns.take q).eraseIdx k).length (((R.wns.take q).eraseIdx k).flatMap cRw) rfl (World.ownsRow.alloc Hl.out _) _ 1 1 [.int .i64 xi, .int .i64 xo, .int .i64 p0, .int .i64 p1, .int .i64 p2, .int .i64 p3, .int .i64 p4, .int .i64 p5, .slice xaa xall.length xac, .int .i64 xsh, .int .i64 xse] rfl rfl (cells_new _ [.int .i64 xi, .int .i64 xo, .int .i64 p0, .int .i64 p1, .int .i64 p2, .int .i64 p3, .int .i64 p4, .int .i64 p5, .slice xaa xall.length xac, .int .i64 xsh, .int .i64 xse] _) ?_ (by unfold maxLen; omega) (by omega) (by simp; omega) ?_
            · intro u hu; simp at hu; rcases hu with rfl | rfl | rfl | rfl | rfl | rfl | rfl | rfl | rfl | rfl | rfl <;> rfl
            intro v' w9 hown' hgrow hob
            refine stop_here ?_))
          refine hid_in ?_
          have L9 : Hid (w9.ownsRow w.heap.size 99 11 v' ((R.wns.take (q + 1)).eraseIdx k).length (((R.wns.take (q + 1)).eraseIdx k).flatMap cRw)) := by
            rw [Hf2.out, flat_one, List.length_append]
            exact hown'
          have B9 : Hid (Below w.heap.size w w9) := (Hb.out.alloc hsz _).grown hgrow (by simp; omega) (fun b e => (Hl.out.lt b e).1)
          obtain ⟨a9', c9', rfl⟩ := rowA_shape L9.out
          clear hown' hgrow hob a0 a1 a2 a3 a4 a5 a6 a7 a8 a9 a10
          go_wp2
          go_roundw
          case rel => exact ⟨q + 1, by omega, by go_num, L9.out, B9.out⟩
          case measure => simp [intOf]; omega
      · have hlt' : ¬ (q : Int) < R.wns.length := by omega
        have hqe : R.wns.take q = R.wns := List.take_of_length_le (by omega)
        rw [hqe] at Hl hfl ⊢
        clear hqe
        have HD := H.out.dropW Hb.out k Hl.out
        have HE := Pk.hid HD
        have vf : wr.frozen? ⟨rb, 19, none⟩ = false := (H.out.below Hb.out).fz 19
        clear HD
        go_wp2
        go_ret
        exact ⟨by rw [E.out]; rfl, _, ⟨_, by rw [E.out]; exact HE.out.1⟩, HE.out.2⟩

end Go.Proofs.YtdjhhnolcafkiaaGreat

/- Pure: a mender of the program's and the document's. -/
namespace Go.Proofs.YtdjhhnolcafkiaaGreat
open Go.RowKit Pk
namespace Rl
structure WRel (ring n : Nat) (x : Wn) (y : Rw) : Prop where
  id : x.id = y.id
  of_ : x.of_ = y.of_
  pl : x.pl = y.pl
  src : x.src = y.pl.source
  beg : x.begun = true ↔ y.all.length ≠ 0
  sh : x.begun = true → (x.shift : Int) = y.shift % 65536
  s16 : x.shift < 65536
  sb : -65535 ≤ y.shift ∧ y.shift ≤ 65535
  fb : 0 ≤ y.pl.first ∧ y.pl.first ≤ 65535
  kl : x.kept.length ≤ ring
  al : y.all.length ≤ n
theorem WRel.mono {ring n m : Nat} {x : Wn} {y : Rw} (h : WRel ring n x y) (hm : n ≤ m) : WRel ring m x y :=
  ⟨h.id, h.of_, h.pl, h.src, h.beg, h.sh, h.s16, h.sb, h.fb, h.kl, Nat.le_trans h.al hm⟩
theorem WRel.shift {ring n : Nat} {x : Wn} {y : Rw} (h : WRel ring n x y) (nu : Int) (hn : 0 ≤ nu ∧ nu ≤ 65535) : (shiftOf x nu.toNat : Int) = rShift y nu % 65536 ∧ -65535 ≤ rShift y nu ∧ rShift y nu ≤ 65535 := by
  unfold shiftOf rShift
  have hf := h.fb
  have hs := h.sb
  rw [h.pl]
  cases hb : x.begun with
  | true =>
    rw [if_neg (h.beg.1 hb), if_pos rfl]
    exact ⟨h.sh hb, hs⟩
  | false =>
    have h0 : y.all.length = 0 := Decidable.byContradiction (fun e => by have := h.beg.2 e; rw [hb] at this; cases this)
    rw [if_pos h0, if_neg (by decide)]
    omega
theorem WRel.num {ring n : Nat} {x : Wn} {y : Rw} (h : WRel ring n x y) (nu : Int) (hn : 0 ≤ nu ∧ nu ≤ 65535) : (numOf x nu.toNat : Int) = (nu + rShift y nu) % 65536 := by
  have := h.shift nu hn
  unfold numOf
  omega
theorem WRel.text {ring n : Nat} {x : Wn} {y : Rw} (h : WRel ring n x y) (p : PP) (hn : 0 ≤ p.nu ∧ p.nu ≤ 65535) : textOf x p = (tellX (rPassX y p)).1 := by
  unfold textOf tellX rPassX
  simp only
  rw [h.num p.nu hn, h.src, h.pl]
theorem keepsF_len (x : Wn) (p : PP) (cv : Value) (ring : Nat) (_hr : 1 ≤ ring) (h : x.kept.length ≤ ring) : (keepsF x p cv ring).length ≤ ring := by
  have := rmF_length Kp.n (numOf x p.nu.toNat) x.kept
  unfold keepsF
  split
  · rw [List.length_drop, List.length_append, List.length_singleton]
    omega
  · rename_i e
    exact Nat.le_of_not_lt e
theorem WRel.pass {ring n : Nat} {x : Wn} {y : Rw} (h : WRel ring n x y) (hr : 1 ≤ ring) (p : PP) (hn : 0 ≤ p.nu ∧ p.nu ≤ 65535) (cm cv av : Value) : WRel ring (n + 1) (passW x p cm ring) (rPassW y p cv av) := by
  have h1 := h.shift p.nu hn
  refine ⟨h.id, h.of_, h.pl, h.src, ⟨fun _ => by simp [rPassW], fun _ => rfl⟩, fun _ => h1.1, ?_, h1.2, h.fb, keepsF_len x p cm ring hr h.kl, ?_⟩
  · show shiftOf x p.nu.toNat < 65536
    omega
  · have := h.al
    simp [rPassW]
    omega

structure Rel (n : Nat) (M : Md) (R : Rm) : Prop where
  c : M.c = R.c
  ok : cfgOk M.c = true
  s : M.s = R.s
  sl : M.sds.length = R.sds.length
  s4 : M.sds.length ≤ 4
  sa : ∀ (i : Nat) (s : Sd) (t : Rs), M.sds[i]? = some s → R.sds[i]? = some t → SRel M.c.window.toNat n s t
  wl : M.wns.length = R.wns.length
  w8 : M.wns.length ≤ 8
  wa : ∀ (i : Nat) (x : Wn) (y : Rw), M.wns[i]? = some x → R.wns[i]? = some y → WRel M.c.ring.toNat n x y
  last : M.last = R.ids
  lb : 0 ≤ M.last ∧ M.last ≤ n
  ids : ∀ x ∈ M.wns, 0 < x.id ∧ x.id ≤ M.last
  now : 0 ≤ M.s.now ∧ M.s.now ≤ 1000000 * n
  tok : 0 ≤ M.s.tokens ∧ M.s.tokens ≤ 1000000
  cnt : ∀ c ∈ [M.s.passed, M.s.late, M.s.doubled, M.s.wrong, M.s.unknown, M.s.again, M.s.refused, M.s.asked, M.s.givenUp], 0 ≤ c ∧ c ≤ 10000 * n
theorem pick {α β : Type} {l : List α} {k : List β} (h : l.length = k.length) {i : Nat} {x : α} (hx : l[i]? = some x) : ∃ y, k[i]? = some y := ⟨_, List.getElem?_eq_getElem (by rw [← h]; exact (List.getElem?_eq_some_iff.1 hx).1)⟩
theorem mem_pick {α β : Type} {l : List α} {k : List β} (h : l.length = k.length) {x : α} (hx : x ∈ l) : ∃ (i : Nat) (y : β), l[i]? = some x ∧ k[i]? = some y := by
  obtain ⟨i, hi⟩ := List.getElem?_of_mem hx
  obtain ⟨y, hy⟩ := pick h hi
  exact ⟨i, y, hi, hy⟩
section
variable {n : Nat} {M : Md} {R : Rm}
theorem Rel.cfg (h : Rel n M R) : (1 ≤ M.c.ring ∧ M.c.ring ≤ 64) ∧ (1 ≤ M.c.window ∧ M.c.window ≤ 200) ∧ (0 ≤ M.c.delay ∧ M.c.delay ≤ 1000000) ∧ (0 ≤ M.c.rate ∧ M.c.rate ≤ 100000) ∧ (0 ≤ M.c.burst ∧ M.c.burst ≤ 1000000) ∧ (1 ≤ M.c.retry ∧ M.c.retry ≤ 1000000) ∧ (0 ≤ M.c.tries ∧ M.c.tries ≤ 10) := of_decide_eq_true h.ok
theorem Rel.mono {m : Nat} (h : Rel n M R) (hm : n ≤ m) : Rel m M R :=
  ⟨h.c, h.ok, h.s, h.sl, h.s4, fun i s t a b => (h.sa i s t a b).mono hm, h.wl, h.w8, fun i x y a b => (h.wa i x y a b).mono hm, h.last, by have := h.lb; omega, h.ids, by have := h.now; omega, h.tok, fun c hc => by have := h.cnt c hc; omega⟩
theorem Rel.mok (h : Rel n M R) (hn : n ≤ 10000000) : MOk M := by
  have hc := h.cfg
  refine ⟨h.ok, by have := h.now; omega, h.tok, fun c hc => by have := h.cnt c hc; omega, h.w8, fun s hs => ?_, fun x hx => ?_⟩
  · obtain ⟨i, t, h1, h2⟩ := mem_pick h.sl hs
    have r := h.sa i s t h1 h2
    exact ⟨r.in16, r.n16, by have := r.lenM (by omega); omega⟩
  · obtain ⟨i, y, h1, h2⟩ := mem_pick h.wl hx
    have r := h.wa i x y h1 h2
    unfold WOk
    rw [r.pl]
    exact ⟨r.fb.1, r.fb.2, r.s16, by have := r.kl; omega⟩
theorem Rel.new (c : Cfg) (hc : cfgOk c = true) : Rel 0 (newM c) (rNew c) := by
  have h := of_decide_eq_true hc
  refine ⟨rfl, hc, rfl, rfl, by simp [newM], fun i s t a => by simp [newM] at a, rfl, by simp [newM], fun i x y a => by simp [newM] at a, rfl, by simp [newM], fun x hx => by simp [newM] at hx, by simp [newM], by simp [newM]; omega, fun c hc => by simp [newM] at hc; omega⟩
theorem Rel.spos (h : Rel n M R) (so : Int) : sndPos M so = rsPos R so := by
  have : M.sds.map (fun s => s.src) = R.sds.map (fun s => s.src) := by
    apply List.ext_getElem?
    intro i
    rw [List.getElem?_map, List.getElem?_map]
    cases hi : M.sds[i]? with
    | none =>
      have : R.sds[i]? = none := by rw [List.getElem?_eq_none_iff] at hi ⊢; rw [← h.sl]; exact hi
      rw [this]; rfl
    | some s =>
      obtain ⟨t, ht⟩ := pick h.sl hi
      rw [ht]
      simp [(h.sa i s t hi ht).src]
  have e1 : sndPos M so = (M.sds.map (fun s => s.src)).findIdx? (fun a => decide (a = so)) := by rw [List.findIdx?_map]; rfl
  have e2 : rsPos R so = (R.sds.map (fun s => s.src)).findIdx? (fun a => decide (a = so)) := by rw [List.findIdx?_map]; rfl
  rw [e1, e2, this]
theorem Rel.wmap (h : Rel n M R) : M.wns.map (fun x => (x.id, x.src, x.pl.second)) = R.wns.map (fun y => (y.id, y.pl.source, y.pl.second)) := by
  apply List.ext_getElem?
  intro i
  rw [List.getElem?_map, List.getElem?_map]
  cases hi : M.wns[i]? with
  | none =>
    have : R.wns[i]? = none := by rw [List.getElem?_eq_none_iff] at hi ⊢; rw [← h.wl]; exact hi
    rw [this]; rfl
  | some s =>
    obtain ⟨t, ht⟩ := pick h.wl hi
    have r := h.wa i s t hi ht
    rw [ht]
    simp [r.id, r.src, r.pl]
theorem Rel.wpos (h : Rel n M R) (id : Int) : wntPos M id = rwPos R id := by
  have e1 : wntPos M id = (M.wns.map (fun x => (x.id, x.src, x.pl.second))).findIdx? (fun a => decide (a.1 = id)) := by rw [List.findIdx?_map]; rfl
  have e2 : rwPos R id = (R.wns.map (fun y => (y.id, y.pl.source, y.pl.second))).findIdx? (fun a => decide (a.1 = id)) := by rw [List.findIdx?_map]; rfl
  rw [e1, e2, h.wmap]
theorem Rel.knows (h : Rel n M R) (so : Int) : knowsF M so = rKnown R so := by
  have e1 : (hasPos M so).isSome = (M.wns.map (fun x => (x.id, x.src, x.pl.second))).any (fun a => decide (a.2.1 = so) || decide (a.2.2 = so)) := by
    unfold hasPos
    rw [List.any_map, List.findIdx?_isSome]; rfl
  have e2 : R.wns.any (fun x => rHas x so) = (R.wns.map (fun y => (y.id, y.pl.source, y.pl.second))).any (fun a => decide (a.2.1 = so) || decide (a.2.2 = so)) := by rw [List.any_map]; rfl
  unfold knowsF rKnown
  rw [h.spos, e1, e2, h.wmap, Bool.or_comm]
theorem at_append {α : Type} {l : List α} {a x : α} {i : Nat} (h : (l ++ [a])[i]? = some x) : l[i]? = some x ∨ (i = l.length ∧ x = a) := by
  by_cases hi : i < l.length
  · rw [List.getElem?_append_left hi] at h
    exact .inl h
  · rw [List.getElem?_append_right (by omega)] at h
    have hlt := (List.getElem?_eq_some_iff.1 h).1
    simp only [List.length_singleton] at hlt
    rw [show i - l.length = 0 by omega] at h
    exact .inr ⟨by omega, by simpa using h.symm⟩
theorem Rel.addS (h : Rel n M R) (so : Int) : (addSM M so).2 = (rAddS R so).2 ∧ Rel n (addSM M so).1 (rAddS R so).1 := by
  unfold addSM rAddS
  rw [h.knows, h.sl]
  split
  · exact ⟨rfl, h⟩
  · split
    · exact ⟨rfl, h⟩
    · split
      · exact ⟨rfl, h⟩
      · rename_i e
        have h4 := h.sl
        refine ⟨rfl, h.c, h.ok, h.s, by simp [h.sl], by simp; omega, fun i s t a b => ?_, h.wl, h.w8, h.wa, h.last, h.lb, h.ids, h.now, h.tok, h.cnt⟩
        rcases at_append a with a | ⟨a1, a2⟩
        · rcases at_append b with b | ⟨b1, b2⟩
          · exact h.sa i s t a b
          · have := (List.getElem?_eq_some_iff.1 a).1
            omega
        · rcases at_append b with b | ⟨b1, b2⟩
          · have := (List.getElem?_eq_some_iff.1 b).1
            omega
          · subst a2 b2
            exact ⟨rfl, fun _ => ⟨rfl, rfl⟩, (fun e => by cases e), rfl, List.Pairwise.nil, (fun g hg => by cases hg), by simp, by simp only; omega⟩
theorem Rel.addW (h : Rel n M R) (of_ : Int) (p : Plan) : (addWM M of_ p).2 = (rAddW R of_ p).2 ∧ Rel (n + 1) (addWM M of_ p).1 (rAddW R of_ p).1 := by
  have h1 := h.mono (Nat.le_succ n)
  have hl := h.last
  have hb := h.lb
  unfold addWM rAddW
  rw [h.knows, h.knows, h.wl, h.spos, hl]
  split
  · exact ⟨rfl, h1⟩
  · split
    · exact ⟨rfl, h1⟩
    · rename_i hp
      split
      · exact ⟨rfl, h1⟩
      · split
        · exact ⟨rfl, h1⟩
        · rename_i e
          have h4 := h.wl
          have hpl : plOk p = true := by simpa using hp
          have hpo := of_decide_eq_true hpl
          refine ⟨rfl, h1.c, h1.ok, h1.s, h1.sl, h1.s4, h1.sa, by simp [h.wl], by simp; omega, fun i x y a b => ?_, rfl, by simp only; omega, fun x hx => ?_, h1.now, h1.tok, h1.cnt⟩
          · rcases at_append a with a | ⟨a1, a2⟩
            · rcases at_append b with b | ⟨b1, b2⟩
              · exact h1.wa i x y a b
              · have := (List.getElem?_eq_some_iff.1 a).1
                omega
            · rcases at_append b with b | ⟨b1, b2⟩
              · have := (List.getElem?_eq_some_iff.1 b).1
                omega
              · subst a2 b2
                exact ⟨rfl, rfl, rfl, rfl, by simp [newW, rNewW], (fun e => by cases e), by simp [newW], by simp [rNewW], hpo.2.2.2.2.1, by simp [newW], by simp [rNewW]⟩
          · rcases List.mem_append.1 hx with hx | hx
            · have := h.ids x hx; simp only; omega
            · simp at hx; subst hx; simp only [newW]; omega
end
def dropM (M : Md) (id : Int) : Md × Int :=
  match wntPos M id with
  | none => (M, 4)
  | some k => ({ M with wns := M.wns.eraseIdx k }, 0)
section
variable {n : Nat} {M : Md} {R : Rm}
theorem Rel.drop (h : Rel n M R) (id : Int) : (dropM M id).2 = (rDrop R id).2 ∧ Rel n (dropM M id).1 (rDrop R id).1 := by
  unfold dropM rDrop
  rw [h.wpos]
  cases hk : rwPos R id with
  | none => exact ⟨rfl, h⟩
  | some k =>
    have hwl := h.wl
    have hw8 := h.w8
    refine ⟨rfl, h.c, h.ok, h.s, h.sl, h.s4, h.sa, ?_, ?_, fun i x y a b => ?_, h.last, h.lb, fun x hx => h.ids x (List.mem_of_mem_eraseIdx hx), h.now, h.tok, h.cnt⟩
    · simp only [List.length_eraseIdx]
      rw [hwl]
    · simp only [List.length_eraseIdx]
      split <;> omega
    · simp only [List.getElem?_eraseIdx] at a b
      split at a
      · rename_i e
        rw [if_pos e] at b
        exact h.wa i x y a b
      · rename_i e
        rw [if_neg e] at b
        exact h.wa (i + 1) x y a b
/-- a packet goes to the wants -/
theorem Rel.passes (M : Md) (p : PP) (hn : 0 ≤ p.nu ∧ p.nu ≤ 65535) (ring : Nat) (hr : 1 ≤ ring) (cm cv : Value) (R : Rm) (hwl : M.wns.length = R.wns.length) (hwa : ∀ (i : Nat) (x : Wn) (y : Rw), M.wns[i]? = some x → R.wns[i]? = some y → WRel ring n x y) :
    ∀ (k : Nat) (R' : Rm) (out : List ByteArray), RPass p cv R k R' out → out = textsTo M p k ∧ R'.wns.length = M.wns.length ∧ ∀ (i : Nat) (x : Wn) (y : Rw), (passTo M p cm ring k).wns[i]? = some x → R'.wns[i]? = some y → WRel ring (n + 1) x y := by
  intro k R' out h
  induction h with
  | zero =>
    refine ⟨(textsTo_zero M p).symm, hwl.symm, fun i x y a b => ?_⟩
    obtain ⟨x0, hx0⟩ := pick hwl.symm b
    rw [passTo_at M p cm ring 0 i x0 hx0, if_neg (by omega), Option.some.injEq] at a
    subst a
    exact (hwa i x0 y hx0 b).mono (Nat.le_succ n)
  | @skip k R1 out1 y0 hp hy ho ih =>
    obtain ⟨i1, i2, i3⟩ := ih
    obtain ⟨x0, hx0⟩ := pick i2 hy
    have hr0 : R.wns[k]? = some y0 := by rw [← hp.rest k (Nat.le_refl _)]; exact hy
    have w0 := hwa k x0 y0 hx0 hr0
    refine ⟨by rw [textsTo_skip M p k x0 hx0 (by rw [w0.of_]; exact ho)]; exact i1, i2, fun i x y a b => i3 i x y ?_ b⟩
    obtain ⟨x1, hx1⟩ := pick i2 b
    rw [passTo_at M p cm ring _ i x1 hx1] at a ⊢
    rw [← a]
    congr 1
    by_cases e : i = k
    · subst e
      rw [hx0, Option.some.injEq] at hx1
      subst hx1
      rw [if_neg (by omega), if_neg (fun e => ho (by rw [← w0.of_]; exact e.2))]
    · by_cases e2 : i < k ∧ x1.of_ = p.so
      · rw [if_pos e2, if_pos ⟨by omega, e2.2⟩]
      · rw [if_neg e2, if_neg (fun e3 => e2 ⟨by omega, e3.2⟩)]
  | @pass k R1 out1 y0 av hp hy ho ih =>
    obtain ⟨i1, i2, i3⟩ := ih
    obtain ⟨x0, hx0⟩ := pick i2 hy
    have hr0 : R.wns[k]? = some y0 := by rw [← hp.rest k (Nat.le_refl _)]; exact hy
    have w0 := hwa k x0 y0 hx0 hr0
    refine ⟨by rw [textsTo_step M p k x0 hx0 (by rw [w0.of_]; exact ho), i1, w0.text p hn], by simp only [List.length_set]; exact i2, fun i x y a b => ?_⟩
    simp only [List.getElem?_set] at b
    by_cases e : k = i
    · subst e
      rw [if_pos rfl, if_pos (List.getElem?_eq_some_iff.1 hy).1, Option.some.injEq] at b
      subst b
      rw [passTo_at M p cm ring _ k x0 hx0, if_pos ⟨by omega, by rw [w0.of_]; exact ho⟩, Option.some.injEq] at a
      subst a
      exact w0.pass hr p hn cm cv av
    · rw [if_neg e] at b
      refine i3 i x y ?_ b
      obtain ⟨x1, hx1⟩ := pick i2 b
      rw [passTo_at M p cm ring _ i x1 hx1] at a ⊢
      rw [← a]
      congr 1
      by_cases e2 : i < k ∧ x1.of_ = p.so
      · rw [if_pos e2, if_pos ⟨by omega, e2.2⟩]
      · rw [if_neg e2, if_neg (fun e3 => e2 ⟨by omega, e3.2⟩)]
theorem at_set {α : Type} {l : List α} {k i : Nat} {a x : α} (hk : k < l.length) (h : (l.set k a)[i]? = some x) : (i = k ∧ x = a) ∨ (i ≠ k ∧ l[i]? = some x) := by
  rw [List.getElem?_set] at h
  by_cases e : k = i
  · rw [if_pos e, if_pos hk, Option.some.injEq] at h
    exact .inl ⟨e.symm, h.symm⟩
  · rw [if_neg e] at h
    exact .inr ⟨fun e' => e e'.symm, h⟩
/-- a sender turns on both sides; counters go on -/
theorem Rel.turn (h : Rel n M R) {i : Nat} {s s' : Sd} {t t' : Rs} (hs : M.sds[i]? = some s) (ht : R.sds[i]? = some t) (hr : SRel M.c.window.toNat (n + 1) s' t') (S : Stt) (h1 : S.now = M.s.now) (h2 : S.tokens = M.s.tokens) (h3 : ∀ c ∈ [S.passed, S.late, S.doubled, S.wrong, S.unknown, S.again, S.refused, S.asked, S.givenUp], 0 ≤ c ∧ c ≤ 10000 * (n + 1 : Nat)) : Rel (n + 1) { M with s := S, sds := M.sds.set i s' } { R with s := S, sds := R.sds.set i t' } := by
  have g := h.mono (Nat.le_succ n)
  refine ⟨g.c, g.ok, rfl, by simp [g.sl], by simp [g.s4], fun j x y a b => ?_, g.wl, g.w8, g.wa, g.last, g.lb, g.ids, by simp only; rw [h1]; exact g.now, by simp only; rw [h2]; exact g.tok, h3⟩
  rcases at_set (List.getElem?_eq_some_iff.1 hs).1 a with ⟨e1, e2⟩ | ⟨e1, e2⟩
  · rcases at_set (List.getElem?_eq_some_iff.1 ht).1 b with ⟨f1, f2⟩ | ⟨f1, f2⟩
    · subst e2 f2; exact hr
    · exact absurd e1 f1
  · rcases at_set (List.getElem?_eq_some_iff.1 ht).1 b with ⟨f1, f2⟩ | ⟨f1, f2⟩
    · exact absurd f1 e1
    · exact g.sa j x y e2 f2
theorem Rel.count (h : Rel n M R) (S : Stt) (h1 : S.now = M.s.now) (h2 : S.tokens = M.s.tokens) (h3 : ∀ c ∈ [S.passed, S.late, S.doubled, S.wrong, S.unknown, S.again, S.refused, S.asked, S.givenUp], 0 ≤ c ∧ c ≤ 10000 * (n + 1 : Nat)) : Rel (n + 1) { M with s := S } { R with s := S } := by
  have g := h.mono (Nat.le_succ n)
  exact ⟨g.c, g.ok, rfl, g.sl, g.s4, g.sa, g.wl, g.w8, g.wa, g.last, g.lb, g.ids, by simp only; rw [h1]; exact g.now, by simp only; rw [h2]; exact g.tok, h3⟩
/-- what is counted goes on by at most 5000 -/
theorem Rel.cnts (h : Rel n M R) (a b c d e f g i j : Int) (ha : M.s.passed ≤ a ∧ a ≤ M.s.passed + 5000) (hb : M.s.late ≤ b ∧ b ≤ M.s.late + 5000) (hc : M.s.doubled ≤ c ∧ c ≤ M.s.doubled + 5000) (hd : M.s.wrong ≤ d ∧ d ≤ M.s.wrong + 5000) (he : M.s.unknown ≤ e ∧ e ≤ M.s.unknown + 5000) (hf : M.s.again ≤ f ∧ f ≤ M.s.again + 5000) (hg : M.s.refused ≤ g ∧ g ≤ M.s.refused + 5000) (hi : M.s.asked ≤ i ∧ i ≤ M.s.asked + 5000) (hj : M.s.givenUp ≤ j ∧ j ≤ M.s.givenUp + 5000) : ∀ x ∈ [a, b, c, d, e, f, g, i, j], 0 ≤ x ∧ x ≤ 10000 * (n + 1 : Nat) := by
  have k := h.cnt
  simp only [List.mem_cons, List.not_mem_nil, or_false, forall_eq_or_imp, forall_eq] at k ⊢
  omega
end
end Rl
end Go.Proofs.YtdjhhnolcafkiaaGreat

/- Pure: Packet, on both sides. -/
namespace Go.Proofs.YtdjhhnolcafkiaaGreat
open Go.RowKit Pk
namespace Rl
section
variable {n : Nat} {M : Md} {R : Rm}
/-- what comes of a packet, on both sides -/
theorem Rel.comes (h : Rel n M R) {i : Nat} {s : Sd} {t : Rs} (hs : M.sds[i]? = some s) (ht : R.sds[i]? = some t) (nu : Int) (hn : 0 ≤ nu ∧ nu ≤ 65535) (gv : Value) :
    let T := takeF s nu.toNat M.s.now M.c.window.toNat
    let C := rComes R i t nu M.c.window.toNat gv
    (T.2.1 = 1 ∧ C.2 = false ∧ Rel (n + 1) { tookM M i s nu.toNat with s := { (tookM M i s nu.toNat).s with late := (tookM M i s nu.toNat).s.late + 1 } } C.1) ∨
    (T.2.1 = 2 ∧ C.2 = false ∧ Rel (n + 1) { tookM M i s nu.toNat with s := { (tookM M i s nu.toNat).s with doubled := (tookM M i s nu.toNat).s.doubled + 1 } } C.1) ∨
    (T.2.1 = 0 ∧ C.2 = true ∧ Rel (n + 1) { tookM M i s nu.toNat with s := { (tookM M i s nu.toNat).s with passed := (tookM M i s nu.toNat).s.passed + 1 } } { C.1 with s := { C.1.s with passed := C.1.s.passed + 1 } } ∧ C.1.wns = R.wns) := by
  intro T C
  have hr := h.sa i s t hs ht
  have hc := h.cfg
  have hS := h.s
  have hil : i < M.sds.length := (List.getElem?_eq_some_iff.1 hs).1
  have hil2 : i < R.sds.length := (List.getElem?_eq_some_iff.1 ht).1
  have hse : M.sds[i] = s := (List.getElem?_eq_some_iff.1 hs).2
  have hte : R.sds[i] = t := (List.getElem?_eq_some_iff.1 ht).2
  have eM : M.sds.set i s = M.sds := by rw [← hse]; exact List.set_getElem_self hil
  have eR : R.sds.set i t = R.sds := by rw [← hte]; exact List.set_getElem_self hil2
  obtain ⟨m, hm⟩ : ∃ m : Nat, nu.toNat = m := ⟨_, rfl⟩
  have hmn : (m : Int) = nu := by omega
  have hw : 1 ≤ M.c.window.toNat ∧ M.c.window.toNat ≤ 200 := by omega
  cases hb : s.begun with
  | false =>
    obtain ⟨n1, n2⟩ := hr.no hb
    have eT : T = ({ s with begun := true, newest := nu.toNat }, 0, 0) := by show takeF _ _ _ _ = _; unfold takeF; rw [if_pos hb]
    have eC : C = ({ R with sds := R.sds.set i ⟨t.src, 65536 + nu, t.gv, t.gaps⟩ }, true) := by show rComes _ _ _ _ _ _ = _; unfold rComes; rw [if_pos (by omega)]
    refine .inr (.inr ⟨by rw [eT], by rw [eC], ?_, by rw [eC]⟩)
    have eK : tookM M i s nu.toNat = { M with sds := M.sds.set i T.1, s := { M.s with givenUp := M.s.givenUp + (T.2.2 : Nat) } } := rfl
    rw [eK, eT, eC]
    simp only [Int.natCast_zero, Int.add_zero]
    rw [← hS]
    refine h.turn (s' := { s with begun := true, newest := nu.toNat }) (t' := ⟨t.src, 65536 + nu, t.gv, t.gaps⟩) hs ht ⟨hr.src, (fun e => by cases e), fun _ => ⟨by simp only; omega, by simp only; omega⟩, hr.gaps, hr.rise, ?_, by simp only; omega, by simp only; omega⟩ _ rfl rfl (h.cnts _ _ _ _ _ _ _ _ _ (by first | omega | (simp only; omega)) (by first | omega | (simp only; omega)) (by first | omega | (simp only; omega)) (by first | omega | (simp only; omega)) (by first | omega | (simp only; omega)) (by first | omega | (simp only; omega)) (by first | omega | (simp only; omega)) (by first | omega | (simp only; omega)) (by first | omega | (simp only; omega)))
    intro g hg
    simp only at hg
    rw [n2] at hg
    cases hg
  | true =>
    obtain ⟨y1, y2⟩ := hr.yes hb
    have hst : (stepsTo m s.newest : Int) = (nu - t.newest) % 65536 := by unfold stepsTo; rw [y1]; omega
    have hst2 : (stepsTo s.newest m : Int) = (t.newest - nu) % 65536 := by unfold stepsTo; rw [y1]; omega
    have eK : tookM M i s nu.toNat = { M with sds := M.sds.set i T.1, s := { M.s with givenUp := M.s.givenUp + (T.2.2 : Nat) } } := rfl
    by_cases ha : 1 ≤ stepsTo m s.newest ∧ stepsTo m s.newest ≤ 32767
    · have eT : T = (goOnF s m M.s.now M.c.window.toNat, 0, guN m M.c.window.toNat (gapsOn s m M.s.now M.c.window.toNat)) := by
        show takeF _ _ _ _ = _; unfold takeF; rw [hm, if_neg (by rw [hb]; decide), if_pos ha]
      have eC : C = (rAhead R i t ((nu - t.newest) % 65536).toNat M.c.window.toNat gv, true) := by
        show rComes _ _ _ _ _ _ = _; unfold rComes; rw [if_neg (by omega), if_pos (by omega)]
      obtain ⟨a1, a2, a3⟩ := ahead_eq hr hw hb M.s.now m (by omega) ((nu - t.newest) % 65536).toNat (by omega) (by omega) gv
      refine .inr (.inr ⟨by rw [eT], by rw [eC], ?_, by rw [eC]; rfl⟩)
      rw [eK, eT, eC, a2]
      unfold rAhead
      rw [← hS]
      simp only
      exact h.turn hs ht a1 _ rfl rfl (h.cnts _ _ _ _ _ _ _ _ _ (by first | omega | (simp only; omega)) (by first | omega | (simp only; omega)) (by first | omega | (simp only; omega)) (by first | omega | (simp only; omega)) (by first | omega | (simp only; omega)) (by first | omega | (simp only; omega)) (by first | omega | (simp only; omega)) (by first | omega | (simp only; omega)) (by first | omega | (simp only; omega)))
    · have eT : T = ((lookBackF s m M.c.window.toNat).1, (lookBackF s m M.c.window.toNat).2, 0) := by
        show takeF _ _ _ _ = _; unfold takeF; rw [hm, if_neg (by rw [hb]; decide), if_neg ha]
      by_cases hl : M.c.window.toNat ≤ stepsTo s.newest m
      · have eL : lookBackF s m M.c.window.toNat = (s, 1) := by unfold lookBackF; rw [if_pos hl]
        have eC : C = ({ R with s := { R.s with late := R.s.late + 1 } }, false) := by
          show rComes _ _ _ _ _ _ = _; unfold rComes; rw [if_neg (by omega), if_neg (by omega), if_pos (by omega)]
        rw [eL] at eT
        refine .inl ⟨by rw [eT], by rw [eC], ?_⟩
        rw [eK, eT, eC]
        simp only [Int.natCast_zero, Int.add_zero]
        rw [eM, ← hS]
        exact h.count _ rfl rfl (h.cnts _ _ _ _ _ _ _ _ _ (by first | omega | (simp only; omega)) (by first | omega | (simp only; omega)) (by first | omega | (simp only; omega)) (by first | omega | (simp only; omega)) (by first | omega | (simp only; omega)) (by first | omega | (simp only; omega)) (by first | omega | (simp only; omega)) (by first | omega | (simp only; omega)) (by first | omega | (simp only; omega)))
      · obtain ⟨b1, b2, b3⟩ := back_eq (n := n + 1) (hr.mono (Nat.le_succ n)) hw hb m (by omega) ((t.newest - nu) % 65536) (by rw [hmn]) (by omega) gv
        rw [hmn] at b1 b2 b3
        by_cases hp : 0 ≤ posF m (s.gaps.map Gp.n)
        · have eL : lookBackF s m M.c.window.toNat = ({ s with gaps := rmF Gp.n m s.gaps }, 0) := by unfold lookBackF; rw [if_neg hl, if_pos hp]
          have eC : C = ({ R with sds := R.sds.set i ⟨t.src, t.newest, gv, rLeft t nu⟩ }, true) := by
            show rComes _ _ _ _ _ _ = _; unfold rComes; rw [if_neg (by omega), if_neg (by omega), if_neg (by omega), if_neg (b2.1 hp)]
          rw [eL] at eT
          refine .inr (.inr ⟨by rw [eT], by rw [eC], ?_, by rw [eC]⟩)
          rw [eK, eT, eC]
          simp only [Int.natCast_zero, Int.add_zero]
          rw [← hS]
          exact h.turn hs ht b3 _ rfl rfl (h.cnts _ _ _ _ _ _ _ _ _ (by first | omega | (simp only; omega)) (by first | omega | (simp only; omega)) (by first | omega | (simp only; omega)) (by first | omega | (simp only; omega)) (by first | omega | (simp only; omega)) (by first | omega | (simp only; omega)) (by first | omega | (simp only; omega)) (by first | omega | (simp only; omega)) (by first | omega | (simp only; omega)))
        · have eL : lookBackF s m M.c.window.toNat = (s, 2) := by unfold lookBackF; rw [if_neg hl, if_neg hp]
          have eC : C = ({ R with s := { R.s with doubled := R.s.doubled + 1 } }, false) := by
            show rComes _ _ _ _ _ _ = _; unfold rComes; rw [if_neg (by omega), if_neg (by omega), if_neg (by omega), if_pos (Decidable.byContradiction fun e => hp (b2.2 e))]
          rw [eL] at eT
          refine .inr (.inl ⟨by rw [eT], by rw [eC], ?_⟩)
          rw [eK, eT, eC]
          simp only [Int.natCast_zero, Int.add_zero]
          rw [eM, ← hS]
          exact h.count _ rfl rfl (h.cnts _ _ _ _ _ _ _ _ _ (by first | omega | (simp only; omega)) (by first | omega | (simp only; omega)) (by first | omega | (simp only; omega)) (by first | omega | (simp only; omega)) (by first | omega | (simp only; omega)) (by first | omega | (simp only; omega)) (by first | omega | (simp only; omega)) (by first | omega | (simp only; omega)) (by first | omega | (simp only; omega)))
/-- Packet -/
theorem Rel.packet (h : Rel n M R) (tx : ByteArray) (cm : Value) (R' : Rm) (out : List ByteArray) (e : Int) (hk : RPk R tx M.c.window.toNat R' out e) : (packetM M tx cm).2.1 = out ∧ (packetM M tx cm).2.2 = e ∧ Rel (n + 1) (packetM M tx cm).1 R' := by
  unfold RPk at hk
  unfold packetM
  have hS := h.s
  cases hp : readP tx with
  | none =>
    rw [hp] at hk
    obtain ⟨k1, k2, k3⟩ := hk
    refine ⟨k2.symm, k3.symm, ?_⟩
    rw [k1]
    simp only
    rw [← hS]
    exact h.count _ rfl rfl (h.cnts _ _ _ _ _ _ _ _ _ (by first | omega | (simp only; omega)) (by first | omega | (simp only; omega)) (by first | omega | (simp only; omega)) (by first | omega | (simp only; omega)) (by first | omega | (simp only; omega)) (by first | omega | (simp only; omega)) (by first | omega | (simp only; omega)) (by first | omega | (simp only; omega)) (by first | omega | (simp only; omega)))
  | some p =>
    rw [hp] at hk
    simp only at hk ⊢
    rw [h.spos]
    cases hi : rsPos R p.so with
    | none =>
      rw [hi] at hk
      obtain ⟨k1, k2, k3⟩ := hk
      refine ⟨k2.symm, k3.symm, ?_⟩
      rw [k1]
      simp only
      rw [← hS]
      exact h.count _ rfl rfl (h.cnts _ _ _ _ _ _ _ _ _ (by first | omega | (simp only; omega)) (by first | omega | (simp only; omega)) (by first | omega | (simp only; omega)) (by first | omega | (simp only; omega)) (by first | omega | (simp only; omega)) (by first | omega | (simp only; omega)) (by first | omega | (simp only; omega)) (by first | omega | (simp only; omega)) (by first | omega | (simp only; omega)))
    | some i =>
      rw [hi] at hk
      simp only at hk ⊢
      cases ht : R.sds[i]? with
      | none => rw [ht] at hk; exact hk.elim
      | some t =>
        rw [ht] at hk
        obtain ⟨gv, hk⟩ := hk
        obtain ⟨s, hs⟩ := pick h.sl.symm ht
        rw [hs]
        simp only
        have hn := (read_facts tx p hp).1
        have hc := h.cfg
        rcases h.comes hs ht p.nu hn gv with ⟨c1, c2, c3⟩ | ⟨c1, c2, c3⟩ | ⟨c1, c2, c3, c4⟩
        · rw [if_pos c2] at hk
          obtain ⟨k1, k2, k3⟩ := hk
          rw [if_pos c1, k1]
          exact ⟨k2.symm, k3.symm, c3⟩
        · rw [if_pos c2] at hk
          obtain ⟨k1, k2, k3⟩ := hk
          rw [if_neg (by rw [c1]; decide), if_pos c1, k1]
          exact ⟨k2.symm, k3.symm, c3⟩
        · rw [if_neg (by rw [c2]; decide)] at hk
          obtain ⟨cv, hk, k3⟩ := hk
          rw [if_neg (by rw [c1]; decide), if_neg (by rw [c1]; decide)]
          obtain ⟨M1, hM1⟩ : ∃ M1, ({ tookM M i s p.nu.toNat with s := { (tookM M i s p.nu.toNat).s with passed := (tookM M i s p.nu.toNat).s.passed + 1 } } : Md) = M1 := ⟨_, rfl⟩
          obtain ⟨R1, hR1⟩ : ∃ R1, ({ (rComes R i t p.nu M.c.window.toNat gv).1 with s := { (rComes R i t p.nu M.c.window.toNat gv).1.s with passed := (rComes R i t p.nu M.c.window.toNat gv).1.s.passed + 1 } } : Rm) = R1 := ⟨_, rfl⟩
          have w1 : M1.wns = M.wns := by rw [← hM1]; rfl
          have w2 : M1.c = M.c := by rw [← hM1]; rfl
          have w3 : M1.last = M.last := by rw [← hM1]; rfl
          simp only at c3 hk ⊢
          rw [hM1] at c3 ⊢
          rw [hR1] at c3 hk
          have hwl := h.wl
          have g := c3
          have w4 : R1.wns = R.wns := by rw [← hR1]; exact c4
          have ew := h.wa
          rw [← w1, ← w4] at ew
          obtain ⟨p1, p2, p3⟩ := Rel.passes M1 p hn M.c.ring.toNat (by omega) cm cv R1 c3.wl ew _ _ _ hk
          obtain ⟨q1, q2, q3, q4, q5, q6⟩ := hk.keeps
          have et : textsTo M p M.wns.length = textsTo M1 p R.wns.length := by unfold textsTo; rw [w1, hwl]
          rw [et]
          rw [hwl]
          refine ⟨p1.symm, k3.symm, ?_⟩
          have eC : (passTo M1 p cm M.c.ring.toNat R.wns.length).c = M1.c := rfl
          have eS : (passTo M1 p cm M.c.ring.toNat R.wns.length).s = M1.s := rfl
          have eD : (passTo M1 p cm M.c.ring.toNat R.wns.length).sds = M1.sds := rfl
          have eL : (passTo M1 p cm M.c.ring.toNat R.wns.length).last = M1.last := rfl
          refine ⟨by rw [eC]; exact g.c.trans q1.symm, by rw [eC]; exact g.ok, by rw [eS]; exact g.s.trans q2.symm, by rw [eD, q3]; exact g.sl, by rw [eD]; exact g.s4, fun j x y a b => ?_, by rw [p2, passTo_len], by rw [passTo_len]; exact g.w8, by rw [eC, w2]; exact p3, by rw [eL]; exact g.last.trans q4.symm, by rw [eL]; exact g.lb, fun x hx => ?_, by rw [eS]; exact g.now, by rw [eS]; exact g.tok, by rw [eS]; exact g.cnt⟩
          · rw [eD] at a
            rw [q3] at b
            exact g.sa j x y a b
          · obtain ⟨j, hj⟩ := List.getElem?_of_mem hx
            have hjl := (List.getElem?_eq_some_iff.1 hj).1
            rw [passTo_len] at hjl
            obtain ⟨x0, hx0⟩ : ∃ x0, M1.wns[j]? = some x0 := ⟨_, List.getElem?_eq_getElem hjl⟩
            rw [passTo_at _ p cm _ _ j x0 hx0, Option.some.injEq] at hj
            have hx1 := c3.ids x0 (List.mem_of_getElem? hx0)
            rw [← hj, eL]
            split
            · exact hx1
            · exact hx1
end
end Rl
end Go.Proofs.YtdjhhnolcafkiaaGreat

/- The document's answer: TellPacket, where the first tests fail. -/
namespace Go.Proofs.YtdjhhnolcafkiaaGreat
open Go.RowKit Pk
namespace Pk
/-- the first tests of the document's TellPacket -/
def firstOk (ex : Bool) (ty nu ti so pr pa : Int) (n : Nat) (en : ByteArray) : Prop :=
  (0 ≤ ty ∧ ty ≤ 127) ∧ (0 ≤ nu ∧ nu ≤ 65535) ∧ (0 ≤ ti ∧ ti ≤ 4294967295) ∧ (0 ≤ so ∧ so ≤ 4294967295) ∧ (0 ≤ pr ∧ pr ≤ 65535) ∧ (0 ≤ pa ∧ pa ≤ 255) ∧ n ≤ 15 ∧ en.size % 4 = 0 ∧ (ex = false → pr = 0 ∧ en.size = 0)
theorem firstOk_of {ex : Bool} {ty nu ti so pr pa : Int} {cl : List Int} {en : ByteArray} (h : tellOk ex ty nu ti so pr pa cl en = true) : firstOk ex ty nu ti so pr pa cl.length en := by
  simp only [tellOk, Bool.and_eq_true, decide_eq_true_eq] at h
  obtain ⟨⟨hh, hx⟩, hp⟩ := h
  obtain ⟨h1, h2, h3, h4, h5, _⟩ := headOk_of hh
  refine ⟨h1, h2, h3, h4, extOk_pr hx, hp, h5, ?_, ?_⟩
  · cases ex
    · have := extOk_en hx rfl; omega
    · rw [extOk_yes, Bool.and_eq_true, decide_eq_true_eq, decide_eq_true_eq] at hx; exact hx.2
  · intro e
    subst e
    rw [extOk_no, Bool.and_eq_true, decide_eq_true_eq, decide_eq_true_eq] at hx; exact hx
theorem tellOk_of {ex : Bool} {ty nu ti so pr pa : Int} {cl : List Int} {en : ByteArray} (h : firstOk ex ty nu ti so pr pa cl.length en) (hc : allIn cl 4294967295 = true) : tellOk ex ty nu ti so pr pa cl en = true := by
  obtain ⟨h1, h2, h3, h4, h5, h6, h7, h8, h9⟩ := h
  simp only [tellOk, headOk, Bool.and_eq_true]
  refine ⟨⟨⟨⟨⟨⟨⟨decide_eq_true h1, decide_eq_true h2⟩, decide_eq_true h3⟩, decide_eq_true h4⟩, decide_eq_true h7⟩, hc⟩, ?_⟩, decide_eq_true h6⟩
  cases ex
  · rw [extOk_no, decide_eq_true (h9 rfl).1, decide_eq_true (h9 rfl).2]; rfl
  · rw [extOk_yes, decide_eq_true h5, decide_eq_true h8]; rfl
theorem tellR_no {mk ex : Bool} {ty nu ti so pr pa : Int} {cl : List Int} {en py : ByteArray} (h : tellOk ex ty nu ti so pr pa cl en = false) : tellR mk ex ty nu ti so pr pa cl en py = (⟨#[]⟩, 2) := by
  unfold tellR; rw [if_neg (by rw [h]; simp)]
end Pk

set_option maxRecDepth 100000 in
set_option maxHeartbeats 2000000 in
theorem refTell_first (mk ex : Bool) (ty nu ti so pr pa : Int) (ao : Option Addr) (n cap : Nat) (en py : ByteArray) (w : World) (hn : n ≤ 17592186044416)
    (hen : en.size ≤ maxLen) (hno : ¬ firstOk ex ty nu ti so pr pa n en) :
    Calls Tryz.prog 45 #[.agg #[.bool mk, .int .i64 ty, .int .i64 nu, .int .i64 ti, .int .i64 so, .slice ao n cap, .bool ex, .int .i64 pr, .string en, .string py, .int .i64 pa]] w
      fun e w' => e = .returned (.tuple #[.string ⟨#[]⟩, .int .i64 2]) ∧ Below w.heap.size w w' := by
  unfold maxLen at hen
  have Hno := Pk.hid hno
  clear hno
  cases ex
  · go_enter Tryz.func45, Tryz.ntmps45
    go_wp2_with (go_at_call 36; refine (refIn_any _ _ _).mono ?_; rintro e w' ⟨rfl, rfl⟩)
    all_goals first
      | (go_ret2; exact ⟨rfl, (Below.refl _ _).alloc (Nat.le_refl _) _⟩)
      | (exfalso; refine Hno.out ⟨by assumption, by assumption, by assumption, by assumption, by assumption, by assumption, by omega, by omega, fun _ => ⟨by assumption, ?_⟩⟩; have h : en.toList.isEmpty = true := by (first | assumption | simp_all)
         rw [isEmpty_size] at h; exact of_decide_eq_true h)
  · go_enter Tryz.func45, Tryz.ntmps45
    go_wp2_with (go_at_call 36; refine (refIn_any _ _ _).mono ?_; rintro e w' ⟨rfl, rfl⟩)
    all_goals first
      | (go_ret2; exact ⟨rfl, (Below.refl _ _).alloc (Nat.le_refl _) _⟩)
      | (exfalso; exact Hno.out ⟨by assumption, by assumption, by assumption, by assumption, by assumption, by assumption, by omega, by omega, fun h => by cases h⟩)

end Go.Proofs.YtdjhhnolcafkiaaGreat

/- The document's answer: TellPacket, what its end wants. -/
namespace Go.Proofs.YtdjhhnolcafkiaaGreat
open Go.RowKit Pk

theorem refTold_int (k : Nat) (x : Int) (w : World) (hk : k ≤ 8) (h0 : 0 ≤ x) (h1 : x < 9223372036854775808) :
    Calls Tryz.prog 70 #[.int .i64 x, .int .i64 k] w fun e w' => (∃ t : ByteArray, e = .returned (.string t) ∧ t.data.toList = told x.toNat k ∧ t.size = k) ∧ Below w.heap.size w w' := by
  obtain ⟨q, rfl⟩ := Int.eq_ofNat_of_zero_le h0
  rw [Int.toNat_natCast]
  refine (refTold_any k q w hk (by omega)).mono ?_
  rintro e w' ⟨⟨t, rfl, ht⟩, hb⟩
  exact ⟨⟨t, rfl, ht, by rw [Lib.size_eq, ht, told_length]⟩, hb⟩

theorem tell_done {mk ex : Bool} {ty nu ti so pr pa : Int} {cl : List Int} {en py : ByteArray} (s : ByteArray) (hok : tellOk ex ty nu ti so pr pa cl en = true) (h : s.data.toList = tellB mk ex ty nu ti so pr pa cl en py) :
    tellR mk ex ty nu ti so pr pa cl en py = if 1500 < s.size then (⟨#[]⟩, 1) else (s, 0) := by
  have hp : 0 ≤ pa := by simp only [tellOk, Bool.and_eq_true, decide_eq_true_eq] at hok; exact hok.2.1
  have hl := tellB_length mk ex ty nu ti so pr pa cl en py hp
  have hsz : s.size = (tellB mk ex ty nu ti so pr pa cl en py).length := by rw [Lib.size_eq, h]
  unfold tellR
  rw [if_pos hok]
  by_cases hL : 1500 < s.size
  · rw [if_pos hL, if_pos (by omega)]
  · rw [if_neg hL, if_neg (by omega)]
    congr 1
    apply ba_ext
    rw [h]

theorem told_one (x : Nat) (h : x < 256) : told x 1 = [UInt8.ofNat x] := by
  simp only [told, List.nil_append]
  rw [Nat.mod_eq_of_lt h]
theorem heads (n : Nat) (mk pd ex : Bool) (ty : Nat) (hn : n ≤ 15) (hty : ty ≤ 127) :
    told (128 + n + (if pd then 32 else 0) + if ex then 16 else 0) 1 ++ told (ty + if mk then 128 else 0) 1 = [hdB n pd ex, tyB ty mk] := by
  rw [told_one _ (by cases pd <;> cases ex <;> simp <;> omega), told_one _ (by cases mk <;> simp <;> omega)]
  rfl
theorem tells {mk ex : Bool} {ty nu ti so pr pa : Int} {cl : List Int} {en py : ByteArray} (h : firstOk ex ty nu ti so pr pa cl.length en) (hd sec : Int) (X D : List UInt8)
    (h1 : hd = 128 + cl.length + (if ex then 16 else 0) + if 0 < pa then 32 else 0) (h2 : sec = ty + if mk then 128 else 0) (hX : X = extB ex pr.toNat en.data.toList) (hD : D = padB pa.toNat) :
    told hd.toNat 1 ++ told sec.toNat 1 ++ told nu.toNat 2 ++ told ti.toNat 4 ++ told so.toNat 4 ++ (conB cl ++ X ++ py.data.toList ++ D) = tellB mk ex ty nu ti so pr pa cl en py := by
  obtain ⟨a1, a2, a3, a4, a5, a6, a7, a8, a9⟩ := h
  have hh := heads cl.length mk (decide (0 < pa)) ex ty.toNat a7 (by omega)
  have e1 : hd.toNat = 128 + cl.length + (if decide (0 < pa) = true then 32 else 0) + if ex then 16 else 0 := by
    rw [h1]
    by_cases hp : 0 < pa <;> cases ex <;> simp [hp] <;> omega
  have e2 : sec.toNat = ty.toNat + if mk then 128 else 0 := by
    rw [h2]
    cases mk <;> simp <;> omega
  rw [e1, e2, hh, hX, hD]
  unfold tellB headB
  simp only [List.append_assoc]

theorem refNoughts_int (x : Int) (w : World) (h0 : 0 ≤ x) (h1 : x ≤ 255) :
    Calls Tryz.prog 71 #[.int .i64 x] w fun e w' => (∃ t : ByteArray, e = .returned (.string t) ∧ t.data.toList = List.replicate x.toNat 0 ∧ t.size ≤ 255) ∧ w' = w := by
  obtain ⟨q, rfl⟩ := Int.eq_ofNat_of_zero_le h0
  rw [Int.toNat_natCast]
  refine (refNoughts_any q w (by omega)).mono ?_
  rintro e w' ⟨⟨t, rfl, ht⟩, hb⟩
  exact ⟨⟨t, rfl, ht, by rw [Lib.size_eq, ht, List.length_replicate]; omega⟩, hb⟩

end Go.Proofs.YtdjhhnolcafkiaaGreat

/- The book takes a list of texts. -/
namespace Go.Proofs.YtdjhhnolcafkiaaGreat
open Go.RowKit
namespace Pk

/-- a list of texts that is full of one mark -/
def MkT (W : World) (base : Nat) (v : Value) (n : Nat) (m : ByteArray) : Prop := W.ownsRow base 9 1 v n (List.replicate n (.string m))
theorem MkT.shape {W : World} {base n : Nat} {v : Value} {m : ByteArray} (h : MkT W base v n m) : ∃ a c, v = .slice a n c := rowA_shape h
theorem MkT.mkN {W : World} {base n : Nat} {v : Value} {m : ByteArray} (h : MkT W base v n m) : MkN W base 9 v n [.string m] := by
  unfold MkN
  rw [rep_one]
  exact h

theorem takenT {ρ : Nat → Nat} {w wr w3 w4 w5 : World} {g n : Nat} {tv tk nv nk av ak v v1 v2 v3 v4 v5 : Value} {TL TM NL NM AL AM : List Value} {nx : Int} {m : ByteArray}
    (_hB : BkN wr g ρ tv tk nv nk av ak TL TM NL NM AL AM nx) (hB3 : BkN w3 g ρ tv tk nv nk av ak TL TM NL NM AL AM nx) (hi : ∀ b, w.heap.size ≤ b → ρ b = 0) (hgw : g < w.heap.size) (hww : w.heap.size ≤ wr.heap.size) (hw3 : wr.heap.size ≤ w3.heap.size) (hv : ∀ b, v.ownBlock = some b → ρ b = 0)
    (C0 : MkT w3 (g + 1) v n m) (C1 : MkT w3 (g + 1) v1 (n + 1) m) (C2 : MkT w3 (g + 1) v2 (n + 2) m) (C3 : MkT w3 (g + 1) v3 (n + 3) m) (hn : n ≤ 9000)
    (D1 : v1.ownBlock = v.ownBlock ∨ ∀ b, v1.ownBlock = some b → wr.heap.size ≤ b) (D2 : v2.ownBlock = v.ownBlock ∨ ∀ b, v2.ownBlock = some b → wr.heap.size ≤ b) (D3 : v3.ownBlock = v.ownBlock ∨ ∀ b, v3.ownBlock = some b → wr.heap.size ≤ b)
    (H4 : w4.ownsRow (g + 1) 32 1 v4 (TL.length + 4) (TL ++ [v, v1, v2, v3])) (X4 : Chg (fun b => tv.ownBlock = some b) w3 w4) (D4 : v4.ownBlock = tv.ownBlock ∨ ∀ b, v4.ownBlock = some b → w3.heap.size ≤ b)
    (H5 : w5.ownsRow (g + 1) 9 1 v5 (TM.length + 4) (TM ++ [.string m, .string m, .string m, .string m])) (X5 : Chg (fun b => tk.ownBlock = some b) (w4.setCell ⟨g, 0, none⟩ v4) w5)
    (D5 : v5.ownBlock = tk.ownBlock ∨ ∀ b, v5.ownBlock = some b → w4.heap.size ≤ b) :
    BkN (w5.setCell ⟨g, 1, none⟩ v5) g (roleOf w ρ 2 3 v4 v5 v v1 v2 v3) v4 v5 nv nk av ak (TL ++ [v, v1, v2, v3]) (TM ++ [.string m, .string m, .string m, .string m]) NL NM AL AM nx ∧
      (∀ b, b < w.heap.size → ρ b ≠ 0 → roleOf w ρ 2 3 v4 v5 v v1 v2 v3 b = ρ b) ∧ (∀ b, b < w.heap.size → v.ownBlock ≠ some b → ρ b = 0 → roleOf w ρ 2 3 v4 v5 v v1 v2 v3 b = 0) := by
  have h1g := (hB3.rg g).2 rfl
  have hng : ¬ tv.ownBlock = some g := fun e => by have := (hB3.tp.rl.lt g e).1; omega
  have hmg : ¬ tk.ownBlock = some g := fun e => by have := (hB3.tp.rk.lt g e).1; omega
  have X1 : Chg (fun b => tv.ownBlock = some b ∨ ρ b = 1) w3 (w4.setCell ⟨g, 0, none⟩ v4) := (X4.mono (fun _ _ e => .inl e)).setCell ⟨g, 0, none⟩ (.inl (.inr h1g)) _
  have X2 : Chg (fun b => tk.ownBlock = some b ∨ ρ b = 1) (w4.setCell ⟨g, 0, none⟩ v4) (w5.setCell ⟨g, 1, none⟩ v5) := (X5.mono (fun _ _ e => .inl e)).setCell ⟨g, 1, none⟩ (.inl (.inr h1g)) _
  have H1 : (w4.setCell ⟨g, 0, none⟩ v4).ownsRow (g + 1) 32 1 v4 (TL.length + 4) (TL ++ [v, v1, v2, v3]) := ownsRow_setCell_below H4 (Nat.lt_succ_self g) _
  have H2 : (w5.setCell ⟨g, 1, none⟩ v5).ownsRow (g + 1) 9 1 v5 (TM.length + 4) (TM ++ [.string m, .string m, .string m, .string m]) := ownsRow_setCell_below H5 (Nat.lt_succ_self g) _
  have D2' : v5.ownBlock = tk.ownBlock ∨ ∀ b, v5.ownBlock = some b → (w4.setCell ⟨g, 0, none⟩ v4).heap.size ≤ b := D5.imp id (fun h b hb => by simpa using h b hb)
  have up : ∀ (u : Value), (u.ownBlock = v.ownBlock ∨ ∀ b, u.ownBlock = some b → wr.heap.size ≤ b) → (u.ownBlock = v.ownBlock ∨ ∀ b, u.ownBlock = some b → w.heap.size ≤ b) := fun u h => h.imp id (fun h b hb => Nat.le_trans hww (h b hb))
  obtain ⟨f1, f2, f3, f4, f5, f6, f7⟩ := role_facts (m := .string m) hB3.tp (Nat.le_trans hww hw3) hi (by decide) (by decide) H1 X1.size D4 H2 X2.size D2' C0.mkN C1.mkN C2.mkN C3.mkN hv (up v1 D1) (up v2 D2) (up v3 D3) hB3.rg hgw
  have q : ∀ r s, r ≠ 1 → r ≠ s → ∀ (x : Value), (∀ b, x.ownBlock = some b → ρ b = s) → ∀ b, (x.ownBlock = some b ∨ ρ b = 1) → ρ b ≠ r := fun r s h1 h2 x hx b hb e => by
    rcases hb with hb | hb
    · exact h2 (e.symm.trans (hx b hb))
    · exact h1 (e.symm.trans hb)
  have q1 : ∀ r, r ≠ 1 → r ≠ 2 → ∀ b, (tv.ownBlock = some b ∨ ρ b = 1) → ρ b ≠ r := fun r a b => q r 2 a b tv hB3.tp.fl
  have q2 : ∀ r, r ≠ 1 → r ≠ 3 → ∀ b, (tk.ownBlock = some b ∨ ρ b = 1) → ρ b ≠ r := fun r a b => q r 3 a b tk hB3.tp.fm
  have hsz : w3.heap.size ≤ (w5.setCell ⟨g, 1, none⟩ v5).heap.size := Nat.le_trans X1.size X2.size
  have keep : ∀ b, b < (w5.setCell ⟨g, 1, none⟩ v5).heap.size → ρ b ≠ 0 → roleOf w ρ 2 3 v4 v5 v v1 v2 v3 b = ρ b := fun b _ hne => f2 b (by
    rcases Nat.lt_or_ge b w3.heap.size with h | h
    · exact h
    · exact absurd (hB3.hi b h) hne) hne
  have own : ∀ o u, o ≠ 0 → o ≠ 1 → w3.cell? ⟨g, o, none⟩ = some u → (w5.setCell ⟨g, 1, none⟩ v5).cell? ⟨g, o, none⟩ = some u := fun o u h2 h3 h4 => by
    rw [World.cell?_setCell_other _ ⟨g, 1, none⟩ ⟨g, o, none⟩ _ (fun e => h3 (by injection e with _ e2 _; exact e2.symm))]
    refine X5.cell ?_ hmg
    rw [World.cell?_setCell_other _ ⟨g, 0, none⟩ ⟨g, o, none⟩ _ (fun e => h2 (by injection e with _ e2 _; exact e2.symm))]
    exact X4.cell h4 hng
  have c3 : (w4.setCell ⟨g, 0, none⟩ v4).cell? ⟨g, 1, none⟩ = some tk := (World.cell?_setCell_other _ ⟨g, 0, none⟩ ⟨g, 1, none⟩ _ (by simp)).trans (X4.cell hB3.c1 hng)
  refine ⟨⟨?_, World.cell?_setCell_same _ _ _ (X5.cell c3 hmg), own 2 _ (by omega) (by omega) hB3.c2, own 3 _ (by omega) (by omega) hB3.c3, own 4 _ (by omega) (by omega) hB3.c4, own 5 _ (by omega) (by omega) hB3.c5, own 6 _ (by omega) (by omega) hB3.c6, ?_, f5, f6, ?_, ?_, ?_⟩, ?_, f7⟩
  · rw [World.cell?_setCell_other _ ⟨g, 1, none⟩ ⟨g, 0, none⟩ _ (by simp)]
    exact X5.cell (World.cell?_setCell_same _ _ _ (X4.cell hB3.c0 hng)) hmg
  · intro o
    rw [World.frozen?_setCell, X5.frozen (p := ⟨g, o, none⟩) (by have := hB3.lt; have := X4.size; simp; omega) hmg, World.frozen?_setCell, X4.frozen (p := ⟨g, o, none⟩) hB3.lt hng]
    exact hB3.fz o
  · exact hB3.tp.taken (by decide) (by decide) (by decide) (by decide) (by decide) H1 X1 D4 H2 X2 D2' (by decide) (by decide) (fun b hb => by rw [(hB3.rg b).1 hb]; exact hB3.lt) C0.mkN C1.mkN C2.mkN C3.mkN (by omega) f1 f2 f3 f4
  · exact ((hB3.np.chg X1 (q1 4 (by decide) (by decide)) (q1 5 (by decide) (by decide)) (q1 8 (by decide) (by decide))).chg X2 (q2 4 (by decide) (by decide)) (q2 5 (by decide) (by decide)) (q2 8 (by decide) (by decide))).roles keep (by decide) (by decide)
  · exact ((hB3.ap.chg X1 (q1 6 (by decide) (by decide)) (q1 7 (by decide) (by decide)) (q1 8 (by decide) (by decide))).chg X2 (q2 6 (by decide) (by decide)) (q2 7 (by decide) (by decide)) (q2 8 (by decide) (by decide))).roles keep (by decide) (by decide)
  · exact fun b hb hne => f2 b (by omega) hne

theorem MkT.ofN {W : World} {base n : Nat} {v : Value} {m : ByteArray} (h : MkN W base 9 v n [.string m]) : MkT W base v n m := by
  unfold MkN at h
  rw [rep_one] at h
  exact h

theorem wpList_append_marksT {ops : Array Oper} {rest : List Oper} {o : Oper} {a : Act} {w : World} {Q : Exit → Act → World → Prop} (hgd : o.guard = none) (s x : Operand)
    (ho : o.op = .call { callee := .builtin .append, args := #[s, x], argTypes := #[32, 32] })
    (base : Nat) (i : TypeInfo) (hi : Tryz.prog.info? 9 = some i ∧ i.zero = some (.string ⟨#[]⟩) ∧ i.size = 1 ∧ i.bytes = 16)
    (v : Value) (n j : Nat) (m : ByteArray) (hs : a.eval s = v) (hown : MkT w base v n m) (ad : Addr) (c : Nat) (hx : a.eval x = .slice (some ad) j c) (hnews : ∀ k u, (List.replicate j (Value.string m))[k]? = some u → w.cell? (ad.add k) = some u)
    (hn : n + j ≤ 10000) (hbase : base ≤ w.heap.size)
    (h : ∀ v' w', MkT w' base v' (n + j) m → (∀ u k, k ≤ n + j → MkT w base u k m → MkT w' base u k m) → w.grownBy w' v.ownBlock → (v'.ownBlock = v.ownBlock ∨ v'.ownBlock = some w.heap.size) → wpList Tryz.prog ops Q rest (a.put o.dst v') w') :
    wpList Tryz.prog ops Q (o :: rest) a w := by
  refine wpList_plain hgd fun K hK => ?_
  obtain ⟨v', w', hr, h2, h3, h4, h5⟩ := append_like w base 32 9 o.type Tryz.underlying32 i (.string ⟨#[]⟩) 16 hi.1 hi.2.1 [.string m] hi.2.2.1 hi.2.2.2 (by decide) rfl Nat.one_pos (by intro u hu; simp at hu; subst hu; rfl) v n j hown.mkN ad c (by rw [rep_one]; exact hnews) hn hbase
  unfold Oper.wp execOp
  simp only [ho, resolve, invoke, builtin, Sem.run_bind, Sem.run_pure, Result.andThen_ok, List.map_toArray, List.map_cons, List.map_nil, hs, hx, hr]
  exact hK _ _ (h v' w' (MkT.ofN h2) (fun u k hk hu => MkT.ofN (h3 u k hk hu.mkN)) h4 h5)

end Pk
open Pk

set_option maxRecDepth 20000 in
set_option maxHeartbeats 4000000 in
theorem ownsT_any (g : Nat) (ρ : Nat → Nat) (tv tk nv nk av ak : Value) (TL TM NL NM AL AM : List Value) (nx : Int) (v : Value) (l : List ByteArray) (w : World) (hB : BkN w g ρ tv tk nv nk av ak TL TM NL NM AL AM nx) (hown : w.ownsRow (g + 1) 9 1 v l.length (l.map Value.string)) (hf : ∀ b, v.ownBlock = some b → ρ b = 0)
    (hl : l.length ≤ 6400) (hN : TL.length ≤ 1000000000) (hx0 : 0 ≤ nx) (hx1 : nx ≤ 1000000000) :
    Calls Tryz.prog 77 #[.pointer (some ⟨g, 0, none⟩), v] w fun e w' => e = .returned (.tuple #[]) ∧ ∃ (ρ' : Nat → Nat) (tv' tk' : Value) (TL' : List Value) (m : ByteArray), TL'.length = 4 ∧
      BkN w' g ρ' tv' tk' nv nk av ak (TL ++ TL') (TM ++ [.string m, .string m, .string m, .string m]) NL NM AL AM (nx + 1) ∧ (∀ b, b < w.heap.size → ρ b ≠ 0 → ρ' b = ρ b) ∧ (∀ b, b < w.heap.size → v.ownBlock ≠ some b → ρ b = 0 → ρ' b = 0) ∧
      Chg (fun b => b = g ∨ tv.ownBlock = some b ∨ tk.ownBlock = some b ∨ v.ownBlock = some b) w w' := by
  have hinfo : (Tryz.prog.info? 9).map (fun i => (i.zero, i.size, i.bytes)) = some (some (.string ⟨#[]⟩), 1, 16) := by kernel_rfl
  obtain ⟨i0, hi, hz0, hz1, hz2⟩ := info_parts hinfo
  have Hi : Hid (Tryz.prog.info? 9 = some i0 ∧ i0.zero = some (.string ⟨#[]⟩) ∧ i0.size = 1 ∧ i0.bytes = 16) := ⟨hi, hz0, hz1, hz2⟩
  have hinfo2 : (Tryz.prog.info? 32).map (fun i => (i.zero, i.size, i.bytes)) = some (some (.slice none 0 0), 1, 24) := by kernel_rfl
  obtain ⟨i2, hj, hy0, hy1, hy2⟩ := info_parts hinfo2
  have Hj : Hid (Tryz.prog.info? 32 = some i2 ∧ i2.zero = some (.slice none 0 0) ∧ i2.size = 1 ∧ i2.bytes = 24) := ⟨hj, hy0, hy1, hy2⟩
  clear hi hz0 hz1 hz2 hinfo hj hy0 hy1 hy2 hinfo2
  obtain ⟨n, hnl⟩ : ∃ n, l.length = n := ⟨_, rfl⟩
  obtain ⟨ao, cap, hv⟩ := rowA_shape hown
  have hrow0 : w.ownsRow (g + 1) 9 1 v l.length (l.map Value.string) := hown
  rw [hnl] at hv hl hrow0
  subst hv
  have Hrow0 := Pk.hid hrow0
  clear hrow0 hnl hown
  obtain ⟨an, cn, rfl⟩ := row_shape hB.tp.rl
  obtain ⟨am, cm, rfl⟩ := row_shape hB.tp.rk
  have HB := Pk.hid hB
  have Hhi : Hid (∀ b, w.heap.size ≤ b → ρ b = 0) := hB.hi
  have Hgw : Hid (g < w.heap.size) := hB.lt
  have c6 := hB.c6
  have fz := hB.fz
  have hxw : IntKind.i64.wrap (nx + 1) = nx + 1 := i64_id _ (by omega) (by omega)
  have HB6 : Hid (BkN (w.setCell ⟨g, 6, none⟩ (.int .i64 (nx + 1))) g ρ (.slice an TL.length cn) (.slice am TM.length cm) nv nk av ak TL TM NL NM AL AM (nx + 1)) := hB.set6 _
  have HX6 : Hid (Chg (fun b => b = g ∨ (Value.slice an TL.length cn).ownBlock = some b ∨ (Value.slice am TM.length cm).ownBlock = some b ∨ (Value.slice ao n cap).ownBlock = some b) w (w.setCell ⟨g, 6, none⟩ (.int .i64 (nx + 1)))) := (Chg.refl _ _).setCell _ (.inl (.inl rfl)) _
  have HR6 : Hid ((w.setCell ⟨g, 6, none⟩ (.int .i64 (nx + 1))).ownsRow (g + 1) 9 1 (.slice ao n cap) n (l.map Value.string)) := ownsRow_setCell_below Hrow0.out (Nat.lt_succ_self g) _
  have c66 := HB6.out.c6
  clear hB
  go_enter Tryz.func77, Tryz.ntmps77
  go_wp2_with fail
  refine (refTold_int 4 (nx + 1) _ (by omega) (by omega) (by omega)).mono ?_
  rintro e w6 ⟨⟨tt, rfl, -, hts⟩, hb6⟩
  have hs1 : (ByteArray.mk #[35]).size = 1 := rfl
  have HB0 : Hid (BkN w6 g ρ (.slice an TL.length cn) (.slice am TM.length cm) nv nk av ak TL TM NL NM AL AM (nx + 1)) := HB6.out.chg (T := fun _ => False) (Chg.ofBelow hb6) (fun _ e => e.elim)
  have HX0 : Hid (Chg (fun b => b = g ∨ (Value.slice an TL.length cn).ownBlock = some b ∨ (Value.slice am TM.length cm).ownBlock = some b ∨ (Value.slice ao n cap).ownBlock = some b) w w6) := HX6.out.trans (T' := fun _ => False) (Chg.ofBelow hb6) (fun _ _ e => e.elim)
  have HR0 : Hid (w6.ownsRow (g + 1) 9 1 (.slice ao n cap) n (l.map Value.string)) := rowA_chg (T := fun _ => False) (Chg.ofBelow hb6) HR6.out (fun _ _ e => e)
  clear hb6 HB6 HX6 HR6 c66 c6 fz HB Hrow0
  go_wp2
  obtain ⟨m, hm⟩ : ∃ m : ByteArray, ByteArray.mk #[35] ++ tt = m := ⟨_, rfl⟩
  rw [hm]
  clear hm hts hs1
  go_loopw [5] (fun i wr => ∃ (k : Nat) (ys : List Value), k ≤ n ∧ i = .int .i64 k ∧ wr.ownsRow (g + 1) 9 1 (.slice ao n cap) n ys ∧ (∀ j, j < k → ys[j]? = some (.string m)) ∧ BkN wr g ρ (.slice an TL.length cn) (.slice am TM.length cm) nv nk av ak TL TM NL NM AL AM (nx + 1) ∧ Chg (fun b => b = g ∨ (Value.slice an TL.length cn).ownBlock = some b ∨ (Value.slice am TM.length cm).ownBlock = some b ∨ (Value.slice ao n cap).ownBlock = some b) w wr) (fun i _ => n - (intOf i).toNat)
  case atStart => exact ⟨0, l.map Value.string, Nat.zero_le _, rfl, HR0.out, fun j hj => by omega, HB0.out, HX0.out⟩
  case round =>
    obtain ⟨k, ys, hk, rfl, hrow, hys, hBk, hchg⟩ := hrel
    by_cases hlt : k < n
    · obtain ⟨gl, hao⟩ : ∃ gl, ao = some ⟨gl, 0, none⟩ := by
        rcases hrow.2 with ⟨_, h0⟩ | ⟨gl, _, _, e, _⟩
        · omega
        · simp only [Value.slice.injEq] at e
          exact ⟨gl, e.1⟩
      subst hao
      have hyl : ys.length = n := by have := hrow.1; omega
      obtain ⟨y, hy⟩ : ∃ y, ys[k]? = some y := ⟨_, List.getElem?_eq_getElem (by omega)⟩
      have hcell : wr.cell? ⟨gl, k, none⟩ = some y := (hrow.cellAt k (by omega)).trans hy
      have hfr : ∀ j, wr.frozen? ⟨gl, j, none⟩ = false := fun j => hrow.frozenAt j
      have hlt' : (k : Int) < n := by omega
      have Hst : Hid (_ ∧ _) := hrow.stored k (.string m)
      have Hys := Pk.hid hys
      have HBk := Pk.hid hBk
      have hgl : gl ≠ g := by have := (hrow.lt gl rfl).1; omega
      have Hgl : Hid (ρ gl = 0) := hf gl rfl
      clear hrow hys hBk hf
      go_wp2
      go_roundw
      case rel =>
        refine ⟨k + 1, ys.set k (.string m), by omega, by go_num, Hst.out.1, ?_, HBk.out.chg (T := fun b => b = gl) ⟨rfl, rfl, rfl, by simp, fun x _ hn => heap_setCell_other _ _ x _ (fun e => hn e)⟩ (fun b hb => by rw [hb]; exact Hgl.out), hchg.setCell ⟨gl, k, none⟩ (.inl (.inr (.inr (.inr rfl)))) _⟩
        intro j hj
        by_cases hjk : j = k
        · subst hjk
          rw [List.getElem?_set_self (by omega)]
        · rw [List.getElem?_set_ne (by omega)]
          exact Hys.out j (by omega)
      case measure => simp [intOf]; omega
    · have hkl : k = n := by omega
      have hM : MkT wr (g + 1) (.slice ao n cap) n m := by
        have e : ys = List.replicate n (.string m) := by
          apply List.ext_getElem?
          intro j
          by_cases hj : j < n
          · rw [hys j (by omega)]; simp [hj]
          · rw [List.getElem?_eq_none (by have := hrow.1; omega), List.getElem?_eq_none (by simp; omega)]
        rw [e] at hrow
        exact hrow
      have HM := Pk.hid hM
      have HBk := Pk.hid hBk
      have Hchg := Pk.hid hchg
      have hlt' : ¬ (k : Int) < n := by omega
      have hglt := hBk.lt
      clear hM hBk hchg hrow hys
      have HV := Pk.hid hf
      clear hf hlt HB0 HR0 HX0
      go_wp2_with (at_builtin; (
        refine wpList_append_marksT rfl (.tmp 32) (.tmp 34) rfl (g + 1) i0 Hi.out (.slice ao n cap) n 1 m rfl (World.ownsRow.alloc HM.out _) _ 1 rfl (cells_new _ [.string m] _) (by omega) (by simp; omega) ?_
        intro v1 w1 h1 k1 g1 b1
        refine stop_here ?_))
      obtain ⟨a1, p1, rfl⟩ := h1.shape
      have A1 := Pk.hid h1
      have A0 : Hid (MkT w1 (g + 1) (.slice ao n cap) n m) := k1 _ _ (by omega) (World.ownsRow.alloc HM.out _)
      have X1 : Hid (Chg (fun b => (Value.slice ao n cap).ownBlock = some b) wr w1) := ((Chg.refl _ _).alloc _).trans (Chg.ofGrown g1) (fun _ _ e => e)
      have D1 : Hid ((Value.slice a1 (n + 1) p1).ownBlock = (Value.slice ao n cap).ownBlock ∨ ∀ b, (Value.slice a1 (n + 1) p1).ownBlock = some b → wr.heap.size ≤ b) := b1.imp id (fun e b hb => by rw [e] at hb; simp at hb; omega)
      have s1 : g + 1 ≤ w1.heap.size := Nat.le_trans (Nat.succ_le_of_lt hglt) X1.out.size
      clear h1 k1 g1 b1
      refine hid_in ?_
      go_wp2_with (at_builtin; (
        refine wpList_append_marksT rfl (.tmp 36) (.tmp 39) rfl (g + 1) i0 Hi.out (.slice ao n cap) n 2 m rfl (World.ownsRow.alloc A0.out _) _ 2 rfl (cells_new _ [.string m, .string m] _) (by omega) (by simp; omega) ?_
        intro v2 w2 h2 k2 g2 b2
        refine stop_here ?_))
      obtain ⟨a2, p2, rfl⟩ := h2.shape
      have B2 := Pk.hid h2
      have B1 : Hid (MkT w2 (g + 1) (.slice a1 (n + 1) p1) (n + 1) m) := k2 _ _ (by omega) (World.ownsRow.alloc A1.out _)
      have B0 : Hid (MkT w2 (g + 1) (.slice ao n cap) n m) := k2 _ _ (by omega) (World.ownsRow.alloc A0.out _)
      have X2 : Hid (Chg (fun b => (Value.slice ao n cap).ownBlock = some b) wr w2) := (X1.out.alloc _).trans (Chg.ofGrown g2) (fun _ _ e => e)
      have D2 : Hid ((Value.slice a2 (n + 2) p2).ownBlock = (Value.slice ao n cap).ownBlock ∨ ∀ b, (Value.slice a2 (n + 2) p2).ownBlock = some b → wr.heap.size ≤ b) := b2.imp id (fun e b hb => by rw [e] at hb; have := X1.out.size; simp at hb; omega)
      have s2 : g + 1 ≤ w2.heap.size := Nat.le_trans (Nat.succ_le_of_lt hglt) X2.out.size
      clear h2 k2 g2 b2 A0 A1 X1
      refine hid_in ?_
      go_wp2_with (at_builtin; (
        refine wpList_append_marksT rfl (.tmp 41) (.tmp 45) rfl (g + 1) i0 Hi.out (.slice ao n cap) n 3 m rfl (World.ownsRow.alloc B0.out _) _ 3 rfl (cells_new _ [.string m, .string m, .string m] _) (by omega) (by simp; omega) ?_
        intro v3 w3 h3 k3 g3 b3
        refine stop_here ?_))
      obtain ⟨a3, p3, rfl⟩ := h3.shape
      have C3 := Pk.hid h3
      have C2 : Hid (MkT w3 (g + 1) (.slice a2 (n + 2) p2) (n + 2) m) := k3 _ _ (by omega) (World.ownsRow.alloc B2.out _)
      have C1 : Hid (MkT w3 (g + 1) (.slice a1 (n + 1) p1) (n + 1) m) := k3 _ _ (by omega) (World.ownsRow.alloc B1.out _)
      have C0 : Hid (MkT w3 (g + 1) (.slice ao n cap) n m) := k3 _ _ (by omega) (World.ownsRow.alloc B0.out _)
      have X3 : Hid (Chg (fun b => (Value.slice ao n cap).ownBlock = some b) wr w3) := (X2.out.alloc _).trans (Chg.ofGrown g3) (fun _ _ e => e)
      have D3 : Hid ((Value.slice a3 (n + 3) p3).ownBlock = (Value.slice ao n cap).ownBlock ∨ ∀ b, (Value.slice a3 (n + 3) p3).ownBlock = some b → wr.heap.size ≤ b) := b3.imp id (fun e b hb => by rw [e] at hb; have := X2.out.size; simp at hb; omega)
      have s3 : g + 1 ≤ w3.heap.size := Nat.le_trans (Nat.succ_le_of_lt hglt) X3.out.size
      have BK3 : Hid (BkN w3 g ρ (.slice an TL.length cn) (.slice am TM.length cm) nv nk av ak TL TM NL NM AL AM (nx + 1)) := HBk.out.chg X3.out HV.out
      have c2 := BK3.out.c0
      clear h3 k3 g3 b3 B0 B1 B2 X2
      refine hid_in ?_
      go_wp2_with (at_builtin; (
        refine wpList_append_own_at _ rfl (.tmp 51) (.tmp 56) 31 rfl (g + 1) 32 i2 (.slice none 0 0) 1 24 Tryz.underlying31 Hj.out.1 Hj.out.2.1 Hj.out.2.2.1 Hj.out.2.2.2 rfl (by decide) (.slice an TL.length cn) TL.length TL rfl (World.ownsRow.alloc BK3.out.tp.rl _) _ 4 4 [.slice ao n cap, .slice a1 (n + 1) p1, .slice a2 (n + 2) p2, .slice a3 (n + 3) p3] rfl rfl (cells_new _ [.slice ao n cap, .slice a1 (n + 1) p1, .slice a2 (n + 2) p2, .slice a3 (n + 3) p3] _) ?_ ?_ ?_ ?_ ?_
        · intro u hu
          simp only [List.mem_cons, List.not_mem_nil, or_false] at hu
          rcases hu with rfl | rfl | rfl | rfl <;> rfl
        · unfold maxLen; omega
        · omega
        · simp; omega
        intro v4 w4 h4 g4 _ b4
        refine stop_here ?_))
      obtain ⟨a4, p4, rfl⟩ := row_shape h4
      have H4 := Pk.hid h4
      have X4 : Hid (Chg (fun b => (Value.slice an TL.length cn).ownBlock = some b) w3 w4) := ((Chg.refl _ _).alloc _).trans (Chg.ofGrown g4) (fun _ _ e => e)
      have D4 : Hid ((Value.slice a4 (TL.length + 4) p4).ownBlock = (Value.slice an TL.length cn).ownBlock ∨ ∀ b, (Value.slice a4 (TL.length + 4) p4).ownBlock = some b → w3.heap.size ≤ b) := b4.imp id (fun e b hb => by rw [e] at hb; simp at hb; omega)
      have hng : ¬ (Value.slice an TL.length cn).ownBlock = some g := fun e => by have := (BK3.out.tp.rl.lt g e).1; omega
      have d2 := X4.out.cell BK3.out.c0 hng
      have d3 := X4.out.cell BK3.out.c1 hng
      have f4 : ∀ o, w4.frozen? ⟨g, o, none⟩ = false := fun o => (X4.out.frozen (p := ⟨g, o, none⟩) (show g < w3.heap.size by omega) hng).trans (BK3.out.fz o)
      have s4 : g + 1 ≤ w4.heap.size := Nat.le_trans s3 X4.out.size
      have RM : Hid ((w4.setCell ⟨g, 0, none⟩ (.slice a4 (TL.length + 4) p4)).ownsRow (g + 1) 9 1 (.slice am TM.length cm) TM.length TM) := ownsRow_setCell_below (X4.out.row BK3.out.tp.rk (fun x hx e => by have a := BK3.out.tp.fm x hx; have b := BK3.out.tp.fl x e; omega)) (Nat.lt_succ_self g) _
      have hML : TM.length ≤ 1000000000 := by rw [← BK3.out.tp.len]; exact hN
      clear h4 g4 b4 hng c2
      refine hid_in ?_
      go_wp2_with (at_builtin; (
        refine wpList_append_own_at _ rfl (.tmp 64) (.tmp 69) 32 rfl (g + 1) 9 i0 (.string ⟨#[]⟩) 1 16 Tryz.underlying32 Hi.out.1 Hi.out.2.1 Hi.out.2.2.1 Hi.out.2.2.2 rfl (by decide) (.slice am TM.length cm) TM.length TM rfl (World.ownsRow.alloc RM.out _) _ 4 4 [.string m, .string m, .string m, .string m] rfl rfl (cells_newAt _ [.string m, .string m, .string m, .string m] _ _ (by simp)) ?_ ?_ ?_ ?_ ?_
        · intro u hu; simp at hu; subst hu; rfl
        · unfold maxLen; omega
        · omega
        · simp; omega
        intro v5 w5 h5 g5 _ b5
        refine stop_here ?_))
      obtain ⟨a5, p5, rfl⟩ := row_shape h5
      have H5 := Pk.hid h5
      have X5 : Hid (Chg (fun b => (Value.slice am TM.length cm).ownBlock = some b) (w4.setCell ⟨g, 0, none⟩ (.slice a4 (TL.length + 4) p4)) w5) := ((Chg.refl _ _).alloc _).trans (Chg.ofGrown g5) (fun _ _ e => e)
      have D5 : Hid ((Value.slice a5 (TM.length + 4) p5).ownBlock = (Value.slice am TM.length cm).ownBlock ∨ ∀ b, (Value.slice a5 (TM.length + 4) p5).ownBlock = some b → w4.heap.size ≤ b) := b5.imp id (fun e b hb => by rw [e] at hb; simp at hb; omega)
      have hmg : ¬ (Value.slice am TM.length cm).ownBlock = some g := fun e => by have := (BK3.out.tp.rk.lt g e).1; omega
      have e3 := X5.out.cell (p := ⟨g, 1, none⟩) ((World.cell?_setCell_other _ ⟨g, 0, none⟩ ⟨g, 1, none⟩ _ (by simp)).trans d3) hmg
      have f5 : ∀ o, w5.frozen? ⟨g, o, none⟩ = false := fun o => (X5.out.frozen (p := ⟨g, o, none⟩) (by simp; omega) hmg).trans ((World.frozen?_setCell _ _ _ _).trans (f4 o))
      clear h5 g5 b5 hmg
      refine hid_in ?_
      go_wp2
      obtain ⟨z1, z2, z3⟩ := takenT HBk.out BK3.out Hhi.out Hgw.out Hchg.out.size X3.out.size HV.out C0.out C1.out C2.out C3.out (by omega) D1.out D2.out D3.out H4.out X4.out D4.out H5.out X5.out D5.out
      refine bodyPost_end (v := .tuple #[]) (by simp [results, Tryz.results77, go_sem]) rfl ⟨rfl, _, .slice a4 (TL.length + 4) p4, .slice a5 (TM.length + 4) p5, [.slice ao n cap, .slice a1 (n + 1) p1, .slice a2 (n + 2) p2, .slice a3 (n + 3) p3], m, rfl, ?_, z2, z3, ?_⟩
      · exact z1
      · refine (((Hchg.out.trans X3.out ?_).trans X4.out ?_).setCell ⟨g, 0, none⟩ (.inl (.inl rfl)) _ |>.trans X5.out ?_).setCell ⟨g, 1, none⟩ (.inl (.inl rfl)) _
        · exact fun _ _ e => .inr (.inr (.inr e))
        · exact fun _ _ e => .inr (.inl e)
        · exact fun _ _ e => .inr (.inr (.inl e))

end Go.Proofs.YtdjhhnolcafkiaaGreat

/- Two pairs of menders and a book in memory. -/
namespace Go.Proofs.YtdjhhnolcafkiaaGreat
open Go.RowKit Pk
namespace Rl
/-- a book of at most n takings -/
def Bk1 (W : World) (g : Nat) (ρ : Nat → Nat) (n : Nat) : Prop :=
  ∃ (tv tk nv nk av ak : Value) (TL NL AL : List Value) (TS : List ByteArray) (NS AS : List Int) (nx : Int), BkN W g ρ tv tk nv nk av ak TL (TS.map Value.string) NL (NS.map (Value.int .i64)) AL (AS.map (Value.int .i64)) nx ∧ TL.length ≤ 20 * n ∧ NL.length ≤ 20 * n ∧ AL.length ≤ 20 * n ∧ 0 ≤ nx ∧ nx ≤ 20 * n
theorem Bk1.mono {W : World} {g : Nat} {ρ : Nat → Nat} {n m : Nat} (h : Bk1 W g ρ n) (hm : n ≤ m) : Bk1 W g ρ m := by
  obtain ⟨tv, tk, nv, nk, av, ak, TL, NL, AL, TS, NS, AS, nx, h1, h2, h3, h4, h5, h6⟩ := h
  exact ⟨tv, tk, nv, nk, av, ak, TL, NL, AL, TS, NS, AS, nx, h1, by omega, by omega, by omega, h5, by omega⟩
theorem Bk1.chg {W W' : World} {g : Nat} {ρ : Nat → Nat} {n : Nat} {T : Nat → Prop} (h : Bk1 W g ρ n) (hc : Chg T W W') (hT : ∀ b, T b → ρ b = 0) : Bk1 W' g ρ n := by
  obtain ⟨tv, tk, nv, nk, av, ak, TL, NL, AL, TS, NS, AS, nx, h1, h2⟩ := h
  exact ⟨tv, tk, nv, nk, av, ak, TL, NL, AL, TS, NS, AS, nx, h1.chg hc hT, h2⟩
def upd {α : Type} (M : Nat → α) (k : Nat) (x : α) (j : Nat) : α := if j = k then x else M j
theorem upd_at {α : Type} (M : Nat → α) (k : Nat) (x : α) : upd M k x k = x := if_pos rfl
theorem upd_no {α : Type} (M : Nat → α) (k : Nat) (x : α) {j : Nat} (h : j ≠ k) : upd M k x j = M j := if_neg h
theorem upd_same {α : Type} (M : Nat → α) (k : Nat) : upd M k (M k) = M := by
  funext j
  unfold upd
  split
  · rename_i e; rw [e]
  · rfl
/-- K pairs, pair k in the block pb k, and a book in the block g; roles: F 0 the book's, F (1 + 2 k) the program's mender's, F (2 + 2 k) the document's -/
structure Sta (W : World) (F : Nat → Nat → Nat) (K : Nat) (pb mb rb : Nat → Nat) (M : Nat → Md) (R : Nat → Rm) (g n : Nat) : Prop where
  pc : ∀ k, k < K → W.cell? ⟨pb k, 0, none⟩ = some (ptr (mb k)) ∧ W.cell? ⟨pb k, 1, none⟩ = some (ptr (rb k)) ∧ ∀ j, F j (pb k) = 0
  md : ∀ k, k < K → ∃ sv wv SB WB, MdAt W (F (1 + 2 * k)) (mb k) (M k) sv wv SB WB
  rd : ∀ k, k < K → ∃ sv wv, RdAt W (F (2 + 2 * k)) (rb k) (R k) sv wv
  bk : Bk1 W g (F 0) n
  dis : ∀ i j b, F i b ≠ 0 → F j b ≠ 0 → i = j
  hi : ∀ i b, W.heap.size ≤ b → F i b = 0
/-- what a call leaves -/
def SMv (w : World) (F : Nat → Nat → Nat) (W : World) (F' : Nat → Nat → Nat) : Prop := (∀ b, b < w.heap.size → (∀ i, F i b = 0) → ∀ i, F' i b = 0) ∧ Chg (fun b => ∃ i, F i b ≠ 0) w W
theorem SMv.trans {w W V : World} {F F' F2 : Nat → Nat → Nat} (h : SMv w F W F') (k : SMv W F' V F2) : SMv w F V F2 :=
  ⟨fun b hb e => k.1 b (Nat.lt_of_lt_of_le hb h.2.size) (h.1 b hb e), h.2.trans k.2 (fun b hb e => Classical.byContradiction fun e0 => by
    obtain ⟨i, hi⟩ := e
    exact hi (h.1 b hb (fun j => Classical.byContradiction fun ej => e0 ⟨j, ej⟩) i))⟩
theorem SMv.below {w W : World} {F : Nat → Nat → Nat} (h : Below w.heap.size w W) : SMv w F W F := ⟨fun _ _ e => e, Chg.ofBelow h⟩
theorem SMv.cell {w W : World} {F F' : Nat → Nat → Nat} (h : SMv w F W F') {a : Addr} {u : Value} (hc : w.cell? a = some u) (hf : ∀ i, F i a.block = 0) : W.cell? a = some u := h.2.cell hc (fun ⟨i, hi⟩ => hi (hf i))
section
variable {W W' : World} {F : Nat → Nat → Nat} {K : Nat} {pb mb rb : Nat → Nat} {M : Nat → Md} {R : Nat → Rm} {g n : Nat}
theorem Sta.mono {m : Nat} (h : Sta W F K pb mb rb M R g n) (hm : n ≤ m) : Sta W F K pb mb rb M R g m := ⟨h.pc, h.md, h.rd, h.bk.mono hm, h.dis, h.hi⟩
/-- what is nobody's turns -/
theorem Sta.chg {T : Nat → Prop} (h : Sta W F K pb mb rb M R g n) (hc : Chg T W W') (hT : ∀ b, T b → (∀ j, F j b = 0) ∧ ∀ k, k < K → b ≠ pb k) : Sta W' F K pb mb rb M R g n := by
  refine ⟨fun k hk => ?_, fun k hk => ?_, fun k hk => ?_, h.bk.chg hc (fun b hb => (hT b hb).1 0), h.dis, fun i b hb => h.hi i b (Nat.le_trans hc.size hb)⟩
  · obtain ⟨a1, a2, a3⟩ := h.pc k hk
    have hp : ¬ T (pb k) := fun e => (hT _ e).2 k hk rfl
    exact ⟨hc.cell a1 hp, hc.cell a2 hp, a3⟩
  · obtain ⟨sv, wv, SB, WB, a⟩ := h.md k hk
    exact ⟨sv, wv, SB, WB, a.chg hc (fun b hb => (hT b hb).1 _)⟩
  · obtain ⟨sv, wv, a⟩ := h.rd k hk
    exact ⟨sv, wv, a.chg hc (fun b hb => (hT b hb).1 _)⟩
theorem Sta.below (h : Sta W F K pb mb rb M R g n) (hb : Below W.heap.size W W') : Sta W' F K pb mb rb M R g n := h.chg (T := fun _ => False) (Chg.ofBelow hb) (fun _ e => e.elim)
/-- one of them turns -/
theorem Sta.turn {M' : Nat → Md} {R' : Nat → Rm} {m : Nat} (h : Sta W F K pb mb rb M R g n) (i : Nat) (ρ : Nat → Nat) (X : Nat → Prop) (hA : ∀ b, b < W.heap.size → ρ b ≠ 0 → F i b ≠ 0 ∨ X b) (hB : Chg (fun b => F i b ≠ 0 ∨ X b) W W') (hX : ∀ b, X b → (∀ j, F j b = 0) ∧ ∀ k, k < K → b ≠ pb k) (hC : ∀ b, W'.heap.size ≤ b → ρ b = 0)
    (hm : ∀ k, k < K → (i = 1 + 2 * k ∧ ∃ sv wv SB WB, MdAt W' ρ (mb k) (M' k) sv wv SB WB) ∨ (i ≠ 1 + 2 * k ∧ M' k = M k))
    (hr : ∀ k, k < K → (i = 2 + 2 * k ∧ ∃ sv wv, RdAt W' ρ (rb k) (R' k) sv wv) ∨ (i ≠ 2 + 2 * k ∧ R' k = R k))
    (hb : (i = 0 ∧ Bk1 W' g ρ m) ∨ (i ≠ 0 ∧ n ≤ m)) : Sta W' (upd F i ρ) K pb mb rb M' R' g m := by
  have nT : ∀ j, j ≠ i → ∀ b, (F i b ≠ 0 ∨ X b) → F j b = 0 := fun j hj b hb => by
    rcases hb with e | e
    · exact Decidable.byContradiction (fun e2 => hj (h.dis j i b e2 e))
    · exact (hX b e).1 j
  refine ⟨fun k hk => ?_, fun k hk => ?_, fun k hk => ?_, ?_, ?_, ?_⟩
  · obtain ⟨a1, a2, a3⟩ := h.pc k hk
    have hp : ¬ (F i (pb k) ≠ 0 ∨ X (pb k)) := fun e => by
      rcases e with e | e
      · exact e (a3 i)
      · exact (hX _ e).2 k hk rfl
    refine ⟨hB.cell a1 hp, hB.cell a2 hp, fun j => ?_⟩
    unfold upd
    split
    · exact Decidable.byContradiction (fun e => hp (hA _ (lt_of_cell a1) e))
    · exact a3 j
  · rcases hm k hk with ⟨e, sv, wv, SB, WB, a⟩ | ⟨e, e2⟩
    · rw [← e, upd_at]
      exact ⟨sv, wv, SB, WB, a⟩
    · obtain ⟨sv, wv, SB, WB, a⟩ := h.md k hk
      rw [upd_no _ _ _ (fun e' => e e'.symm), e2]
      exact ⟨sv, wv, SB, WB, a.chg hB (nT _ (fun e' => e e'.symm))⟩
  · rcases hr k hk with ⟨e, sv, wv, a⟩ | ⟨e, e2⟩
    · rw [← e, upd_at]
      exact ⟨sv, wv, a⟩
    · obtain ⟨sv, wv, a⟩ := h.rd k hk
      rw [upd_no _ _ _ (fun e' => e e'.symm), e2]
      exact ⟨sv, wv, a.chg hB (nT _ (fun e' => e e'.symm))⟩
  · rcases hb with ⟨e, a⟩ | ⟨e, a⟩
    · rw [e, upd_at]
      exact a
    · rw [upd_no _ _ _ (fun e' => e e'.symm)]
      exact (h.bk.chg hB (nT _ (fun e' => e e'.symm))).mono a
  · intro a c b ea ec
    have key : ∀ a, a ≠ i → F a b ≠ 0 → ρ b = 0 := fun a ha e => Decidable.byContradiction fun e2 => by
      by_cases hl : b < W.heap.size
      · exact e (nT a ha b (hA b hl e2))
      · exact e (h.hi a b (by omega))
    unfold upd at ea ec
    split at ea
    · split at ec
      · omega
      · rename_i h1 h2
        exact absurd (key c h2 ec) ea
    · split at ec
      · rename_i h1 h2
        exact absurd (key a h1 ea) ec
      · exact h.dis a c b ea ec
  · intro j b hb
    unfold upd
    split
    · exact hC b hb
    · exact h.hi j b (Nat.le_trans hB.size hb)
/-- a program's mender turns -/
theorem Sta.turnM {k : Nat} {ρ : Nat → Nat} {M1 : Md} {sv wv : Value} {SB WB : List (Nat × Value)} (h : Sta W F K pb mb rb M R g n) (hk : k < K) (h1 : MdAt W' ρ (mb k) M1 sv wv SB WB) (h2 : ∀ b, b < W.heap.size → F (1 + 2 * k) b = 0 → ρ b = 0) (h3 : Chg (fun b => F (1 + 2 * k) b ≠ 0) W W') :
    ∃ F', Sta W' F' K pb mb rb (upd M k M1) R g n ∧ SMv W F W' F' ∧ (∀ b, (∀ i, F i b = 0) → W.heap.size ≤ b → ρ b = 0 → ∀ i, F' i b = 0) := by
  refine ⟨upd F (1 + 2 * k) ρ, h.turn (1 + 2 * k) ρ (fun _ => False) (fun b hb e => .inl (fun e0 => e (h2 b hb e0))) (h3.mono (fun _ _ e => .inl e)) (fun _ e => e.elim) h1.hi (fun j hj => ?_) (fun j hj => .inr ⟨by omega, rfl⟩) (.inr ⟨by omega, Nat.le_refl _⟩), ⟨fun b hb e i => ?_, h3.mono (fun b _ e => ⟨_, e⟩)⟩, fun b e _ e2 i => ?_⟩
  · by_cases e : j = k
    · subst e
      exact .inl ⟨rfl, sv, wv, SB, WB, by rw [upd_at]; exact h1⟩
    · exact .inr ⟨by omega, upd_no _ _ _ e⟩
  · unfold upd
    split
    · exact h2 b hb (e _)
    · exact e i
  · unfold upd
    split
    · exact e2
    · exact e i
/-- a document's mender turns -/
theorem Sta.turnR {k : Nat} {ρ : Nat → Nat} {R1 : Rm} {sv wv : Value} (h : Sta W F K pb mb rb M R g n) (hk : k < K) (h1 : RdAt W' ρ (rb k) R1 sv wv) (h2 : RMv W (F (2 + 2 * k)) W' ρ) :
    ∃ F', Sta W' F' K pb mb rb M (upd R k R1) g n ∧ SMv W F W' F' ∧ (∀ b, (∀ i, F i b = 0) → W.heap.size ≤ b → ρ b = 0 → ∀ i, F' i b = 0) := by
  refine ⟨upd F (2 + 2 * k) ρ, h.turn (2 + 2 * k) ρ (fun _ => False) (fun b hb e => .inl (fun e0 => e (h2.1 b hb e0))) (h2.2.mono (fun _ _ e => .inl e)) (fun _ e => e.elim) h1.hi (fun j hj => .inr ⟨by omega, rfl⟩) (fun j hj => ?_) (.inr ⟨by omega, Nat.le_refl _⟩), ⟨fun b hb e i => ?_, h2.2.mono (fun b _ e => ⟨_, e⟩)⟩, fun b e _ e2 i => ?_⟩
  · by_cases e : j = k
    · subst e
      exact .inl ⟨rfl, sv, wv, by rw [upd_at]; exact h1⟩
    · exact .inr ⟨by omega, upd_no _ _ _ e⟩
  · unfold upd
    split
    · exact h2.1 b hb (e _)
    · exact e i
  · unfold upd
    split
    · exact e2
    · exact e i
/-- the book turns -/
theorem Sta.turnB {ρ : Nat → Nat} {m : Nat} (h : Sta W F K pb mb rb M R g n) (v : Value) (h1 : Bk1 W' g ρ m) (hh : ∀ b, W'.heap.size ≤ b → ρ b = 0) (hv : ∀ b, v.ownBlock = some b → (∀ j, F j b = 0) ∧ ∀ k, k < K → b ≠ pb k) (h2 : ∀ b, b < W.heap.size → v.ownBlock ≠ some b → F 0 b = 0 → ρ b = 0) (h3 : Chg (fun b => F 0 b ≠ 0 ∨ v.ownBlock = some b) W W') :
    Sta W' (upd F 0 ρ) K pb mb rb M R g m :=
  h.turn 0 ρ (fun b => v.ownBlock = some b) (fun b hb e => Decidable.byContradiction fun e0 => e (h2 b hb (fun e1 => e0 (.inr e1)) (Decidable.byContradiction fun e1 => e0 (.inl e1)))) h3 hv hh (fun j hj => .inr ⟨by omega, rfl⟩) (fun j hj => .inr ⟨by omega, rfl⟩) (.inl ⟨rfl, h1⟩)
end
end Rl
end Go.Proofs.YtdjhhnolcafkiaaGreat

/- slices.Delete[[]*flow.Want]: elements of one cell. -/
namespace Go.Proofs.YtdjhhnolcafkiaaGreat
open Go.RowKit
namespace Pk
theorem zeroWp (w : World) : (zeroValue 95).run Tryz.prog w = .ok (.pointer none) w := by kernel_rfl
theorem infoWp : (Tryz.prog.info? 95).map (fun i => (i.zero, i.size, i.bytes)) = some (some (.pointer none), 1, 8) := by kernel_rfl

theorem wp_append_shiftW {w : World} {o : Oper} {a : Act} {K : Act → World → Prop} {Q : Exit → Act → World → Prop} (s x : Operand)
    (ho : o.op = .call { callee := .builtin .append, args := #[s, x], argTypes := #[85, 85] }) (g i cap : Nat) (hs : a.eval s = .slice (some ⟨g, 0, none⟩) i cap) (ad : Addr) (m c : Nat) (news : List Value)
    (hx : a.eval x = .slice (some ad) m c) (hl : news.length = m) (hnews : ∀ j u, news[j]? = some u → w.cell? (ad.add j) = some u) (h1 : ∀ u ∈ news, u.oneCell' = true) (hroom : i + m ≤ cap)
    (hc : ∀ j, j < news.length → (w.cell? ⟨g, 0 + i + j, none⟩).isSome = true) (hf : ∀ j, j < news.length → w.frozen? ⟨g, 0 + i + j, none⟩ = false)
    (h : K (a.put o.dst (.slice (some ⟨g, 0, none⟩) (i + m) cap)) (w.setCells g (0 + i) news)) : o.wp Tryz.prog a w K Q := by
  obtain ⟨i0, hi, hz0, hz1, hz2⟩ := info_parts infoWp
  have hr := run_append_room_cells (P := Tryz.prog) (w := w) 85 o.type 95 i0 Tryz.underlying85 hi g 0 i cap ad m c news (by rw [hz1, Nat.mul_one]; exact hl) hnews h1 hroom (by rw [hz1, Nat.mul_one]; exact hc) (by rw [hz1, Nat.mul_one]; exact hf)
  rw [hz1, Nat.mul_one] at hr
  unfold Oper.wp execOp
  simp only [ho, resolve, invoke, builtin, Sem.run_bind, Sem.run_pure, Result.andThen_ok, List.map_toArray, List.map_cons, List.map_nil, hs, hx, hr]
  exact h
end Pk
open Pk

set_option maxRecDepth 20000 in
set_option maxHeartbeats 4000000 in
theorem deleteW_any (base : Nat) (v : Value) (n i j : Nat) (xs : List Value) (w : World) (hown : w.ownsRow base 95 1 v n xs) (h1 : ∀ u ∈ xs, u.oneCell' = true) (hij : i ≤ j) (hjn : j ≤ n) (hn : n ≤ 100000) :
    Calls Tryz.prog 43 #[v, .int .i64 i, .int .i64 j] w fun e w' => ∃ v', e = .returned v' ∧ w'.ownsRow base 95 1 v' (n - (j - i)) (xs.take (i) ++ xs.drop (j)) ∧ w.grownBy w' v.ownBlock ∧ v'.ownBlock = v.ownBlock := by
  obtain ⟨ao, cap, rfl⟩ := rowA_shape hown
  have hxl : xs.length = n := hown.1.trans (Nat.mul_one n)
  have hcap : n ≤ cap ∧ (cap : Int) ≤ 9223372036854775807 := by
    obtain ⟨_, ⟨h2, h0⟩ | ⟨g, cap', cur, e', _, _, hn', hm', _⟩⟩ := hown
    · simp only [Value.slice.injEq] at h2
      omega
    · simp only [Value.slice.injEq] at e'
      unfold maxLen at hm'
      omega
  obtain ⟨hcap, hcm⟩ := hcap
  have hcapi : (n : Int) ≤ cap := by omega
  have hiji : (i : Int) ≤ j := by omega
  have hjni : (j : Int) ≤ n := by omega
  have hic : i ≤ cap := by omega
  have hjc : j ≤ cap := by omega
  by_cases hlt : i < j
  · obtain ⟨g, rfl⟩ := rowA_some hown (by omega)
    have hne : ((i : Int) == (j : Int)) = false := by rw [beq_eq_false_iff_ne]; omega
    have hc0 : ¬ cap = 0 := by omega
    have Hown := Pk.hid hown
    have H1 := Pk.hid h1
    have Hxl := Pk.hid hxl
    clear hown h1 hxl
    by_cases hcj : cap = j
    · obtain rfl : n = j := by omega
      obtain rfl : n = cap := by omega
      go_enter Tryz.func43, Tryz.ntmps43
      go_wp2
      refine wp_region_noPanic ?_
      refine wp_region_held_drew (S := fun _ => True) (by kernel_rfl) trivial (fun hHeld => ?_)
      refine tkH 0 ?_ hHeld ?_ ?_; rotate_left
      · ((intro W hSw; go_simp) <;> with_reducible rfl)
      refine tkH 1 ?_ hHeld ?_ ?_; rotate_left
      · ((intro W hSw; go_simp) <;> with_reducible rfl)
      refine tkH 2 ?_ hHeld ?_ ?_; rotate_left
      · ((intro W hSw; go_simp) <;> with_reducible rfl)
      refine tkH 3 ?_ hHeld ?_ ?_; rotate_left
      · ((intro W hSw; go_simp) <;> with_reducible rfl)
      refine tkH 4 ?_ hHeld ?_ ?_; rotate_left
      · ((intro W hSw; go_simp) <;> with_reducible rfl)
      refine tkH 5 ?_ hHeld ?_ ?_; rotate_left
      · ((intro W hSw; go_simp) <;> with_reducible rfl)
      refine wpAnyH_ready (rs := [6]) (by kernel_rfl) (by simp) ?_
      refine AllReadyH.cons rfl (fun K hK => ?_) AllReadyH.nil
      rw [if_pos (by rfl)]
      refine wp_append_shiftW (.tmp 22) (.tmp 25) rfl g i n (by rfl) _ 0 _ [] (by rfl) (by simp) (fun q u hq => by simp at hq) (fun u hu => by simp at hu) (by omega) (fun q hq => by simp at hq) (fun q hq => by simp at hq) ?_
      refine hK.out _ _ trivial (fun hHeld => ?_)
      clear hK K
      try simp only [Act.put]
      try simp only [List.getElem_toArray]
      try simp only [List.getElem_cons_succ]
      try simp only [List.getElem_cons_zero]
      try simp only [List.setIfInBounds_toArray]
      try simp only [List.set_cons_succ]
      try simp only [List.set_cons_zero]
      refine tkH 7 ?_ hHeld ?_ ?_; rotate_left
      · ((intro W hSw; go_simp) <;> with_reducible rfl)
      refine wpAnyH_done (by kernel_rfl) ?_ _
      refine NoPanic.normal ?_
      have R1 : (w.drew).ownsRow base 95 1 (.slice (some ⟨g, 0, none⟩) n n) n xs := World.ownsRow.drew Hown.out
      obtain ⟨zs, hzl, hcl⟩ := run_clear_row (P := Tryz.prog) w.drew 85 95 0 (.pointer none) Tryz.underlying85 zeroWp (by intro u hu; simp [Value.cells] at hu; subst hu; rfl) (by decide) g (i) (n - i) (n - i) (by omega) (fun q hq => by
        have hq' : q < (n - i) := Nat.lt_of_lt_of_eq hq (Nat.mul_one _)
        have := R1.cellAt (i + q) (by omega)
        rw [this, List.getElem?_eq_getElem (by rw [Hxl.out]; omega)]
        rfl) (fun q _ => R1.frozenAt _)
      have hzl' : zs.length = (n - i) := hzl.trans (Nat.mul_one _)
      obtain ⟨R3, R4⟩ := row_writes zs (i) w.drew _ R1 (by rw [hzl', Hxl.out]; omega)
      have F1 : Hid (World.ownsRow (w.drew.setCells g (i) zs) base 95 1 (.slice (some ⟨g, 0, none⟩) i n) i (xs.take (i) ++ xs.drop (n))) := by
        have h := row_fewer R3 (m := i) (by omega) (.inl (by simp))
        have e : (xs.take (i) ++ zs ++ xs.drop (i + zs.length)).take (i) = xs.take (i) ++ xs.drop (n) := by
          rw [List.drop_of_length_le (i := n) (by rw [Hxl.out]; omega), List.append_nil, List.append_assoc, List.take_left' (by rw [List.length_take, Hxl.out]; omega)]
        rw [Nat.mul_one, e] at h
        exact h
      have F2 : Hid (w.grownBy (w.drew.setCells g (i) zs) (some g)) := (World.grownBy_drewX w (some g)).trans R4
      have hcc : ∀ ty, (Builtin.clear_ #[85] ty #[.slice (some ⟨g, i, none⟩) (n - i) (n - i)]).run Tryz.prog (w.drew.setCells g (i) []) = .ok (.tuple #[]) (w.drew.setCells g (i) zs) := fun ty => hcl
      have Hnn : Hid (n - (n - i) = i) := by show _ = _; omega
      have hnn3 : ¬ n = i := by omega
      clear hcl R1 R3 R4 hzl hzl'
      go_wp2_with (simp only [hcc])
      go_ret
      rw [Hnn.out]
      exact ⟨_, rfl, F1.out, F2.out, rfl⟩
    · go_enter Tryz.func43, Tryz.ntmps43
      go_wp2
      refine wp_region_noPanic ?_
      refine wp_region_held_drew (S := fun _ => True) (by kernel_rfl) trivial (fun hHeld => ?_)
      refine tkH 0 ?_ hHeld ?_ ?_; rotate_left
      · ((intro W hSw; go_simp) <;> with_reducible rfl)
      refine tkH 1 ?_ hHeld ?_ ?_; rotate_left
      · ((intro W hSw; go_simp) <;> with_reducible rfl)
      refine tkH 2 ?_ hHeld ?_ ?_; rotate_left
      · ((intro W hSw; go_simp) <;> with_reducible rfl)
      refine tkH 3 ?_ hHeld ?_ ?_; rotate_left
      · ((intro W hSw; go_simp) <;> with_reducible rfl)
      refine tkH 4 ?_ hHeld ?_ ?_; rotate_left
      · ((intro W hSw; go_simp) <;> with_reducible rfl)
      refine tkH 5 ?_ hHeld ?_ ?_; rotate_left
      · ((intro W hSw; go_simp) <;> with_reducible rfl)
      refine wpAnyH_ready (rs := [6]) (by kernel_rfl) (by simp) ?_
      refine AllReadyH.cons rfl (fun K hK => ?_) AllReadyH.nil
      rw [if_pos (by rfl)]
      refine wp_append_shiftW (.tmp 22) (.tmp 25) rfl g i cap (by rfl) _ (n - j) _ (xs.drop (j)) (by rfl) (by rw [List.length_drop, Hxl.out]) (fun q u hq => by
        have hql : j + q < xs.length := by have := (List.getElem?_eq_some_iff.1 hq).1; rw [List.length_drop] at this; omega
        rw [List.getElem?_drop] at hq
        show World.cell? w ((⟨g, j, none⟩ : Addr).add q) = some u
        rw [show (⟨g, j, none⟩ : Addr).add q = ⟨g, j + q, none⟩ by unfold Addr.add; split <;> simp_all, Hown.out.cellAt _ (by rw [← Hxl.out, Nat.mul_one]; exact hql)]
        exact hq) (fun u hu => H1.out u (List.mem_of_mem_drop hu)) (by omega) (fun q hq => by
        rw [List.length_drop, Hxl.out] at hq
        have := Hown.out.cellAt (i + q) (by omega)
        show (World.cell? w ⟨g, 0 + i + q, none⟩).isSome = true
        rw [Nat.zero_add, this, List.getElem?_eq_getElem (by rw [Hxl.out]; omega)]
        rfl) (fun q _ => Hown.out.frozenAt _) ?_
      refine hK.out _ _ trivial (fun hHeld => ?_)
      clear hK K
      try simp only [Act.put]
      try simp only [List.getElem_toArray]
      try simp only [List.getElem_cons_succ]
      try simp only [List.getElem_cons_zero]
      try simp only [List.setIfInBounds_toArray]
      try simp only [List.set_cons_succ]
      try simp only [List.set_cons_zero]
      refine tkH 7 ?_ hHeld ?_ ?_; rotate_left
      · ((intro W hSw; go_simp) <;> with_reducible rfl)
      refine wpAnyH_done (by kernel_rfl) ?_ _
      refine NoPanic.normal ?_
      have hdl : (xs.drop (j)).length = (n - j) := by rw [List.length_drop, Hxl.out]
      obtain ⟨R1, R2⟩ := row_writes (xs.drop (j)) (0 + i) w.drew xs (World.ownsRow.drew Hown.out) (by rw [hdl, Hxl.out]; omega)
      generalize hw1 : (w.drew).setCells g (0 + i) (xs.drop (j)) = w1 at *
      have hxl1 := R1.1
      obtain ⟨zs, hzl, hcl⟩ := run_clear_row (P := Tryz.prog) w1 85 95 0 (.pointer none) Tryz.underlying85 zeroWp (by intro u hu; simp [Value.cells] at hu; subst hu; rfl) (by decide) g (i + (n - j)) (n - (i + (n - j))) (cap - (i + (n - j))) (by omega) (fun q hq => by
        have hq' : q < (n - (i + (n - j))) := Nat.lt_of_lt_of_eq hq (Nat.mul_one _)
        have := R1.cellAt ((i + (n - j)) + q) (by omega)
        rw [this, List.getElem?_eq_getElem (by rw [hxl1]; omega)]
        rfl) (fun q _ => R1.frozenAt _)
      have hzl' : zs.length = (n - (i + (n - j))) := hzl.trans (Nat.mul_one _)
      obtain ⟨R3, R4⟩ := row_writes zs (i + (n - j)) w1 _ R1 (by rw [hzl', hxl1]; omega)
      have F1 : Hid (World.ownsRow (w1.setCells g (i + (n - j)) zs) base 95 1 (.slice (some ⟨g, 0, none⟩) (i + (n - j)) cap) (i + (n - j)) (xs.take (i) ++ xs.drop (j))) := by
        have h := row_fewer R3 (m := i + (n - j)) (by omega) (.inl (by simp))
        have e : (((xs.take (0 + i) ++ xs.drop (j) ++ xs.drop (0 + i + (xs.drop (j)).length)).take (i + (n - j)) ++ zs ++ (xs.take (0 + i) ++ xs.drop (j) ++ xs.drop (0 + i + (xs.drop (j)).length)).drop ((i + (n - j)) + zs.length)).take (i + (n - j))) = xs.take (i) ++ xs.drop (j) := by
          have hl1 : (xs.take (i) ++ xs.drop (j)).length = (i + (n - j)) := by rw [List.length_append, List.length_take, hdl, Hxl.out]; omega
          rw [Nat.zero_add, List.take_left' (l₁ := xs.take (i) ++ xs.drop (j)) hl1, List.append_assoc, List.take_left' hl1]
        rw [Nat.mul_one, e] at h
        exact h
      have F2 : Hid (w.grownBy (w1.setCells g (i + (n - j)) zs) (some g)) := (World.grownBy_drewX w (some g)).trans (R2.trans R4)
      have hcc : ∀ ty, (Builtin.clear_ #[85] ty #[.slice (some ⟨g, (i + (n - j)), none⟩) (n - (i + (n - j))) (cap - (i + (n - j)))]).run Tryz.prog w1 = .ok (.tuple #[]) (w1.setCells g (i + (n - j)) zs) := fun ty => hcl
      have Hnn : Hid (i + (n - j) = n - (j - i)) := by show _ = _; omega
      have hnn1 : i + (n - j) ≤ n := by omega
      have hnn2 : i + (n - j) ≤ cap := by omega
      have hnn3 : ¬ cap = i + (n - j) := by omega
      have hnn4 : ((i + (n - j) : Nat) : Int) ≤ n := by omega
      clear hcl R1 R2 R3 R4 hzl hzl' hdl hxl1 hw1
      generalize i + (n - j) = m at *
      go_wp2_with (simp only [hcc])
      go_ret
      rw [← Hnn.out]
      exact ⟨_, rfl, F1.out, F2.out, rfl⟩
  · have hij' : i = j := by omega
    subst hij'
    have hne : ((i : Int) == (i : Int)) = true := by simp
    have Hown : Hid (∀ m, m = n → w.ownsRow base 95 1 (.slice ao m cap) m xs) := fun m e => by rw [e]; exact hown
    clear hown h1 hxl
    rw [Nat.sub_self, Nat.sub_zero, List.take_append_drop]
    go_enter Tryz.func43, Tryz.ntmps43
    go_wp2
    all_goals go_ret
    all_goals exact ⟨_, rfl, Hown.out _ (by first | rfl | omega | simp_all), World.grownBy.refl _ _, rfl⟩

end Go.Proofs.YtdjhhnolcafkiaaGreat

/- DropWant. -/
namespace Go.Proofs.YtdjhhnolcafkiaaGreat
open Go.RowKit
namespace Pk
theorem eraseW_at {α : Type} {l : List α} {k i : Nat} {x : α} (h : (l.eraseIdx k)[i]? = some x) : ∃ j, j = (if i < k then i else i + 1) ∧ l[j]? = some x := by
  rw [List.getElem?_eraseIdx] at h
  by_cases e : i < k
  · exact ⟨i, (if_pos e).symm, by rw [if_pos e] at h; exact h⟩
  · exact ⟨i + 1, (if_neg e).symm, by rw [if_neg e] at h; exact h⟩
/-- a want is taken away -/
theorem MdAt.dropW {W W2 : World} {ρ : Nat → Nat} {mb k : Nat} {M : Md} {sv wv v' : Value} {SB WB : List (Nat × Value)} (h : MdAt W ρ mb M sv wv SB WB) (_hk : k < M.wns.length) (hg : Chg (fun b => wv.ownBlock = some b) W W2) (hr : W2.ownsRow (mb + 1) 95 1 v' (WB.eraseIdx k).length ((WB.eraseIdx k).map fun p => ptr p.1)) (ho : v'.ownBlock = wv.ownBlock) :
    MdAt (W2.setCell ⟨mb, 19, none⟩ v') ρ mb { M with wns := M.wns.eraseIdx k } sv v' SB (WB.eraseIdx k) ∧ Mv W ρ (W2.setCell ⟨mb, 19, none⟩ v') ρ := by
  have hrm := h.rm
  have hmw : ¬ wv.ownBlock = some mb := fun e => by have := h.rw mb e; omega
  have c3 : Chg (fun b => b = mb) W2 (W2.setCell ⟨mb, 19, none⟩ v') := (Chg.refl (fun b => b = mb) _).setCell ⟨mb, 19, none⟩ (.inl rfl) _
  have cc : Chg (fun b => ρ b = 3 ∨ b = mb) W (W2.setCell ⟨mb, 19, none⟩ v') := (hg.mono (fun b _ e => .inl (h.rw b e))).trans c3 (fun _ _ e => .inr e)
  have nT : ∀ q, q ≠ 1 → q ≠ 3 → ∀ b, (ρ b = 3 ∨ b = mb) → ρ b ≠ q := fun q h1 h2 b hb e => by
    rcases hb with e' | e'
    · omega
    · rw [e', hrm] at e; omega
  have hml : mb < W.heap.size := h.lt
  have hw2 : ∀ i u, (mdV M sv wv)[i]? = some u → W2.cell? ⟨mb, i, none⟩ = some u := fun i u hu => hg.cell (h.k i u hu) hmw
  have he : mdV { M with wns := M.wns.eraseIdx k } sv v' = (mdV M sv wv).set 19 v' := rfl
  refine ⟨⟨fun i u hu => ?_, fun o => ?_, rowA_chg cc h.sr (fun b hb e => nT 2 (by decide) (by decide) b e (h.rs b hb)), rowA_chg c3 hr (fun b hb e => hmw (by rw [← e, ← ho]; exact hb)), h.sl, ?_, h.s4, fun i p s h1 h2 => ?_, fun i p x h1 h2 => ?_, fun i j x y hij h1 h2 => ?_, hrm, h.rs, fun b hb => h.rw b (ho ▸ hb), fun b hb => h.hi b (Nat.le_trans cc.size hb)⟩, fun _ _ e => e, cc.mono (fun b _ e => ?_)⟩
  · rw [he, List.getElem?_set] at hu
    by_cases e : 19 = i
    · subst e
      rw [if_pos rfl] at hu
      split at hu
      · rename_i hl
        simp only [Option.some.injEq] at hu
        rw [← hu]
        exact World.cell?_setCell_same _ _ _ (hw2 19 _ (List.getElem?_eq_getElem hl))
      · cases hu
    · rw [if_neg e] at hu
      rw [World.cell?_setCell_other _ _ _ _ (fun e' => e (by injection e'))]
      exact hw2 i u hu
  · rw [World.frozen?_setCell]
    exact (hg.frozen (p := ⟨mb, o, none⟩) hml hmw).trans (h.fz o)
  · simp only [List.length_eraseIdx]
    rw [h.wl]
  · refine ⟨(h.part cc i p).1 s h1 h2 (fun b hb => ⟨nT _ (by omega) (by omega) b hb, nT _ (by omega) (by omega) b hb⟩), (h.sa i p s h1 h2).2⟩
  · obtain ⟨j, hj, g1⟩ := eraseW_at h1
    obtain ⟨j', hj', g2⟩ := eraseW_at h2
    rw [← hj] at hj'
    subst hj'
    exact ⟨(h.part cc j' p).2 x g1 g2 (fun b hb => ⟨nT _ (by omega) (by omega) b hb, nT _ (by omega) (by omega) b hb, nT _ (by omega) (by omega) b hb⟩), (h.wa j' p x g1 g2).2⟩
  · obtain ⟨a, ha, g1⟩ := eraseW_at h1
    obtain ⟨c, hc, g2⟩ := eraseW_at h2
    refine h.ids a c x y ?_ g1 g2
    rw [ha, hc]
    split <;> split <;> omega
  · rcases e with e | e
    · rw [e]; decide
    · rw [e, hrm]; decide
end Pk
open Pk Rl

set_option maxRecDepth 20000 in
set_option maxHeartbeats 4000000 in
theorem dropWant_any (ρ : Nat → Nat) (mb : Nat) (M : Md) (sv wv : Value) (SB WB : List (Nat × Value)) (id : Int) (w : World) (h : MdAt w ρ mb M sv wv SB WB) (h8 : M.wns.length ≤ 8) :
    Calls Tryz.prog 19 #[.pointer (some ⟨mb, 0, none⟩), .int .i64 id] w fun e w' => e = .returned (.int .i64 (dropM M id).2) ∧ Moved w w' ρ mb (dropM M id).1 := by
  obtain ⟨ao, cap, rfl⟩ := rowA_shape h.wr
  have H := Pk.hid h
  have Hwl : Hid (WB.length = M.wns.length) := h.wl
  clear h
  go_enter Tryz.func19, Tryz.ntmps19
  go_wp2_with fail
  refine (orNone_any mb _).mono ?_
  rintro e w1 ⟨rfl, hw1⟩
  rw [hw1]
  clear hw1 w1
  go_wp2_with fail
  refine (findWant_any ρ mb M sv _ SB WB id _ H.out h8).mono ?_
  rintro e w1 ⟨rfl, hb1⟩
  have H1 : Hid (MdAt w1 ρ mb M sv (.slice ao WB.length cap) SB WB) := H.out.below hb1
  have HB := Pk.hid hb1
  clear hb1
  cases hp : wntPos M id with
  | none =>
    have E : Hid (dropM M id = (M, 4)) := by show _ = _; unfold dropM; rw [hp]
    have HE : Hid (Moved w w1 ρ mb M) := Moved.same H.out HB.out
    clear hp
    unfold posI
    go_wp2
    go_ret
    rw [E.out]
    exact ⟨rfl, HE.out⟩
  | some k =>
    have E : Hid (dropM M id = ({ M with wns := M.wns.eraseIdx k }, 0)) := by show _ = _; unfold dropM; rw [hp]
    have hk : k < M.wns.length := (List.findIdx?_eq_some_iff_getElem.1 hp).1
    have hkW : k < WB.length := by rw [Hwl.out]; exact hk
    have hW8 : WB.length ≤ 8 := by rw [Hwl.out]; exact h8
    have hk0 : ¬ (k : Int) < 0 := by omega
    have y19 : w1.cell? ⟨mb, 19, none⟩ = some (.slice ao WB.length cap) := H1.out.k 19 _ rfl
    have hkw : IntKind.i64.wrap ((k : Int) + 1) = (k + 1 : Nat) := by rw [i64_id _ (by omega) (by omega)]; omega
    clear hp
    unfold posI
    go_wp2_with fail
    refine (deleteW_any (mb + 1) _ WB.length k (k + 1) (WB.map fun p => ptr p.1) _ H1.out.wr (fun u hu => by
      obtain ⟨q, -, rfl⟩ := List.mem_map.1 hu
      rfl) (by omega) (by omega) (by omega)).mono ?_
    rintro e w2 ⟨v', rfl, hown2, hg2, ho2⟩
    have hle : WB.length - (k + 1 - k) = (WB.eraseIdx k).length := by rw [List.length_eraseIdx, if_pos (by omega)]; omega
    have hxs : (WB.map fun p => ptr p.1).take k ++ (WB.map fun p => ptr p.1).drop (k + 1) = (WB.eraseIdx k).map fun p => ptr p.1 := by rw [List.eraseIdx_eq_take_drop_succ, List.map_append, List.map_take, List.map_drop]
    rw [hle, hxs] at hown2
    have hc2 : Chg (fun b => (Value.slice ao WB.length cap).ownBlock = some b) w1 w2 := Chg.ofGrown hg2
    obtain ⟨HD, HM⟩ := H1.out.dropW hk hc2 hown2 ho2
    have hmw : ¬ (Value.slice ao WB.length cap).ownBlock = some mb := fun e => by have := H1.out.rw mb e; rw [H1.out.rm] at this; cases this
    have z19 : w2.cell? ⟨mb, 19, none⟩ = some (.slice ao WB.length cap) := hc2.cell y19 hmw
    have zf : ∀ o, w2.frozen? ⟨mb, o, none⟩ = false := fun o => (hc2.frozen (p := ⟨mb, o, none⟩) H1.out.lt hmw).trans (H1.out.fz o)
    have HE : Hid (Moved w (w2.setCell ⟨mb, 19, none⟩ v') ρ mb { M with wns := M.wns.eraseIdx k }) := Moved.before HB.out (Moved.mk ⟨HD, HM.1, HM.2⟩)
    obtain ⟨a2, c2, rfl⟩ := rowA_shape hown2
    clear hown2 hg2 ho2 hc2 HD HM hle hxs hmw y19
    go_wp2
    go_ret
    rw [E.out]
    exact ⟨rfl, HE.out⟩

end Go.Proofs.YtdjhhnolcafkiaaGreat
