/- The book takes a list of askings: the walk. -/
import Derived.Test.YtdjhhnolcafkiaaG04
import Derived.Test.YtdjhhnolcafkiaaG01
import Derived.Deep.RegionHeld3
import Derived.Test.YtdjhhnolcafkiaaG03
namespace Go.Proofs.Ytdjhhnolcafkiaa
open Go.RowKit
namespace Pk

/-- the askings' lists of numbers are taken one behind the other: what holds when i are -/
structure Mid (F : Nat → Prop) (w : World) (g : Nat) (ρ : Nat → Nat) (tv tk av ak : Value) (TL TM AL AM : List Value) (NN : Nat) (nx : Int) (ao : Option Addr) (cap : Nat) (xs : List Ask1) (i : Nat) (wr : World) (ρ' : Nat → Nat) (nv nk : Value) (NL : List Value) (NS : List Int) : Prop where
  bk : BkN wr g ρ' tv tk nv nk av ak TL TM NL (NS.map (Value.int .i64)) AL AM (nx + i)
  len : NL.length = NN + 4 * i
  rho : ∀ b, b < w.heap.size → ρ b ≠ 0 → ρ' b = ρ b
  row : wr.ownsRow (g + 1) 40 3 (.slice ao xs.length cap) xs.length (flatA xs)
  rest : ∀ (j : Nat) (x : Ask1), i ≤ j → xs[j]? = some x → OwnInts wr (g + 1) x.v x.l ∧ ∀ b, x.v.ownBlock = some b → ρ' b = 0 ∧ b < w.heap.size
  lst : ∀ b, (Value.slice ao xs.length cap).ownBlock = some b → ρ' b = 0 ∧ b < w.heap.size
  chg : Chg (fun b => g ≤ b ∧ ¬ F b) w wr
  far : ∀ b, F b → ρ' b = 0

theorem Mid.next {F : Nat → Prop} {w wr w' : World} {g : Nat} {ρ ρ' ρ2 : Nat → Nat} {tv tk av ak nv nk nv2 nk2 : Value} {TL TM AL AM NL NL2 : List Value} {NS : List Int} {NN : Nat} {nx : Int} {ao : Option Addr} {cap i : Nat} {xs : List Ask1} {x : Ask1}
    (h : Mid F w g ρ tv tk av ak TL TM AL AM NN nx ao cap xs i wr ρ' nv nk NL NS) (hFx : ∀ b, F b → b < w.heap.size ∧ x.v.ownBlock ≠ some b) (hx : xs[i]? = some x) (hA : ∀ (i j : Nat) (x y : Ask1), i ≠ j → xs[i]? = some x → xs[j]? = some y → ∀ b, x.v.ownBlock = some b → y.v.ownBlock ≠ some b)
    (hO : ∀ (i : Nat) (x : Ask1), xs[i]? = some x → ∀ b, x.v.ownBlock = some b → (Value.slice ao xs.length cap).ownBlock ≠ some b) (_hgw : g < w.heap.size)
    (hl : NL2.length = 4) (hB : BkN w' g ρ2 tv tk nv2 nk2 av ak TL TM (NL ++ NL2) (NS.map (Value.int .i64) ++ [.int .i64 (-(nx + i + 1)), .int .i64 (-(nx + i + 1)), .int .i64 (-(nx + i + 1)), .int .i64 (-(nx + i + 1))]) AL AM (nx + i + 1))
    (r1 : ∀ b, b < wr.heap.size → ρ' b ≠ 0 → ρ2 b = ρ' b) (r2 : ∀ b, b < wr.heap.size → x.v.ownBlock ≠ some b → ρ' b = 0 → ρ2 b = 0)
    (hc : Chg (fun b => b = g ∨ nv.ownBlock = some b ∨ nk.ownBlock = some b ∨ x.v.ownBlock = some b) wr w') :
    Mid F w g ρ tv tk av ak TL TM AL AM NN nx ao cap xs (i + 1) w' ρ2 nv2 nk2 (NL ++ NL2) (NS ++ [-(nx + i + 1), -(nx + i + 1), -(nx + i + 1), -(nx + i + 1)]) := by
  have sz := h.chg.size
  have z : ∀ b, ρ' b = 0 → x.v.ownBlock ≠ some b → ¬ (b = g ∨ nv.ownBlock = some b ∨ nk.ownBlock = some b ∨ x.v.ownBlock = some b) := fun b h0 hne => by
    rintro (e | e | e | e)
    · rw [(h.bk.rg b).2 e] at h0; cases h0
    · rw [h.bk.np.fl b e] at h0; cases h0
    · rw [h.bk.np.fm b e] at h0; cases h0
    · exact hne e
  refine ⟨?_, ?_, fun b hb hne => ?_, ?_, ?_, ?_, ?_, ?_⟩
  · rw [List.map_append, Int.natCast_add, Int.natCast_one, ← Int.add_assoc]
    exact hB
  · rw [List.length_append, hl, h.len]; omega
  · have e := h.rho b hb hne
    rw [r1 b (by omega) (by rw [e]; exact hne), e]
  · refine rowA_chg hc h.row (fun b hb => z b (h.lst b hb).1 (fun e => hO i x hx b e hb))
  · intro j y hj hy
    obtain ⟨o1, o2⟩ := h.rest j y (by omega) hy
    have ne : ∀ b, y.v.ownBlock = some b → x.v.ownBlock ≠ some b := fun b hb e => hA i j x y (by omega) hx hy b e hb
    refine ⟨hc.row o1 (fun b hb => z b (o2 b hb).1 (ne b hb)), fun b hb => ⟨r2 b (by have := (o2 b hb).2; omega) (ne b hb) (o2 b hb).1, (o2 b hb).2⟩⟩
  · intro b hb
    have hb2 := h.lst b hb
    exact ⟨r2 b (by omega) (fun e => hO i x hx b e hb) hb2.1, hb2.2⟩
  · refine h.chg.trans hc (fun b hb e0 => ⟨?_, fun hF => z b (h.far b hF) (hFx b hF).2 e0⟩)
    rcases e0 with e | e | e | e
    · omega
    · have := (h.bk.np.rl.lt b e).1; omega
    · have := (h.bk.np.rk.lt b e).1; omega
    · have := (World.ownsRow.lt (h.rest i x (Nat.le_refl _) hx).1 b e).1; omega
  · intro b hF
    exact r2 b (by have := (hFx b hF).1; omega) (hFx b hF).2 (h.far b hF)

theorem wrapI64s (n : Int) (h0 : -9223372036854775808 ≤ n) (h1 : n < 9223372036854775808) : IntKind.i64.wrap n = n := by
  simp [IntKind.wrap, IntKind.bits, IntKind.signed]; omega

theorem wp_append_at {w : World} {o : Oper} {a : Act} {K : Act → World → Prop} {Q : Exit → Act → World → Prop} (s x : Operand) (t : TypeId)
    (ho : o.op = .call { callee := .builtin .append, args := #[s, x], argTypes := #[t, t] })
    (base : Nat) (e : TypeId) (i : TypeInfo) (z : Value) (size bytes : Nat) (ht : Try.prog.underlying t = some (.slice e)) (hi : Try.prog.info? e = some i) (hz : i.zero = some z)
    (hsize : i.size = size) (hby : i.bytes = bytes) (hzs : z.cells.size = size) (hsz : 0 < size)
    (v : Value) (n : Nat) (xs : List Value) (hs : a.eval s = v) (hown : w.ownsRow base e size v n xs)
    (ad : Addr) (m c : Nat) (news : List Value) (hx : a.eval x = .slice (some ad) m c) (hl : news.length = m * size) (hnews : ∀ j u, news[j]? = some u → w.cell? (ad.add j) = some u) (h1 : ∀ u ∈ news, u.oneCell' = true)
    (h63 : n + m ≤ maxLen) (hbytes : (n + m) * bytes ≤ 140737488355328) (hbase : base ≤ w.heap.size)
    (h : ∀ v' w', w'.ownsRow base e size v' (n + m) (xs ++ news) → w.grownBy w' v.ownBlock → (v'.ownBlock = v.ownBlock ∨ v'.ownBlock = some w.heap.size) → K (a.put o.dst v') w') : o.wp Try.prog a w K Q := by
  obtain ⟨v', w', hr, h2, h3, _, h5⟩ := run_append_own_at (P := Try.prog) w base t o.type e i z size bytes ht hi hz hsize hby hzs hsz v n xs hown ad m c news hl hnews h1 h63 hbytes hbase
  unfold Oper.wp execOp
  simp only [ho, resolve, invoke, builtin, Sem.run_bind, Sem.run_pure, Result.andThen_ok, List.map_toArray, List.map_cons, List.map_nil, hs, hx, hr]
  exact h v' w' h2 h3 h5

theorem set_three (ys : List Value) (k : Nat) (a b c : Value) (h : k * 3 + 3 ≤ ys.length) : (((ys.set (k * 3) a).set (k * 3 + 1) b).set (k * 3 + 2) c).take ((k + 1) * 3) = ys.take (k * 3) ++ [a, b, c] := by
  apply List.ext_getElem?
  intro j
  rw [show (k + 1) * 3 = k * 3 + 3 by omega, List.getElem?_take]
  by_cases h1 : j < k * 3
  · rw [if_pos (by omega), List.getElem?_set_ne (by omega), List.getElem?_set_ne (by omega), List.getElem?_set_ne (by omega), List.getElem?_append_left (by rw [List.length_take]; omega), List.getElem?_take, if_pos h1]
  · rw [List.getElem?_append_right (by rw [List.length_take]; omega), List.length_take, Nat.min_eq_left (by omega)]
    obtain ⟨d, rfl⟩ : ∃ d, j = k * 3 + d := ⟨j - k * 3, by omega⟩
    rw [show k * 3 + d - k * 3 = d by omega]
    match d with
    | 0 => rw [if_pos (by omega), List.getElem?_set_ne (by omega), List.getElem?_set_ne (by omega), Nat.add_zero, List.getElem?_set_self (by omega)]; rfl
    | 1 => rw [if_pos (by omega), List.getElem?_set_ne (by omega), List.getElem?_set_self (by rw [List.length_set]; omega)]; rfl
    | 2 => rw [if_pos (by omega), List.getElem?_set_self (by rw [List.length_set, List.length_set]; omega)]; rfl
    | d + 3 => rw [if_neg (by omega)]; rfl

end Pk
open Pk

set_option maxRecDepth 20000 in
set_option maxHeartbeats 8000000 in
theorem ownsA_any (F : Nat → Prop) (g : Nat) (ρ : Nat → Nat) (tv tk nv nk av ak : Value) (TL TM NL AL : List Value) (NS AS : List Int) (nx : Int) (lv : Value) (xs : List Ask1) (w : World) (hB : BkN w g ρ tv tk nv nk av ak TL TM NL (NS.map (Value.int .i64)) AL (AS.map (Value.int .i64)) nx) (hA : OwnAsks w (g + 1) lv xs)
    (hf : ∀ b, lv.ownBlock = some b → ρ b = 0) (hfx : ∀ (i : Nat) (x : Ask1), xs[i]? = some x → ∀ b, x.v.ownBlock = some b → ρ b = 0)
    (hF : ∀ b, F b → ρ b = 0 ∧ b < w.heap.size ∧ lv.ownBlock ≠ some b ∧ ∀ (i : Nat) (x : Ask1), xs[i]? = some x → x.v.ownBlock ≠ some b)
    (hl : xs.length ≤ 400) (hN : NL.length ≤ 900000000) (hAL : AL.length ≤ 900000000) (hx0 : 0 ≤ nx) (hx1 : nx ≤ 900000000) :
    Calls Try.prog 45 #[.pointer (some ⟨g, 0, none⟩), lv] w fun e w' => e = .returned (.tuple #[]) ∧ ∃ (ρ' : Nat → Nat) (nv' nk' av' ak' : Value) (NL' : List Value) (NS' : List Int) (AL' : List Value) (AS' : List Int), BkN w' g ρ' tv tk nv' nk' av' ak' TL TM NL' (NS'.map (Value.int .i64)) AL' (AS'.map (Value.int .i64)) (nx + xs.length + 1) ∧
      NL'.length = NL.length + 4 * xs.length ∧ AL'.length = AL.length + 4 ∧ (∀ b, b < w.heap.size → ρ b ≠ 0 → ρ' b = ρ b) ∧ Chg (fun b => g ≤ b ∧ ¬ F b) w w' ∧ (∀ b, F b → ρ' b = 0) := by
  obtain ⟨ao, cap, rfl⟩ := rowA_shape hA.row
  have hgw := hB.lt
  have HF : Hid (∀ b, F b → ρ b = 0 ∧ b < w.heap.size ∧ (Value.slice ao xs.length cap).ownBlock ≠ some b ∧ ∀ (i : Nat) (x : Ask1), xs[i]? = some x → x.v.ownBlock ≠ some b) := hF
  have HFg : Hid (¬ F g) := fun e => by have := (hF g e).1; rw [(hB.rg g).2 rfl] at this; cases this
  clear hF
  have HA : Hid (OwnAsks w (g + 1) (.slice ao xs.length cap) xs) := hA
  have M0 : Hid (Mid F w g ρ tv tk av ak TL TM AL (AS.map (Value.int .i64)) NL.length nx ao cap xs 0 w ρ nv nk NL NS) :=
    ⟨by simpa using hB, by omega, fun _ _ _ => rfl, hA.row, fun j x _ hx => ⟨(hA.each j x hx).1, fun b hb => ⟨hfx j x hx b hb, (World.ownsRow.lt (hA.each j x hx).1 b hb).2⟩⟩, fun b hb => ⟨hf b hb, (World.ownsRow.lt hA.row b hb).2⟩, Chg.refl _ _, fun b hb => (HF.out b hb).1⟩
  obtain ⟨n, hn⟩ : ∃ n, xs.length = n := ⟨_, rfl⟩
  have Hn : Hid (xs.length = n) := hn
  rw [hn] at hl
  clear hA hB hf hfx
  rw [hn]
  clear hn
  go_enter Try.func45, Try.ntmps45
  go_wp2
  go_loopw [4] (fun s4 wr => ∃ (i : Nat) (ρ' : Nat → Nat) (nv' nk' : Value) (NL' : List Value) (NS' : List Int), i ≤ n ∧ s4 = .int .i64 i ∧ Mid F w g ρ tv tk av ak TL TM AL (AS.map (Value.int .i64)) NL.length nx ao cap xs i wr ρ' nv' nk' NL' NS') (fun s4 _ => n - (intOf s4).toNat)
  case atStart => exact ⟨0, _, _, _, _, _, Nat.zero_le _, rfl, M0.out⟩
  case round =>
    obtain ⟨i, ρ1, nv1, nk1, NL1, NS1, hi, rfl, hM⟩ := hrel
    have HM : Hid (Mid F w g ρ tv tk av ak TL TM AL (AS.map (Value.int .i64)) NL.length nx ao cap xs i _ ρ1 nv1 nk1 NL1 NS1) := hM
    by_cases hlt : i < n
    · have hlt' : (i : Int) < n := by omega
      have hix : i < xs.length := by rw [Hn.out]; exact hlt
      obtain ⟨gl, rfl⟩ := rowA_some hM.row (by omega)
      have hc := (World.ownsRow.cellAt hM.row (i * 3 + 2) (by omega)).trans (flatA_at xs i hix)
      have hxi : xs[i]? = some xs[i] := List.getElem?_eq_getElem hix
      obtain ⟨x, hx⟩ : ∃ x, xs[i] = x := ⟨_, rfl⟩
      rw [hx] at hc hxi
      have Hxi : Hid (xs[i]? = some x) := hxi
      obtain ⟨ax, cx, hxv⟩ := (hM.rest i x (Nat.le_refl _) hxi).1.shape
      rw [hxv] at hc
      have Hxv : Hid (x.v = .slice ax x.l.length cx) := hxv
      clear hM hx hxi hxv
      go_wp2_with fail
      have hbd := (HA.out.each i x Hxi.out).2
      obtain ⟨o1, o2⟩ := HM.out.rest i x (Nat.le_refl _) Hxi.out
      rw [Hxv.out] at o1 o2
      refine (ownsN_any g ρ1 tv tk nv1 nk1 av ak TL TM NL1 (NS1.map (Value.int .i64)) AL (AS.map (Value.int .i64)) (nx + i) _ x.l _ HM.out.bk o1 (fun b hb => (o2 b hb).1) hbd (by rw [HM.out.len]; omega) (by omega) (by omega)).mono ?_
      rintro e w2 ⟨rfl, ρ2, nv2, nk2, NL2, hl2, hB2, q1, q2, hc2⟩
      have HM2 : Hid (Mid F w g ρ tv tk av ak TL TM AL (AS.map (Value.int .i64)) NL.length nx _ cap xs (i + 1) w2 ρ2 nv2 nk2 (NL1 ++ NL2) _) :=
        HM.out.next (fun b hb => ⟨(HF.out b hb).2.1, (HF.out b hb).2.2.2 i x Hxi.out⟩) Hxi.out HA.out.apart HA.out.out hgw hl2 hB2 q1 (by rw [Hxv.out]; exact q2) (by rw [Hxv.out]; exact hc2)
      clear hB2 hc2 q1 q2 o1 o2 hc
      go_wp2
      go_roundw
      case rel => exact ⟨i + 1, ρ2, nv2, nk2, _, _, by omega, by go_num, HM2.out⟩
      case measure => simp [intOf]; omega
    · have hin : i = n := by omega
      subst hin
      have hlt' : ¬ (i : Int) < i := by omega
      have hc6 := hM.bk.c6
      have hfz := hM.bk.fz
      have H6 : Hid (((World.setCell _ ⟨g, 6, none⟩ (.int .i64 (nx + i + 1))).drew).cell? ⟨g, 6, none⟩ = some (.int .i64 (nx + i + 1))) := World.cell?_setCell_same _ _ _ hc6
      have HB1 : Hid (BkN (World.setCell _ ⟨g, 6, none⟩ (.int .i64 (nx + i + 1))) g ρ1 tv tk nv1 nk1 av ak TL TM NL1 (NS1.map (Value.int .i64)) AL (AS.map (Value.int .i64)) (nx + i + 1)) := hM.bk.set6 _
      clear hM
      go_wp2
      refine wp_region_noPanic ?_
      refine wp_region_held_drew (S := fun W => W.cell? ⟨g, 6, none⟩ = some (.int .i64 (nx + i + 1))) (by kernel_rfl) H6.out (fun hHeld => ?_)
      refine wpAnyH_take (i := 0) (v := ?v7001) rfl (by kernel_rfl) (by kernel_rfl) (by kernel_rfl) (fun _ _ _ h => h) (Or.inl ⟨by rfl, ?y7001⟩) hHeld ?r7001
      case y7001 => ((intro W hSw; go_simp) <;> with_reducible rfl)
      try simp only [Act.put]
      try simp only [List.getElem_toArray]
      try simp only [List.getElem_cons_succ]
      try simp only [List.getElem_cons_zero]
      try simp only [List.setIfInBounds_toArray]
      try simp only [List.set_cons_succ]
      try simp only [List.set_cons_zero]
      refine wpAnyH_take (i := 1) (v := ?v7002) rfl (by kernel_rfl) (by kernel_rfl) (by kernel_rfl) (fun _ _ _ h => h) (Or.inl ⟨by rfl, ?y7002⟩) hHeld ?r7002
      case y7002 => ((intro W hSw; go_simp) <;> with_reducible rfl)
      try simp only [Act.put]
      try simp only [List.getElem_toArray]
      try simp only [List.getElem_cons_succ]
      try simp only [List.getElem_cons_zero]
      try simp only [List.setIfInBounds_toArray]
      try simp only [List.set_cons_succ]
      try simp only [List.set_cons_zero]
      refine wpAnyH_take (i := 2) (v := ?v7003) rfl (by kernel_rfl) (by kernel_rfl) (by kernel_rfl) (fun _ _ _ h => h) (Or.inl ⟨by rfl, ?y7003⟩) hHeld ?r7003
      case y7003 => ((intro W hSw; go_simp) <;> with_reducible rfl)
      try simp only [Act.put]
      try simp only [List.getElem_toArray]
      try simp only [List.getElem_cons_succ]
      try simp only [List.getElem_cons_zero]
      try simp only [List.setIfInBounds_toArray]
      try simp only [List.set_cons_succ]
      try simp only [List.set_cons_zero]
      refine wpAnyH_take (i := 3) (v := ?v7004) rfl (by kernel_rfl) (by kernel_rfl) (by kernel_rfl) (fun _ _ _ h => h) (Or.inl ⟨by rfl, ?y7004⟩) hHeld ?r7004
      case y7004 => ((intro W hSw; go_simp) <;> with_reducible rfl)
      try simp only [Act.put]
      try simp only [List.getElem_toArray]
      try simp only [List.getElem_cons_succ]
      try simp only [List.getElem_cons_zero]
      try simp only [List.setIfInBounds_toArray]
      try simp only [List.set_cons_succ]
      try simp only [List.set_cons_zero]
      refine wpAnyH_take (i := 4) (v := ?v7005) rfl (by kernel_rfl) (by kernel_rfl) (by kernel_rfl) (fun _ _ _ h => h) (Or.inl ⟨by rfl, ?y7005⟩) hHeld ?r7005
      case y7005 => ((intro W hSw; go_simp) <;> with_reducible rfl)
      try simp only [Act.put]
      try simp only [List.getElem_toArray]
      try simp only [List.getElem_cons_succ]
      try simp only [List.getElem_cons_zero]
      try simp only [List.setIfInBounds_toArray]
      try simp only [List.set_cons_succ]
      try simp only [List.set_cons_zero]
      refine wpAnyH_take (i := 5) (v := ?v7006) rfl (by kernel_rfl) (by kernel_rfl) (by kernel_rfl) (fun _ _ _ h => h) (Or.inl ⟨by rfl, ?y7006⟩) hHeld ?r7006
      case y7006 => ((intro W hSw; go_simp) <;> with_reducible rfl)
      try simp only [Act.put]
      try simp only [List.getElem_toArray]
      try simp only [List.getElem_cons_succ]
      try simp only [List.getElem_cons_zero]
      try simp only [List.setIfInBounds_toArray]
      try simp only [List.set_cons_succ]
      try simp only [List.set_cons_zero]
      refine wpAnyH_take (i := 6) (v := ?v7007) rfl (by kernel_rfl) (by kernel_rfl) (by kernel_rfl) (fun _ _ _ h => h) (Or.inl ⟨by rfl, ?y7007⟩) hHeld ?r7007
      case y7007 => ((intro W hSw; go_simp) <;> with_reducible rfl)
      try simp only [Act.put]
      try simp only [List.getElem_toArray]
      try simp only [List.getElem_cons_succ]
      try simp only [List.getElem_cons_zero]
      try simp only [List.setIfInBounds_toArray]
      try simp only [List.set_cons_succ]
      try simp only [List.set_cons_zero]
      refine wpAnyH_take (i := 7) (v := ?v7008) rfl (by kernel_rfl) (by kernel_rfl) (by kernel_rfl) (fun _ _ _ h => h) (Or.inl ⟨by rfl, ?y7008⟩) hHeld ?r7008
      case y7008 => ((intro W hSw; go_simp) <;> with_reducible rfl)
      try simp only [Act.put]
      try simp only [List.getElem_toArray]
      try simp only [List.getElem_cons_succ]
      try simp only [List.getElem_cons_zero]
      try simp only [List.setIfInBounds_toArray]
      try simp only [List.set_cons_succ]
      try simp only [List.set_cons_zero]
      refine wpAnyH_take (i := 8) (v := ?v7009) rfl (by kernel_rfl) (by kernel_rfl) (by kernel_rfl) (fun _ _ _ h => h) (Or.inl ⟨by rfl, ?y7009⟩) hHeld ?r7009
      case y7009 => ((intro W hSw; go_simp) <;> with_reducible rfl)
      try simp only [Act.put]
      try simp only [List.getElem_toArray]
      try simp only [List.getElem_cons_succ]
      try simp only [List.getElem_cons_zero]
      try simp only [List.setIfInBounds_toArray]
      try simp only [List.set_cons_succ]
      try simp only [List.set_cons_zero]
      refine wpAnyH_take (i := 9) (v := ?v7010) rfl (by kernel_rfl) (by kernel_rfl) (by kernel_rfl) (fun _ _ _ h => h) (Or.inl ⟨by rfl, ?y7010⟩) hHeld ?r7010
      case y7010 => ((intro W hSw; go_simp) <;> with_reducible rfl)
      try simp only [Act.put]
      try simp only [List.getElem_toArray]
      try simp only [List.getElem_cons_succ]
      try simp only [List.getElem_cons_zero]
      try simp only [List.setIfInBounds_toArray]
      try simp only [List.set_cons_succ]
      try simp only [List.set_cons_zero]
      refine wpAnyH_take (i := 10) (v := ?v7011) rfl (by kernel_rfl) (by kernel_rfl) (by kernel_rfl) (fun _ _ _ h => h) (Or.inl ⟨by rfl, ?y7011⟩) hHeld ?r7011
      case y7011 => ((intro W hSw; go_simp) <;> with_reducible rfl)
      try simp only [Act.put]
      try simp only [List.getElem_toArray]
      try simp only [List.getElem_cons_succ]
      try simp only [List.getElem_cons_zero]
      try simp only [List.setIfInBounds_toArray]
      try simp only [List.set_cons_succ]
      try simp only [List.set_cons_zero]
      refine wpAnyH_ready (rs := [11]) (by kernel_rfl) (by simp) ?_
      refine AllReadyH.cons rfl (fun K hK => ?_) AllReadyH.nil
      go_simp
      refine hK.out _ _ ((World.cell?_alloc_lt _ _ _ (lt_of_cell hHeld)).trans hHeld) (fun hHeld => ?_)
      clear hK K
      refine wpAnyH_ready (rs := [12]) (by kernel_rfl) (by simp) ?_
      refine AllReadyH.cons rfl (fun K hK => ?_) AllReadyH.nil
      go_simp
      refine hK.out _ _ ((World.cell?_alloc_lt _ _ _ (lt_of_cell H6.out)).trans H6.out) (fun hHeld => ?_)
      clear hK K hHeld
      refine wpAnyH_done (by kernel_rfl) ?_ _
      refine NoPanic.normal ?_
      obtain ⟨m, hm⟩ : ∃ m, m = -(nx + i + 1) := ⟨_, rfl⟩
      have Hm : Hid (m = -(nx + i + 1)) := hm
      have hwn : IntKind.i64.wrap (-(nx + i + 1)) = -(nx + i + 1) := wrapI64s _ (by omega) (by omega)
      try rw [hwn]
      rw [← hm]
      clear hm H6 hwn
      have hR0 := HM.out.row
      have hL0 := HM.out.lst
      rw [Hn.out] at hR0 hL0
      have hC0 := HM.out.chg
      have Hfar : Hid (∀ b, F b → ρ1 b = 0) := HM.out.far
      have HFl : Hid (∀ b, (Value.slice ao i cap).ownBlock = some b → ¬ F b) := fun b hb hF => (HF.out b hF).2.2.1 (by rw [Hn.out]; exact hb)
      have Hbw : Hid (w.heap.size ≤ wr.heap.size) := hC0.size
      have Hrho : Hid (∀ b, b < w.heap.size → ρ b ≠ 0 → ρ1 b = ρ b) := HM.out.rho
      have Hlen : Hid (NL1.length = NL.length + 4 * i) := HM.out.len
      have Hlst : Hid (∀ b, (Value.slice ao i cap).ownBlock = some b → ρ1 b = 0 ∧ b < w.heap.size) := hL0
      have HB2 : Hid (∀ t, BkN ((wr.setCell ⟨g, 6, none⟩ (.int .i64 (nx + i + 1))).alloc (.cells #[.int .i64 m, .int .i64 m, .slice none 0 0] t)).drew g ρ1 tv tk nv1 nk1 av ak TL TM NL1 (NS1.map (Value.int .i64)) AL (AS.map (Value.int .i64)) (nx + i + 1)) := fun t => HB1.out.chg (T := fun _ => False) ((Chg.refl _ _).alloc _).drew (fun _ h => h.elim)
      have HC2 : Hid (∀ t, Chg (fun b => g ≤ b ∧ ¬ F b) w ((wr.setCell ⟨g, 6, none⟩ (.int .i64 (nx + i + 1))).alloc (.cells #[.int .i64 m, .int .i64 m, .slice none 0 0] t)).drew) := fun t => ((hC0.setCell ⟨g, 6, none⟩ (.inl ⟨Nat.le_refl _, HFg.out⟩) _).alloc _).drew
      have HR2 : Hid (∀ t, (((wr.setCell ⟨g, 6, none⟩ (.int .i64 (nx + i + 1))).alloc (.cells #[.int .i64 m, .int .i64 m, .slice none 0 0] t)).drew).ownsRow (g + 1) 40 3 (.slice ao i cap) i (flatA xs)) := fun t => World.ownsRow.drew (World.ownsRow.alloc (ownsRow_setCell_below hR0 (Nat.lt_succ_self g) _) _)
      have HX2 : Hid (∀ t, (((wr.setCell ⟨g, 6, none⟩ (.int .i64 (nx + i + 1))).alloc (.cells #[.int .i64 m, .int .i64 m, .slice none 0 0] t)).drew).cell? ⟨wr.heap.size, 0, none⟩ = some (.int .i64 m) ∧ (((wr.setCell ⟨g, 6, none⟩ (.int .i64 (nx + i + 1))).alloc (.cells #[.int .i64 m, .int .i64 m, .slice none 0 0] t)).drew).cell? ⟨wr.heap.size, 1, none⟩ = some (.int .i64 m) ∧ (((wr.setCell ⟨g, 6, none⟩ (.int .i64 (nx + i + 1))).alloc (.cells #[.int .i64 m, .int .i64 m, .slice none 0 0] t)).drew).cell? ⟨wr.heap.size, 2, none⟩ = some (.slice none 0 0)) := fun t => by
        refine ⟨?_, ?_, ?_⟩ <;> first | (simp [go_sem]; done) | go_simp
      clear hR0 hL0 hC0 HB1 HM hc6 hfz
      go_wp2
      obtain ⟨B, hBe⟩ : ∃ B, B = wr.heap.size := ⟨_, rfl⟩
      have HBe : Hid (w.heap.size ≤ B) := by show _ ≤ _; rw [hBe]; exact Hbw.out
      rw [← hBe] at HX2 ⊢
      clear hBe
      go_loopw [6] (fun s6 W => ∃ (k : Nat) (ys : List Value), k ≤ i ∧ s6 = .int .i64 k ∧ W.ownsRow (g + 1) 40 3 (.slice ao i cap) i ys ∧ ys.take (k * 3) = rep k [.int .i64 m, .int .i64 m, .slice none 0 0] ∧ BkN W g ρ1 tv tk nv1 nk1 av ak TL TM NL1 (NS1.map (Value.int .i64)) AL (AS.map (Value.int .i64)) (nx + i + 1) ∧ (W.cell? ⟨B, 0, none⟩ = some (.int .i64 m) ∧ W.cell? ⟨B, 1, none⟩ = some (.int .i64 m) ∧ W.cell? ⟨B, 2, none⟩ = some (.slice none 0 0)) ∧ Chg (fun b => g ≤ b ∧ ¬ F b) w W) (fun s6 _ => i - (intOf s6).toNat)
      case atStart => exact ⟨0, _, Nat.zero_le _, rfl, HR2.out _, rfl, HB2.out _, HX2.out _, HC2.out _⟩
      case round =>
        obtain ⟨k, ys, hk, rfl, hrow, hys, hBk, hbx, hch⟩ := hrel
        by_cases hlt2 : k < i
        · have hlt3 : (k : Int) < i := by omega
          obtain ⟨gl, rfl⟩ := rowA_some hrow (by omega)
          have hyl : ys.length = i * 3 := hrow.1
          have ex : ∀ d, d < 3 → ∃ y, ys[k * 3 + d]? = some y := fun d hd => ⟨_, List.getElem?_eq_getElem (by omega)⟩
          obtain ⟨y0, e0⟩ := ex 0 (by omega)
          obtain ⟨y1, e1⟩ := ex 1 (by omega)
          obtain ⟨y2, e2⟩ := ex 2 (by omega)
          have d0 := (World.ownsRow.cellAt hrow (k * 3) (by omega)).trans e0
          have d1 := (World.ownsRow.cellAt hrow (k * 3 + 1) (by omega)).trans e1
          have d2 := (World.ownsRow.cellAt hrow (k * 3 + 2) (by omega)).trans e2
          have fz : ∀ j, World.frozen? _ ⟨gl, j, none⟩ = false := fun j => World.ownsRow.frozenAt hrow j
          obtain ⟨b0, b1, b2⟩ := hbx
          have hgl := Hlst.out gl rfl
          have hne : gl ≠ B := by have := HBe.out; omega
          have Hrow : Hid (World.ownsRow _ (g + 1) 40 3 (.slice (some ⟨gl, 0, none⟩) i cap) i ys) := hrow
          have Hys : Hid (ys.take (k * 3) = rep k [.int .i64 m, .int .i64 m, .slice none 0 0]) := hys
          have HBk : Hid (BkN _ g ρ1 tv tk nv1 nk1 av ak TL TM NL1 (NS1.map (Value.int .i64)) AL (AS.map (Value.int .i64)) (nx + i + 1)) := hBk
          have Hch : Hid (Chg (fun b => g ≤ b ∧ ¬ F b) w _) := hch
          have Hbx : Hid (_ ∧ _ ∧ _) := And.intro b0 (And.intro b1 b2)
          have Hyl : Hid (ys.length = i * 3) := hyl
          clear hrow hys hBk hch ex e0 e1 e2 hyl
          go_wp2
          go_roundw
          case rel =>
            refine ⟨k + 1, ((ys.set (k * 3) (.int .i64 m)).set (k * 3 + 1) (.int .i64 m)).set (k * 3 + 2) (.slice none 0 0), by omega, by go_num, ?_, ?_, ?_, ?_, ?_⟩
            · exact (World.ownsRow.stored (World.ownsRow.stored (World.ownsRow.stored Hrow.out (k * 3) _).1 (k * 3 + 1) _).1 (k * 3 + 2) _).1
            · rw [set_three ys k _ _ _ (by rw [Hyl.out]; omega), Hys.out, rep_add]; rfl
            · exact HBk.out.chg (T := fun b => b = gl) ((((Chg.refl (fun b => b = gl) _).setCell ⟨gl, k * 3, none⟩ (.inl rfl) _).setCell ⟨gl, k * 3 + 1, none⟩ (.inl rfl) _).setCell ⟨gl, k * 3 + 2, none⟩ (.inl rfl) _) (fun b hb => by rw [hb]; exact hgl.1)
            · have far : ∀ (W : World) (o o' : Nat) (u : Value), (W.setCell ⟨gl, o, none⟩ u).cell? ⟨B, o', none⟩ = W.cell? ⟨B, o', none⟩ := fun W o o' u => World.cell?_setCell_other _ ⟨gl, o, none⟩ ⟨B, o', none⟩ _ (fun e => hne (by injection e))
              simp only [far]
              exact Hbx.out
            · exact ((Hch.out.setCell ⟨gl, k * 3, none⟩ (.inl ⟨by have := (World.ownsRow.lt Hrow.out gl rfl).1; show g ≤ gl; omega, HFl.out gl rfl⟩) _).setCell ⟨gl, k * 3 + 1, none⟩ (.inl ⟨by have := (World.ownsRow.lt Hrow.out gl rfl).1; show g ≤ gl; omega, HFl.out gl rfl⟩) _).setCell ⟨gl, k * 3 + 2, none⟩ (.inl ⟨by have := (World.ownsRow.lt Hrow.out gl rfl).1; show g ≤ gl; omega, HFl.out gl rfl⟩) _
          case measure => simp [intOf]; omega
        · have hki : k = i := by omega
          subst hki
          have hlt3 : ¬ (k : Int) < k := by omega
          obtain ⟨an, cn, rfl⟩ := row_shape hBk.ap.rl
          obtain ⟨am, cm, rfl⟩ := row_shape hBk.ap.rk
          have hyl : ys.length = k * 3 := hrow.1
          have hyr : ys = rep k [.int .i64 m, .int .i64 m, .slice none 0 0] := by rw [← hys, List.take_of_length_le (by omega)]
          rw [hyr] at hrow
          obtain ⟨b0, b1, b2⟩ := hbx
          obtain ⟨ia, hia, hz0, hz1, hz2⟩ := info_parts asks_info
          have Hia : Hid (Try.prog.info? 40 = some ia ∧ ia.zero = some (.agg #[.int .i64 0, .int .i64 0, .slice none 0 0]) ∧ ia.size = 3 ∧ ia.bytes = 40) := ⟨hia, hz0, hz1, hz2⟩
          clear hia hz0 hz1 hz2
          obtain ⟨W0, hW0⟩ : ∃ W0 : World, W0.heap.size = W0.heap.size ∧ True := ⟨w, rfl, trivial⟩
          clear W0 hW0
          have HM0 : Hid (MkN _ (g + 1) 40 (.slice ao k cap) k [.int .i64 m, .int .i64 m, .slice none 0 0]) := hrow
          have HBk : Hid (BkN _ g ρ1 tv tk nv1 nk1 (.slice an AL.length cn) (.slice am (AS.map (Value.int .i64)).length cm) TL TM NL1 (NS1.map (Value.int .i64)) AL (AS.map (Value.int .i64)) (nx + k + 1)) := hBk
          have Hch : Hid (Chg (fun b => g ≤ b ∧ ¬ F b) w _) := hch
          have hgw2 := hBk.lt
          clear hrow hBk hch hys hyr hyl
          have Hbx : Hid (_ ∧ _ ∧ _) := And.intro b0 (And.intro b1 b2)
          have HoB : Hid (∀ b, (Value.slice ao k cap).ownBlock = some b → ¬ b = B) := fun b hb e => by have := (Hlst.out b hb).2; have := HBe.out; omega
          have HV : Hid (∀ b, (Value.slice ao k cap).ownBlock = some b → ρ1 b = 0) := fun b hb => (Hlst.out b hb).1
          go_wp2_with (at_builtin; (
            refine wpList_append_asks rfl (.tmp 51) (.tmp 53) rfl (g + 1) ia Hia.out (.slice ao k cap) k 1 m rfl (World.ownsRow.alloc HM0.out _) _ 1 rfl (cells_new _ [.int .i64 m, .int .i64 m, .slice none 0 0] _) (by omega) (by simp; omega) ?_
            intro v1 w1 h1 k1 g1 d1
            refine stop_here ?_))
          obtain ⟨a1, p1, rfl⟩ := h1.shape
          have M11 : Hid (MkN w1 (g + 1) 40 (.slice a1 (k + 1) p1) (k + 1) [.int .i64 m, .int .i64 m, .slice none 0 0]) := h1
          have M10 : Hid (MkN w1 (g + 1) 40 (.slice ao k cap) k [.int .i64 m, .int .i64 m, .slice none 0 0]) := k1 _ _ (by omega) (World.ownsRow.alloc HM0.out _)
          have X1 : Hid (Chg (fun b => (Value.slice ao k cap).ownBlock = some b) wr w1) := ((Chg.refl _ _).alloc _).trans (Chg.ofGrown g1) (fun _ _ e => e)
          have D1 : Hid ((Value.slice a1 (k + 1) p1).ownBlock = (Value.slice ao k cap).ownBlock ∨ ∀ b, (Value.slice a1 (k + 1) p1).ownBlock = some b → wr.heap.size ≤ b) := d1.imp id (fun e b hb => by rw [e] at hb; simp at hb; omega)
          have s1 : g + 1 ≤ w1.heap.size := Nat.le_trans (Nat.succ_le_of_lt hgw2) X1.out.size
          have bx1 : Hid (w1.cell? ⟨B, 0, none⟩ = some (.int .i64 m) ∧ w1.cell? ⟨B, 1, none⟩ = some (.int .i64 m) ∧ w1.cell? ⟨B, 2, none⟩ = some (.slice none 0 0)) := ⟨X1.out.cell Hbx.out.1 (fun e => HoB.out _ e rfl), X1.out.cell Hbx.out.2.1 (fun e => HoB.out _ e rfl), X1.out.cell Hbx.out.2.2 (fun e => HoB.out _ e rfl)⟩
          obtain ⟨q10, q11, q12⟩ := bx1.out
          clear h1 k1 g1 d1
          refine hid_in ?_
          go_wp2_with (at_builtin; (
            refine wpList_append_asks rfl (.tmp 55) (.tmp 58) rfl (g + 1) ia Hia.out (.slice ao k cap) k 2 m rfl (World.ownsRow.alloc M10.out _) _ 2 rfl (cells_new _ [.int .i64 m, .int .i64 m, .slice none 0 0, .int .i64 m, .int .i64 m, .slice none 0 0] _) (by omega) (by simp; omega) ?_
            intro v2 w2 h2 k2 g2 d2
            refine stop_here ?_))
          obtain ⟨a2, p2, rfl⟩ := h2.shape
          have M22 : Hid (MkN w2 (g + 1) 40 (.slice a2 (k + 2) p2) (k + 2) [.int .i64 m, .int .i64 m, .slice none 0 0]) := h2
          have M20 : Hid (MkN w2 (g + 1) 40 (.slice ao k cap) k [.int .i64 m, .int .i64 m, .slice none 0 0]) := k2 _ _ (by omega) (World.ownsRow.alloc M10.out _)
          have M21 : Hid (MkN w2 (g + 1) 40 (.slice a1 (k + 1) p1) (k + 1) [.int .i64 m, .int .i64 m, .slice none 0 0]) := k2 _ _ (by omega) (World.ownsRow.alloc M11.out _)
          have X2 : Hid (Chg (fun b => (Value.slice ao k cap).ownBlock = some b) wr w2) := (X1.out.alloc _).trans (Chg.ofGrown g2) (fun _ _ e => e)
          have D2 : Hid ((Value.slice a2 (k + 2) p2).ownBlock = (Value.slice ao k cap).ownBlock ∨ ∀ b, (Value.slice a2 (k + 2) p2).ownBlock = some b → wr.heap.size ≤ b) := d2.imp id (fun e b hb => by rw [e] at hb; have := X1.out.size; simp at hb; omega)
          have s2 : g + 1 ≤ w2.heap.size := Nat.le_trans (Nat.succ_le_of_lt hgw2) X2.out.size
          have bx2 : Hid (w2.cell? ⟨B, 0, none⟩ = some (.int .i64 m) ∧ w2.cell? ⟨B, 1, none⟩ = some (.int .i64 m) ∧ w2.cell? ⟨B, 2, none⟩ = some (.slice none 0 0)) := ⟨X2.out.cell Hbx.out.1 (fun e => HoB.out _ e rfl), X2.out.cell Hbx.out.2.1 (fun e => HoB.out _ e rfl), X2.out.cell Hbx.out.2.2 (fun e => HoB.out _ e rfl)⟩
          obtain ⟨q20, q21, q22⟩ := bx2.out
          clear h2 k2 g2 d2
          refine hid_in ?_
          go_wp2_with (at_builtin; (
            refine wpList_append_asks rfl (.tmp 60) (.tmp 64) rfl (g + 1) ia Hia.out (.slice ao k cap) k 3 m rfl (World.ownsRow.alloc M20.out _) _ 3 rfl (cells_new _ [.int .i64 m, .int .i64 m, .slice none 0 0, .int .i64 m, .int .i64 m, .slice none 0 0, .int .i64 m, .int .i64 m, .slice none 0 0] _) (by omega) (by simp; omega) ?_
            intro v3 w3 h3 k3 g3 d3
            refine stop_here ?_))
          obtain ⟨a3, p3, rfl⟩ := h3.shape
          have M33 : Hid (MkN w3 (g + 1) 40 (.slice a3 (k + 3) p3) (k + 3) [.int .i64 m, .int .i64 m, .slice none 0 0]) := h3
          have M30 : Hid (MkN w3 (g + 1) 40 (.slice ao k cap) k [.int .i64 m, .int .i64 m, .slice none 0 0]) := k3 _ _ (by omega) (World.ownsRow.alloc M20.out _)
          have M31 : Hid (MkN w3 (g + 1) 40 (.slice a1 (k + 1) p1) (k + 1) [.int .i64 m, .int .i64 m, .slice none 0 0]) := k3 _ _ (by omega) (World.ownsRow.alloc M21.out _)
          have M32 : Hid (MkN w3 (g + 1) 40 (.slice a2 (k + 2) p2) (k + 2) [.int .i64 m, .int .i64 m, .slice none 0 0]) := k3 _ _ (by omega) (World.ownsRow.alloc M22.out _)
          have X3 : Hid (Chg (fun b => (Value.slice ao k cap).ownBlock = some b) wr w3) := (X2.out.alloc _).trans (Chg.ofGrown g3) (fun _ _ e => e)
          have D3 : Hid ((Value.slice a3 (k + 3) p3).ownBlock = (Value.slice ao k cap).ownBlock ∨ ∀ b, (Value.slice a3 (k + 3) p3).ownBlock = some b → wr.heap.size ≤ b) := d3.imp id (fun e b hb => by rw [e] at hb; have := X2.out.size; simp at hb; omega)
          have s3 : g + 1 ≤ w3.heap.size := Nat.le_trans (Nat.succ_le_of_lt hgw2) X3.out.size
          have bx3 : Hid (w3.cell? ⟨B, 0, none⟩ = some (.int .i64 m) ∧ w3.cell? ⟨B, 1, none⟩ = some (.int .i64 m) ∧ w3.cell? ⟨B, 2, none⟩ = some (.slice none 0 0)) := ⟨X3.out.cell Hbx.out.1 (fun e => HoB.out _ e rfl), X3.out.cell Hbx.out.2.1 (fun e => HoB.out _ e rfl), X3.out.cell Hbx.out.2.2 (fun e => HoB.out _ e rfl)⟩
          obtain ⟨q30, q31, q32⟩ := bx3.out
          clear h3 k3 g3 d3
          have BK3 : Hid (BkN w3 g ρ1 tv tk nv1 nk1 (.slice an AL.length cn) (.slice am (AS.map (Value.int .i64)).length cm) TL TM NL1 (NS1.map (Value.int .i64)) AL (AS.map (Value.int .i64)) (nx + k + 1)) := HBk.out.chg X3.out HV.out
          have c4 := BK3.out.c4
          have hinfo : (Try.prog.info? 37).map (fun i => (i.zero, i.size, i.bytes)) = some (some (.slice none 0 0), 1, 24) := by kernel_rfl
          obtain ⟨ib, hj, hy0, hy1, hy2⟩ := info_parts hinfo
          have Hj : Hid (Try.prog.info? 37 = some ib ∧ ib.zero = some (.slice none 0 0) ∧ ib.size = 1 ∧ ib.bytes = 24) := ⟨hj, hy0, hy1, hy2⟩
          clear hj hy0 hy1 hy2 hinfo
          refine hid_in ?_
          go_wp2_with (at_builtin; (
            refine wpList_append_own_at _ rfl (.tmp 70) (.tmp 75) 28 rfl (g + 1) 37 ib (.slice none 0 0) 1 24 Try.underlying28 Hj.out.1 Hj.out.2.1 Hj.out.2.2.1 Hj.out.2.2.2 rfl (by decide) (.slice an AL.length cn) AL.length AL rfl (World.ownsRow.alloc BK3.out.ap.rl _) _ 4 4 [.slice ao k cap, .slice a1 (k + 1) p1, .slice a2 (k + 2) p2, .slice a3 (k + 3) p3] rfl rfl (cells_new _ [.slice ao k cap, .slice a1 (k + 1) p1, .slice a2 (k + 2) p2, .slice a3 (k + 3) p3] _) ?_ ?_ ?_ ?_ ?_
            · intro u hu
              simp only [List.mem_cons, List.not_mem_nil, or_false] at hu
              rcases hu with rfl | rfl | rfl | rfl <;> rfl
            · unfold maxLen; omega
            · omega
            · simp; omega
            intro v4 w4 h4 g4 _ d4
            refine stop_here ?_))
          obtain ⟨a4, p4, rfl⟩ := row_shape h4
          have H4 : Hid (w4.ownsRow (g + 1) 37 1 (.slice a4 (AL.length + 4) p4) (AL.length + 4) (AL ++ [.slice ao k cap, .slice a1 (k + 1) p1, .slice a2 (k + 2) p2, .slice a3 (k + 3) p3])) := h4
          have X4 : Hid (Chg (fun b => (Value.slice an AL.length cn).ownBlock = some b) w3 w4) := ((Chg.refl _ _).alloc _).trans (Chg.ofGrown g4) (fun _ _ e => e)
          have D4 : Hid ((Value.slice a4 (AL.length + 4) p4).ownBlock = (Value.slice an AL.length cn).ownBlock ∨ ∀ b, (Value.slice a4 (AL.length + 4) p4).ownBlock = some b → w3.heap.size ≤ b) := d4.imp id (fun e b hb => by rw [e] at hb; simp at hb; omega)
          have hng : ¬ (Value.slice an AL.length cn).ownBlock = some g := fun e => by have := (BK3.out.ap.rl.lt g e).1; omega
          have e4 := X4.out.cell BK3.out.c4 hng
          have e5 := X4.out.cell BK3.out.c5 hng
          have e6 := X4.out.cell BK3.out.c6 hng
          have f4 : ∀ o, w4.frozen? ⟨g, o, none⟩ = false := fun o => (X4.out.frozen (p := ⟨g, o, none⟩) (show g < w3.heap.size by omega) hng).trans (BK3.out.fz o)
          have s4 : g + 1 ≤ w4.heap.size := Nat.le_trans s3 X4.out.size
          have RM : Hid ((w4.setCell ⟨g, 4, none⟩ (.slice a4 (AL.length + 4) p4)).ownsRow (g + 1) 3 1 (.slice am (AS.map (Value.int .i64)).length cm) (AS.map (Value.int .i64)).length (AS.map (Value.int .i64))) := ownsRow_setCell_below (X4.out.row BK3.out.ap.rk (fun x hx e => by have a := BK3.out.ap.fm x hx; have b := BK3.out.ap.fl x e; omega)) (Nat.lt_succ_self g) _
          have H56 : Hid ((w4.setCell ⟨g, 4, none⟩ (.slice a4 (AL.length + 4) p4)).cell? ⟨g, 5, none⟩ = some (.slice am (AS.map (Value.int .i64)).length cm) ∧ (w4.setCell ⟨g, 4, none⟩ (.slice a4 (AL.length + 4) p4)).drew.cell? ⟨g, 6, none⟩ = some (.int .i64 (nx + k + 1))) := ⟨(World.cell?_setCell_other _ ⟨g, 4, none⟩ ⟨g, 5, none⟩ _ (by simp)).trans e5, (World.cell?_setCell_other _ ⟨g, 4, none⟩ ⟨g, 6, none⟩ _ (by simp)).trans e6⟩
          have hAS : (AS.map (Value.int .i64)).length ≤ 900000000 := by rw [← BK3.out.ap.len]; exact hAL
          clear h4 g4 d4 hng c4
          refine hid_in ?_
          have hnm : -(nx + (k : Int) + 1) = m := Hm.out.symm
          have hwm : IntKind.i64.wrap m = m := wrapI64s _ (by have := Hm.out; omega) (by have := Hm.out; omega)
          have hinfo : (Try.prog.info? 3).map (fun i => (i.zero, i.size, i.bytes)) = some (some (.int .i64 0), 1, 8) := by kernel_rfl
          obtain ⟨ic, hj, hy0, hy1, hy2⟩ := info_parts hinfo
          have Hic : Hid (Try.prog.info? 3 = some ic ∧ ic.zero = some (.int .i64 0) ∧ ic.size = 1 ∧ ic.bytes = 8) := ⟨hj, hy0, hy1, hy2⟩
          clear hj hy0 hy1 hy2 hinfo
          have hob : (Value.slice am (AS.map (Value.int .i64)).length cm) = Value.slice am AS.length cm := by rw [List.length_map]
          have Hob : Hid (Value.slice am (AS.map (Value.int .i64)).length cm = Value.slice am AS.length cm) := hob
          clear hob
          have ha5 : ∀ o, (World.alloc (w4.setCell ⟨g, 4, none⟩ (.slice a4 (AL.length + 4) p4)) o).cell? ⟨g, 5, none⟩ = _ := fun o => (World.cell?_alloc_lt _ _ _ (lt_of_cell H56.out.1)).trans H56.out.1
          have HB9 : Hid (∀ b, wr.heap.size ≤ b → ρ1 b = 0) := HBk.out.hi
          have HG9 : Hid (g < wr.heap.size) := hgw2
          have HW9 : Hid (wr.heap.size ≤ wr.heap.size) := Nat.le_refl _
          go_wp2
          refine wp_region_noPanic ?_
          refine wp_region_held_drew (S := fun W => W.cell? ⟨g, 6, none⟩ = some (.int .i64 (nx + k + 1))) (by kernel_rfl) H56.out.2 (fun hHeld => ?_)
          refine wpAnyH_take (i := 0) (v := ?v8001) rfl (by kernel_rfl) (by kernel_rfl) (by kernel_rfl) (fun _ _ _ h => h) (Or.inl ⟨by rfl, ?y8001⟩) hHeld ?r8001
          case y8001 => ((intro W hSw; go_simp) <;> with_reducible rfl)
          try simp only [Act.put]
          try simp only [List.getElem_toArray]
          try simp only [List.getElem_cons_succ]
          try simp only [List.getElem_cons_zero]
          try simp only [List.setIfInBounds_toArray]
          try simp only [List.set_cons_succ]
          try simp only [List.set_cons_zero]
          refine wpAnyH_take (i := 1) (v := ?v8002) rfl (by kernel_rfl) (by kernel_rfl) (by kernel_rfl) (fun _ _ _ h => h) (Or.inl ⟨by rfl, ?y8002⟩) hHeld ?r8002
          case y8002 => ((intro W hSw; go_simp) <;> with_reducible rfl)
          try simp only [Act.put]
          try simp only [List.getElem_toArray]
          try simp only [List.getElem_cons_succ]
          try simp only [List.getElem_cons_zero]
          try simp only [List.setIfInBounds_toArray]
          try simp only [List.set_cons_succ]
          try simp only [List.set_cons_zero]
          refine wpAnyH_take (i := 2) (v := ?v8003) rfl (by kernel_rfl) (by kernel_rfl) (by kernel_rfl) (fun _ _ _ h => h) (Or.inl ⟨by rfl, ?y8003⟩) hHeld ?r8003
          case y8003 => ((intro W hSw; go_simp) <;> with_reducible rfl)
          try simp only [Act.put]
          try simp only [List.getElem_toArray]
          try simp only [List.getElem_cons_succ]
          try simp only [List.getElem_cons_zero]
          try simp only [List.setIfInBounds_toArray]
          try simp only [List.set_cons_succ]
          try simp only [List.set_cons_zero]
          refine wpAnyH_take (i := 3) (v := ?v8004) rfl (by kernel_rfl) (by kernel_rfl) (by kernel_rfl) (fun _ _ _ h => h) (Or.inl ⟨by rfl, ?y8004⟩) hHeld ?r8004
          case y8004 => ((intro W hSw; go_simp) <;> with_reducible rfl)
          try simp only [Act.put]
          try simp only [List.getElem_toArray]
          try simp only [List.getElem_cons_succ]
          try simp only [List.getElem_cons_zero]
          try simp only [List.setIfInBounds_toArray]
          try simp only [List.set_cons_succ]
          try simp only [List.set_cons_zero]
          refine wpAnyH_take (i := 5) (v := ?v8005) rfl (by kernel_rfl) (by kernel_rfl) (by kernel_rfl) (fun _ _ _ h => h) (Or.inl ⟨by rfl, ?y8005⟩) hHeld ?r8005
          case y8005 => ((intro W hSw; go_simp) <;> with_reducible rfl)
          try simp only [Act.put]
          try simp only [List.getElem_toArray]
          try simp only [List.getElem_cons_succ]
          try simp only [List.getElem_cons_zero]
          try simp only [List.setIfInBounds_toArray]
          try simp only [List.set_cons_succ]
          try simp only [List.set_cons_zero]
          refine wpAnyH_take (i := 6) (v := ?v8006) rfl (by kernel_rfl) (by kernel_rfl) (by kernel_rfl) (fun _ _ _ h => h) (Or.inl ⟨by rfl, ?y8006⟩) hHeld ?r8006
          case y8006 => ((intro W hSw; go_simp) <;> with_reducible rfl)
          try simp only [Act.put]
          try simp only [List.getElem_toArray]
          try simp only [List.getElem_cons_succ]
          try simp only [List.getElem_cons_zero]
          try simp only [List.setIfInBounds_toArray]
          try simp only [List.set_cons_succ]
          try simp only [List.set_cons_zero]
          refine wpAnyH_take (i := 7) (v := ?v8007) rfl (by kernel_rfl) (by kernel_rfl) (by kernel_rfl) (fun _ _ _ h => h) (Or.inl ⟨by rfl, ?y8007⟩) hHeld ?r8007
          case y8007 => ((intro W hSw; go_simp) <;> with_reducible rfl)
          try simp only [Act.put]
          try simp only [List.getElem_toArray]
          try simp only [List.getElem_cons_succ]
          try simp only [List.getElem_cons_zero]
          try simp only [List.setIfInBounds_toArray]
          try simp only [List.set_cons_succ]
          try simp only [List.set_cons_zero]
          refine wpAnyH_take (i := 8) (v := ?v8008) rfl (by kernel_rfl) (by kernel_rfl) (by kernel_rfl) (fun _ _ _ h => h) (Or.inl ⟨by rfl, ?y8008⟩) hHeld ?r8008
          case y8008 => ((intro W hSw; go_simp) <;> with_reducible rfl)
          try simp only [Act.put]
          try simp only [List.getElem_toArray]
          try simp only [List.getElem_cons_succ]
          try simp only [List.getElem_cons_zero]
          try simp only [List.setIfInBounds_toArray]
          try simp only [List.set_cons_succ]
          try simp only [List.set_cons_zero]
          refine wpAnyH_take (i := 9) (v := ?v8009) rfl (by kernel_rfl) (by kernel_rfl) (by kernel_rfl) (fun _ _ _ h => h) (Or.inl ⟨by rfl, ?y8009⟩) hHeld ?r8009
          case y8009 => ((intro W hSw; go_simp) <;> with_reducible rfl)
          try simp only [Act.put]
          try simp only [List.getElem_toArray]
          try simp only [List.getElem_cons_succ]
          try simp only [List.getElem_cons_zero]
          try simp only [List.setIfInBounds_toArray]
          try simp only [List.set_cons_succ]
          try simp only [List.set_cons_zero]
          refine wpAnyH_take (i := 10) (v := ?v8010) rfl (by kernel_rfl) (by kernel_rfl) (by kernel_rfl) (fun _ _ _ h => h) (Or.inl ⟨by rfl, ?y8010⟩) hHeld ?r8010
          case y8010 => ((intro W hSw; go_simp) <;> with_reducible rfl)
          try simp only [Act.put]
          try simp only [List.getElem_toArray]
          try simp only [List.getElem_cons_succ]
          try simp only [List.getElem_cons_zero]
          try simp only [List.setIfInBounds_toArray]
          try simp only [List.set_cons_succ]
          try simp only [List.set_cons_zero]
          refine wpAnyH_take (i := 11) (v := ?v8011) rfl (by kernel_rfl) (by kernel_rfl) (by kernel_rfl) (fun _ _ _ h => h) (Or.inl ⟨by rfl, ?y8011⟩) hHeld ?r8011
          case y8011 => ((intro W hSw; go_simp) <;> with_reducible rfl)
          try simp only [Act.put]
          try simp only [List.getElem_toArray]
          try simp only [List.getElem_cons_succ]
          try simp only [List.getElem_cons_zero]
          try simp only [List.setIfInBounds_toArray]
          try simp only [List.set_cons_succ]
          try simp only [List.set_cons_zero]
          refine wpAnyH_take (i := 12) (v := ?v8012) rfl (by kernel_rfl) (by kernel_rfl) (by kernel_rfl) (fun _ _ _ h => h) (Or.inl ⟨by rfl, ?y8012⟩) hHeld ?r8012
          case y8012 => ((intro W hSw; go_simp) <;> with_reducible rfl)
          try simp only [Act.put]
          try simp only [List.getElem_toArray]
          try simp only [List.getElem_cons_succ]
          try simp only [List.getElem_cons_zero]
          try simp only [List.setIfInBounds_toArray]
          try simp only [List.set_cons_succ]
          try simp only [List.set_cons_zero]
          refine wpAnyH_take (i := 13) (v := ?v8013) rfl (by kernel_rfl) (by kernel_rfl) (by kernel_rfl) (fun _ _ _ h => h) (Or.inl ⟨by rfl, ?y8013⟩) hHeld ?r8013
          case y8013 => ((intro W hSw; go_simp) <;> with_reducible rfl)
          try simp only [Act.put]
          try simp only [List.getElem_toArray]
          try simp only [List.getElem_cons_succ]
          try simp only [List.getElem_cons_zero]
          try simp only [List.setIfInBounds_toArray]
          try simp only [List.set_cons_succ]
          try simp only [List.set_cons_zero]
          refine wpAnyH_take (i := 14) (v := ?v8014) rfl (by kernel_rfl) (by kernel_rfl) (by kernel_rfl) (fun _ _ _ h => h) (Or.inl ⟨by rfl, ?y8014⟩) hHeld ?r8014
          case y8014 => ((intro W hSw; go_simp) <;> with_reducible rfl)
          try simp only [Act.put]
          try simp only [List.getElem_toArray]
          try simp only [List.getElem_cons_succ]
          try simp only [List.getElem_cons_zero]
          try simp only [List.setIfInBounds_toArray]
          try simp only [List.set_cons_succ]
          try simp only [List.set_cons_zero]
          refine wpAnyH_take (i := 15) (v := ?v8015) rfl (by kernel_rfl) (by kernel_rfl) (by kernel_rfl) (fun _ _ _ h => h) (Or.inl ⟨by rfl, ?y8015⟩) hHeld ?r8015
          case y8015 => ((intro W hSw; go_simp) <;> with_reducible rfl)
          try simp only [Act.put]
          try simp only [List.getElem_toArray]
          try simp only [List.getElem_cons_succ]
          try simp only [List.getElem_cons_zero]
          try simp only [List.setIfInBounds_toArray]
          try simp only [List.set_cons_succ]
          try simp only [List.set_cons_zero]
          refine wpAnyH_take (i := 16) (v := ?v8016) rfl (by kernel_rfl) (by kernel_rfl) (by kernel_rfl) (fun _ _ _ h => h) (Or.inl ⟨by rfl, ?y8016⟩) hHeld ?r8016
          case y8016 => ((intro W hSw; go_simp) <;> with_reducible rfl)
          try simp only [Act.put]
          try simp only [List.getElem_toArray]
          try simp only [List.getElem_cons_succ]
          try simp only [List.getElem_cons_zero]
          try simp only [List.setIfInBounds_toArray]
          try simp only [List.set_cons_succ]
          try simp only [List.set_cons_zero]
          refine wpAnyH_take (i := 17) (v := ?v8017) rfl (by kernel_rfl) (by kernel_rfl) (by kernel_rfl) (fun _ _ _ h => h) (Or.inl ⟨by rfl, ?y8017⟩) hHeld ?r8017
          case y8017 => ((intro W hSw; go_simp) <;> with_reducible rfl)
          try simp only [Act.put]
          try simp only [List.getElem_toArray]
          try simp only [List.getElem_cons_succ]
          try simp only [List.getElem_cons_zero]
          try simp only [List.setIfInBounds_toArray]
          try simp only [List.set_cons_succ]
          try simp only [List.set_cons_zero]
          refine wpAnyH_take (i := 18) (v := ?v8018) rfl (by kernel_rfl) (by kernel_rfl) (by kernel_rfl) (fun _ _ _ h => h) (Or.inl ⟨by rfl, ?y8018⟩) hHeld ?r8018
          case y8018 => ((intro W hSw; go_simp) <;> with_reducible rfl)
          try simp only [Act.put]
          try simp only [List.getElem_toArray]
          try simp only [List.getElem_cons_succ]
          try simp only [List.getElem_cons_zero]
          try simp only [List.setIfInBounds_toArray]
          try simp only [List.set_cons_succ]
          try simp only [List.set_cons_zero]
          refine wpAnyH_take (i := 19) (v := ?v8019) rfl (by kernel_rfl) (by kernel_rfl) (by kernel_rfl) (fun _ _ _ h => h) (Or.inl ⟨by rfl, ?y8019⟩) hHeld ?r8019
          case y8019 => ((intro W hSw; go_simp) <;> with_reducible rfl)
          try simp only [Act.put]
          try simp only [List.getElem_toArray]
          try simp only [List.getElem_cons_succ]
          try simp only [List.getElem_cons_zero]
          try simp only [List.setIfInBounds_toArray]
          try simp only [List.set_cons_succ]
          try simp only [List.set_cons_zero]
          refine wpAnyH_take (i := 20) (v := ?v8020) rfl (by kernel_rfl) (by kernel_rfl) (by kernel_rfl) (fun _ _ _ h => h) (Or.inl ⟨by rfl, ?y8020⟩) hHeld ?r8020
          case y8020 => ((intro W hSw; go_simp) <;> with_reducible rfl)
          try simp only [Act.put]
          try simp only [List.getElem_toArray]
          try simp only [List.getElem_cons_succ]
          try simp only [List.getElem_cons_zero]
          try simp only [List.setIfInBounds_toArray]
          try simp only [List.set_cons_succ]
          try simp only [List.set_cons_zero]
          refine wpAnyH_take (i := 21) (v := ?v8021) rfl (by kernel_rfl) (by kernel_rfl) (by kernel_rfl) (fun _ _ _ h => h) (Or.inl ⟨by rfl, ?y8021⟩) hHeld ?r8021
          case y8021 => ((intro W hSw; go_simp) <;> with_reducible rfl)
          try simp only [Act.put]
          try simp only [List.getElem_toArray]
          try simp only [List.getElem_cons_succ]
          try simp only [List.getElem_cons_zero]
          try simp only [List.setIfInBounds_toArray]
          try simp only [List.set_cons_succ]
          try simp only [List.set_cons_zero]
          refine wpAnyH_take (i := 22) (v := ?v8022) rfl (by kernel_rfl) (by kernel_rfl) (by kernel_rfl) (fun _ _ _ h => h) (Or.inl ⟨by rfl, ?y8022⟩) hHeld ?r8022
          case y8022 => ((intro W hSw; go_simp) <;> with_reducible rfl)
          try simp only [Act.put]
          try simp only [List.getElem_toArray]
          try simp only [List.getElem_cons_succ]
          try simp only [List.getElem_cons_zero]
          try simp only [List.setIfInBounds_toArray]
          try simp only [List.set_cons_succ]
          try simp only [List.set_cons_zero]
          refine wpAnyH_take (i := 23) (v := ?v8023) rfl (by kernel_rfl) (by kernel_rfl) (by kernel_rfl) (fun _ _ _ h => h) (Or.inl ⟨by rfl, ?y8023⟩) hHeld ?r8023
          case y8023 => ((intro W hSw; go_simp) <;> with_reducible rfl)
          try simp only [Act.put]
          try simp only [List.getElem_toArray]
          try simp only [List.getElem_cons_succ]
          try simp only [List.getElem_cons_zero]
          try simp only [List.setIfInBounds_toArray]
          try simp only [List.set_cons_succ]
          try simp only [List.set_cons_zero]
          refine wpAnyH_take (i := 24) (v := ?v8024) rfl (by kernel_rfl) (by kernel_rfl) (by kernel_rfl) (fun _ _ _ h => h) (Or.inl ⟨by rfl, ?y8024⟩) hHeld ?r8024
          case y8024 => ((intro W hSw; go_simp) <;> with_reducible rfl)
          try simp only [Act.put]
          try simp only [List.getElem_toArray]
          try simp only [List.getElem_cons_succ]
          try simp only [List.getElem_cons_zero]
          try simp only [List.setIfInBounds_toArray]
          try simp only [List.set_cons_succ]
          try simp only [List.set_cons_zero]
          refine wpAnyH_ready (rs := [4, 25]) (by kernel_rfl) (by simp) ?_
          refine AllReadyH.cons rfl (fun K hK => ?_) (AllReadyH.cons rfl (fun K hK => ?_) AllReadyH.nil)
          · go_simp
            refine hK.out _ _ hHeld (fun hHeld => ?_)
            clear hK K
            refine wpAnyH_ready (rs := [25]) (by kernel_rfl) (by simp) ?_
            refine AllReadyH.cons rfl (fun K hK => ?_) AllReadyH.nil
            go_simp
            refine hK.out _ _ ((World.cell?_alloc_lt _ _ _ (lt_of_cell hHeld)).trans hHeld) (fun hHeld => ?_)
            clear hK K
            refine wpAnyH_ready (rs := [26]) (by kernel_rfl) (by simp) ?_
            refine AllReadyH.cons rfl (fun K hK => ?_) AllReadyH.nil
            rw [if_pos (by rfl)]
            refine wp_append_at (.tmp 83) (.tmp 104) 27 rfl (g + 1) 3 ic (.int .i64 0) 1 8 Try.underlying27 Hic.out.1 Hic.out.2.1 Hic.out.2.2.1 Hic.out.2.2.2 rfl (by decide) (.slice am AS.length cm) (AS.map (Value.int .i64)).length (AS.map (Value.int .i64)) (by rfl) (by have h := World.ownsRow.drew (World.ownsRow.alloc RM.out (.cells #[.int .i64 m, .int .i64 m, .int .i64 m, .int .i64 m] 3)); rw [← Hob.out]; exact h) _ 4 4 [.int .i64 m, .int .i64 m, .int .i64 m, .int .i64 m] (by rfl) rfl (cells_newAt _ [.int .i64 m, .int .i64 m, .int .i64 m, .int .i64 m] _ _ (by simp)) ?_ ?_ ?_ ?_ ?_
            · intro u hu; simp at hu; subst hu; rfl
            · unfold maxLen; omega
            · omega
            · simp; omega
            intro v5 w5 h5 g5 d5
            rw [← Hob.out] at g5 d5
            obtain ⟨a5, p5, rfl⟩ := row_shape h5
            have H5 : Hid (w5.ownsRow (g + 1) 3 1 (.slice a5 ((AS.map (Value.int .i64)).length + 4) p5) ((AS.map (Value.int .i64)).length + 4) (AS.map (Value.int .i64) ++ [.int .i64 m, .int .i64 m, .int .i64 m, .int .i64 m])) := h5
            have X5 : Hid (Chg (fun b => (Value.slice am (AS.map (Value.int .i64)).length cm).ownBlock = some b) (w4.setCell ⟨g, 4, none⟩ (.slice a4 (AL.length + 4) p4)) w5) := (((Chg.refl _ _).alloc _).drew).trans (Chg.ofGrown g5) (fun _ _ e => e)
            have D5 : Hid ((Value.slice a5 ((AS.map (Value.int .i64)).length + 4) p5).ownBlock = (Value.slice am (AS.map (Value.int .i64)).length cm).ownBlock ∨ ∀ b, (Value.slice a5 ((AS.map (Value.int .i64)).length + 4) p5).ownBlock = some b → w4.heap.size ≤ b) := d5.imp id (fun e b hb => by rw [e] at hb; simp at hb; omega)
            have hmg : ¬ (Value.slice am (AS.map (Value.int .i64)).length cm).ownBlock = some g := fun e => by have := (BK3.out.ap.rk.lt g e).1; omega
            have r5 := X5.out.cell H56.out.1 hmg
            have r6 := X5.out.cell H56.out.2 hmg
            have f5 : ∀ o, w5.frozen? ⟨g, o, none⟩ = false := fun o => (X5.out.frozen (p := ⟨g, o, none⟩) (by simp; omega) hmg).trans ((World.frozen?_setCell _ _ _ _).trans (f4 o))
            refine hK.out _ _ r6 (fun hHeld => ?_)
            clear hK K h5 g5 d5
            try simp only [Act.put]
            try simp only [List.getElem_toArray]
            try simp only [List.getElem_cons_succ]
            try simp only [List.getElem_cons_zero]
            try simp only [List.setIfInBounds_toArray]
            try simp only [List.set_cons_succ]
            try simp only [List.set_cons_zero]
            refine wpAnyH_take (i := 27) (v := ?v8025) rfl (by kernel_rfl) (by kernel_rfl) (by kernel_rfl) (fun _ _ _ h => h) (Or.inl ⟨by rfl, ?y8025⟩) hHeld ?r8025
            case y8025 => ((intro W hSw; go_simp) <;> with_reducible rfl)
            try simp only [Act.put]
            try simp only [List.getElem_toArray]
            try simp only [List.getElem_cons_succ]
            try simp only [List.getElem_cons_zero]
            try simp only [List.setIfInBounds_toArray]
            try simp only [List.set_cons_succ]
            try simp only [List.set_cons_zero]
            refine wpAnyH_take (i := 28) (v := ?v8026) rfl (by kernel_rfl) (by kernel_rfl) (by kernel_rfl) (fun _ _ _ h => h) (Or.inl ⟨by rfl, ?y8026⟩) hHeld ?r8026
            case y8026 => ((intro W hSw; go_simp) <;> with_reducible rfl)
            try simp only [Act.put]
            try simp only [List.getElem_toArray]
            try simp only [List.getElem_cons_succ]
            try simp only [List.getElem_cons_zero]
            try simp only [List.setIfInBounds_toArray]
            try simp only [List.set_cons_succ]
            try simp only [List.set_cons_zero]
            refine wpAnyH_ready (rs := [29]) (by kernel_rfl) (by simp) ?_
            refine AllReadyH.cons rfl (fun K hK => ?_) AllReadyH.nil
            go_simp
            refine hK.out _ _ ((World.cell?_setCell_other _ ⟨g, 5, none⟩ ⟨g, 6, none⟩ _ (by simp)).trans r6) (fun hHeld => ?_)
            clear hK K hHeld
            refine wpAnyH_done (by kernel_rfl) ?_ _
            refine NoPanic.normal ?_
            go_wp2
            obtain ⟨z1, z2, z3⟩ := takenA HBk.out BK3.out HB9.out HG9.out HW9.out X3.out.size HV.out M30.out M31.out M32.out M33.out (by omega) D1.out D2.out D3.out H4.out X4.out D4.out H5.out X5.out D5.out
            simp only [List.length_map] at z1 z2
            refine bodyPost_end (v := .tuple #[]) (by simp [results, Try.results45, go_sem]) rfl ⟨rfl, roleOf wr ρ1 6 7 (.slice a4 (AL.length + 4) p4) (.slice a5 (AS.length + 4) p5) (.slice ao k cap) (.slice a1 (k + 1) p1) (.slice a2 (k + 2) p2) (.slice a3 (k + 3) p3), nv1, nk1, .slice a4 (AL.length + 4) p4, .slice a5 (AS.length + 4) p5, NL1, NS1, AL ++ [.slice ao k cap, .slice a1 (k + 1) p1, .slice a2 (k + 2) p2, .slice a3 (k + 3) p3], AS ++ [m, m, m, m], ?_, ?_, ?_, ?_, ?_, ?_⟩
            · rw [List.map_append]
              exact z1
            · exact Hlen.out
            · simp
            · intro b hb hne
              have e := Hrho.out b hb hne
              rw [z2 b (by have := Hch.out.size; omega) (by rw [e]; exact hne), e]
            · refine (((Hch.out.trans X3.out ?_).trans X4.out ?_).setCell ⟨g, 4, none⟩ (.inl ⟨Nat.le_refl _, HFg.out⟩) _ |>.trans X5.out ?_).setCell ⟨g, 5, none⟩ (.inl ⟨Nat.le_refl _, HFg.out⟩) _
              · exact fun b _ e => ⟨by have := (World.ownsRow.lt M30.out b e).1; omega, HFl.out b e⟩
              · exact fun b _ e => ⟨by have := (BK3.out.ap.rl.lt b e).1; omega, fun hF => by have := Hfar.out b hF; rw [BK3.out.ap.fl b e] at this; cases this⟩
              · exact fun b _ e => ⟨by have := (BK3.out.ap.rk.lt b e).1; omega, fun hF => by have := Hfar.out b hF; rw [BK3.out.ap.fm b e] at this; cases this⟩
            · intro b hF
              simp only [List.length_map] at z3
              exact z3 b (by have := Hch.out.size; have := (HF.out b hF).2.1; omega) (fun e => HFl.out b e hF) (Hfar.out b hF)
          · go_simp
            refine hK.out _ _ ((World.cell?_alloc_lt _ _ _ (lt_of_cell hHeld)).trans hHeld) (fun hHeld => ?_)
            clear hK K
            refine wpAnyH_ready (rs := [4]) (by kernel_rfl) (by simp) ?_
            refine AllReadyH.cons rfl (fun K hK => ?_) AllReadyH.nil
            go_simp
            refine hK.out _ _ hHeld (fun hHeld => ?_)
            clear hK K
            refine wpAnyH_ready (rs := [26]) (by kernel_rfl) (by simp) ?_
            refine AllReadyH.cons rfl (fun K hK => ?_) AllReadyH.nil
            rw [if_pos (by rfl)]
            refine wp_append_at (.tmp 83) (.tmp 104) 27 rfl (g + 1) 3 ic (.int .i64 0) 1 8 Try.underlying27 Hic.out.1 Hic.out.2.1 Hic.out.2.2.1 Hic.out.2.2.2 rfl (by decide) (.slice am AS.length cm) (AS.map (Value.int .i64)).length (AS.map (Value.int .i64)) (by rfl) (by have h := World.ownsRow.drew (World.ownsRow.alloc RM.out (.cells #[.int .i64 m, .int .i64 m, .int .i64 m, .int .i64 m] 3)); rw [← Hob.out]; exact h) _ 4 4 [.int .i64 m, .int .i64 m, .int .i64 m, .int .i64 m] (by rfl) rfl (cells_newAt _ [.int .i64 m, .int .i64 m, .int .i64 m, .int .i64 m] _ _ (by simp)) ?_ ?_ ?_ ?_ ?_
            · intro u hu; simp at hu; subst hu; rfl
            · unfold maxLen; omega
            · omega
            · simp; omega
            intro v5 w5 h5 g5 d5
            rw [← Hob.out] at g5 d5
            obtain ⟨a5, p5, rfl⟩ := row_shape h5
            have H5 : Hid (w5.ownsRow (g + 1) 3 1 (.slice a5 ((AS.map (Value.int .i64)).length + 4) p5) ((AS.map (Value.int .i64)).length + 4) (AS.map (Value.int .i64) ++ [.int .i64 m, .int .i64 m, .int .i64 m, .int .i64 m])) := h5
            have X5 : Hid (Chg (fun b => (Value.slice am (AS.map (Value.int .i64)).length cm).ownBlock = some b) (w4.setCell ⟨g, 4, none⟩ (.slice a4 (AL.length + 4) p4)) w5) := (((Chg.refl _ _).alloc _).drew).trans (Chg.ofGrown g5) (fun _ _ e => e)
            have D5 : Hid ((Value.slice a5 ((AS.map (Value.int .i64)).length + 4) p5).ownBlock = (Value.slice am (AS.map (Value.int .i64)).length cm).ownBlock ∨ ∀ b, (Value.slice a5 ((AS.map (Value.int .i64)).length + 4) p5).ownBlock = some b → w4.heap.size ≤ b) := d5.imp id (fun e b hb => by rw [e] at hb; simp at hb; omega)
            have hmg : ¬ (Value.slice am (AS.map (Value.int .i64)).length cm).ownBlock = some g := fun e => by have := (BK3.out.ap.rk.lt g e).1; omega
            have r5 := X5.out.cell H56.out.1 hmg
            have r6 := X5.out.cell H56.out.2 hmg
            have f5 : ∀ o, w5.frozen? ⟨g, o, none⟩ = false := fun o => (X5.out.frozen (p := ⟨g, o, none⟩) (by simp; omega) hmg).trans ((World.frozen?_setCell _ _ _ _).trans (f4 o))
            refine hK.out _ _ r6 (fun hHeld => ?_)
            clear hK K h5 g5 d5
            try simp only [Act.put]
            try simp only [List.getElem_toArray]
            try simp only [List.getElem_cons_succ]
            try simp only [List.getElem_cons_zero]
            try simp only [List.setIfInBounds_toArray]
            try simp only [List.set_cons_succ]
            try simp only [List.set_cons_zero]
            refine wpAnyH_take (i := 27) (v := ?v8027) rfl (by kernel_rfl) (by kernel_rfl) (by kernel_rfl) (fun _ _ _ h => h) (Or.inl ⟨by rfl, ?y8027⟩) hHeld ?r8027
            case y8027 => ((intro W hSw; go_simp) <;> with_reducible rfl)
            try simp only [Act.put]
            try simp only [List.getElem_toArray]
            try simp only [List.getElem_cons_succ]
            try simp only [List.getElem_cons_zero]
            try simp only [List.setIfInBounds_toArray]
            try simp only [List.set_cons_succ]
            try simp only [List.set_cons_zero]
            refine wpAnyH_take (i := 28) (v := ?v8028) rfl (by kernel_rfl) (by kernel_rfl) (by kernel_rfl) (fun _ _ _ h => h) (Or.inl ⟨by rfl, ?y8028⟩) hHeld ?r8028
            case y8028 => ((intro W hSw; go_simp) <;> with_reducible rfl)
            try simp only [Act.put]
            try simp only [List.getElem_toArray]
            try simp only [List.getElem_cons_succ]
            try simp only [List.getElem_cons_zero]
            try simp only [List.setIfInBounds_toArray]
            try simp only [List.set_cons_succ]
            try simp only [List.set_cons_zero]
            refine wpAnyH_ready (rs := [29]) (by kernel_rfl) (by simp) ?_
            refine AllReadyH.cons rfl (fun K hK => ?_) AllReadyH.nil
            go_simp
            refine hK.out _ _ ((World.cell?_setCell_other _ ⟨g, 5, none⟩ ⟨g, 6, none⟩ _ (by simp)).trans r6) (fun hHeld => ?_)
            clear hK K hHeld
            refine wpAnyH_done (by kernel_rfl) ?_ _
            refine NoPanic.normal ?_
            go_wp2
            obtain ⟨z1, z2, z3⟩ := takenA HBk.out BK3.out HB9.out HG9.out HW9.out X3.out.size HV.out M30.out M31.out M32.out M33.out (by omega) D1.out D2.out D3.out H4.out X4.out D4.out H5.out X5.out D5.out
            simp only [List.length_map] at z1 z2
            refine bodyPost_end (v := .tuple #[]) (by simp [results, Try.results45, go_sem]) rfl ⟨rfl, roleOf wr ρ1 6 7 (.slice a4 (AL.length + 4) p4) (.slice a5 (AS.length + 4) p5) (.slice ao k cap) (.slice a1 (k + 1) p1) (.slice a2 (k + 2) p2) (.slice a3 (k + 3) p3), nv1, nk1, .slice a4 (AL.length + 4) p4, .slice a5 (AS.length + 4) p5, NL1, NS1, AL ++ [.slice ao k cap, .slice a1 (k + 1) p1, .slice a2 (k + 2) p2, .slice a3 (k + 3) p3], AS ++ [m, m, m, m], ?_, ?_, ?_, ?_, ?_, ?_⟩
            · rw [List.map_append]
              exact z1
            · exact Hlen.out
            · simp
            · intro b hb hne
              have e := Hrho.out b hb hne
              rw [z2 b (by have := Hch.out.size; omega) (by rw [e]; exact hne), e]
            · refine (((Hch.out.trans X3.out ?_).trans X4.out ?_).setCell ⟨g, 4, none⟩ (.inl ⟨Nat.le_refl _, HFg.out⟩) _ |>.trans X5.out ?_).setCell ⟨g, 5, none⟩ (.inl ⟨Nat.le_refl _, HFg.out⟩) _
              · exact fun b _ e => ⟨by have := (World.ownsRow.lt M30.out b e).1; omega, HFl.out b e⟩
              · exact fun b _ e => ⟨by have := (BK3.out.ap.rl.lt b e).1; omega, fun hF => by have := Hfar.out b hF; rw [BK3.out.ap.fl b e] at this; cases this⟩
              · exact fun b _ e => ⟨by have := (BK3.out.ap.rk.lt b e).1; omega, fun hF => by have := Hfar.out b hF; rw [BK3.out.ap.fm b e] at this; cases this⟩
            · intro b hF
              simp only [List.length_map] at z3
              exact z3 b (by have := Hch.out.size; have := (HF.out b hF).2.1; omega) (fun e => HFl.out b e hF) (Hfar.out b hF)

end Go.Proofs.Ytdjhhnolcafkiaa

/- (*stream[kept]): remove, removeFirst, add. -/
namespace Go.Proofs.Ytdjhhnolcafkiaa
open Go.RowKit Pk

set_option maxRecDepth 20000 in
set_option maxHeartbeats 4000000 in
theorem removeK_any (base sb : Nat) (v : Value) (l : List Kp) (num : Nat) (w : World) (hv : w.cell? ⟨sb, 2, none⟩ = some v) (hf : ∀ o, w.frozen? ⟨sb, o, none⟩ = false) (hne : v.ownBlock ≠ some sb) (hown : w.ownsRow base 185 13 v l.length (l.flatMap cellsK)) (h1 : OneK l) (hn : l.length ≤ 99000) :
    Calls Try.prog 122 #[.pointer (some ⟨sb, 0, none⟩), .int .u16 num] w fun e w' => e = .returned (.bool (decide (0 ≤ posF num (l.map Kp.n)))) ∧ ∃ v', Upd w w' sb v v' ∧ w'.ownsRow base 185 13 v' (rmF Kp.n num l).length ((rmF Kp.n num l).flatMap cellsK) := by
  obtain ⟨ao, cap, rfl⟩ := rowA_shape hown
  have Hown : Hid (w.ownsRow base 185 13 (.slice ao l.length cap) l.length (l.flatMap cellsK)) := hown
  have hs : sb < w.heap.size := lt_of_cell hv
  have Hv : Hid (w.cell? ⟨sb, 2, none⟩ = some (.slice ao l.length cap)) := hv
  have Hf : Hid (∀ o, w.frozen? ⟨sb, o, none⟩ = false) := hf
  clear hown hf hv
  have H1 : Hid (OneK l) := h1
  clear h1
  go_enter Try.func122, Try.ntmps122
  go_wp2_with fail
  refine (findK_any base sb _ l num _ Hv.out Hown.out (by omega)).mono ?_
  rintro e w1 ⟨rfl, hb1⟩
  have Hr1 : Hid (w1.ownsRow base 185 13 (.slice ao l.length cap) l.length (l.flatMap cellsK)) := rowA_chg (Chg.ofBelow (T := fun _ => False) hb1) Hown.out (fun _ _ e => e)
  have y2 : w1.cell? ⟨sb, 2, none⟩ = some (.slice ao l.length cap) := (hb1.cell (p := ⟨sb, 2, none⟩) hs).trans Hv.out
  have yf : ∀ o, w1.frozen? ⟨sb, o, none⟩ = false := fun o => (hb1.frozen (p := ⟨sb, o, none⟩) hs).trans (Hf.out o)
  have Hb1 : Hid (Below w.heap.size w w1) := hb1
  have hs1 : sb < w1.heap.size := Nat.lt_of_lt_of_le hs hb1.size
  clear hb1 Hown
  rcases posF_cases num (l.map Kp.n) with ⟨hp, -⟩ | ⟨i, hi, hp, -⟩
  · have HR : Hid (rmF Kp.n num l = l) := by show _ = _; unfold rmF; rw [if_pos (by rw [hp]; decide)]
    have Hp : Hid (false = decide (0 ≤ posF num (l.map Kp.n))) := by show _ = _; rw [hp]; decide
    rw [hp]
    clear hp
    go_wp2
    go_ret
    refine ⟨ret_bool Hp.out, _, Upd.before Hb1.out hs (Upd.refl y2), ?_⟩
    rw [HR.out]
    exact Hr1.out
  · have hil : i < l.length := by simpa using hi
    have HR : Hid (rmF Kp.n num l = l.take i ++ l.drop (i + 1)) := by show _ = _; unfold rmF; rw [if_neg (by rw [hp]; omega), hp]; rfl
    have Hp : Hid (decide (0 ≤ posF num (l.map Kp.n)) = true) := by show _ = _; rw [hp]; exact decide_eq_true (by omega)
    rw [hp]
    clear hp hi
    go_wp2_with fail
    refine (deleteK_any base _ l.length i (i + 1) (l.flatMap cellsK) _ Hr1.out (cellsK_one l H1.out) (by omega) (by omega) (by omega)).mono ?_
    rintro e w2 ⟨v', rfl, hown2, hg2, ho2⟩
    obtain ⟨a2, c2, rfl⟩ := rowA_shape hown2
    have hlen : l.length - (i + 1 - i) = (rmF Kp.n num l).length := by rw [HR.out, List.length_append, List.length_take, List.length_drop]; omega
    rw [hlen, flat_take cellsK_len, flat_drop cellsK_len, ← List.flatMap_append, ← HR.out] at hown2
    rw [hlen]
    have hc2 : Chg (fun x => (Value.slice ao l.length cap).ownBlock = some x) w1 w2 := Chg.ofGrown hg2
    have z2 : w2.cell? ⟨sb, 2, none⟩ = some (.slice ao l.length cap) := hc2.cell y2 hne
    have zf : ∀ o, w2.frozen? ⟨sb, o, none⟩ = false := fun o => (hc2.frozen (p := ⟨sb, o, none⟩) hs1 hne).trans (yf o)
    generalize hrn : (rmF Kp.n num l).length = rn at *
    have Hrn : Hid ((rmF Kp.n num l).length = rn) := hrn
    clear hrn
    have HU : Hid (Upd w (w2.setCell ⟨sb, 2, none⟩ (.slice a2 rn c2)) sb (.slice ao l.length cap) (.slice a2 rn c2)) := Upd.before Hb1.out hs (Upd.stored hs1 y2 hne hg2 (fun x hx => .inl (by rw [hlen] at ho2; exact ho2 ▸ hx)))
    have HRR : Hid (World.ownsRow (w2.setCell ⟨sb, 2, none⟩ (.slice a2 rn c2)) base 185 13 (.slice a2 rn c2) rn ((rmF Kp.n num l).flatMap cellsK)) := rowA_chg (T := fun x => x = sb) ((Chg.refl (fun x => x = sb) _).setCell ⟨sb, 2, none⟩ (.inl rfl) _) hown2 (fun x hx e => hne (by subst e; rw [hlen] at ho2; exact ho2 ▸ hx))
    clear hown2 hg2 ho2 hc2 hlen
    go_wp2
    go_ret
    rw [Hrn.out]
    exact ⟨ret_bool Hp.out.symm, _, HU.out, HRR.out⟩

set_option maxRecDepth 20000 in
set_option maxHeartbeats 4000000 in
theorem removeFirstK_any (base sb : Nat) (v : Value) (l : List Kp) (c : Nat) (w : World) (hv : w.cell? ⟨sb, 2, none⟩ = some v) (hf : ∀ o, w.frozen? ⟨sb, o, none⟩ = false) (hne : v.ownBlock ≠ some sb) (hown : w.ownsRow base 185 13 v l.length (l.flatMap cellsK)) (h1 : OneK l) (hn : l.length ≤ 99000) (hcl : c ≤ l.length) :
    Calls Try.prog 109 #[.pointer (some ⟨sb, 0, none⟩), .int .i64 c] w fun e w' => e = .returned (.tuple #[]) ∧ ∃ v', Upd w w' sb v v' ∧ w'.ownsRow base 185 13 v' (l.drop c).length ((l.drop c).flatMap cellsK) := by
  obtain ⟨ao, cap, rfl⟩ := rowA_shape hown
  have Hown : Hid (w.ownsRow base 185 13 (.slice ao l.length cap) l.length (l.flatMap cellsK)) := hown
  have hs : sb < w.heap.size := lt_of_cell hv
  clear hown
  have H1 : Hid (OneK l) := h1
  clear h1
  go_enter Try.func109, Try.ntmps109
  go_wp2_with fail
  refine (deleteK_any base _ l.length 0 c (l.flatMap cellsK) _ Hown.out (cellsK_one l H1.out) (by omega) hcl (by omega)).mono ?_
  rintro e w2 ⟨v', rfl, hown2, hg2, ho2⟩
  obtain ⟨a2, c2, rfl⟩ := rowA_shape hown2
  have hlen : l.length - (c - 0) = (l.drop c).length := by rw [List.length_drop]; omega
  rw [hlen, Nat.zero_mul, List.take_zero, List.nil_append, flat_drop cellsK_len] at hown2
  rw [hlen]
  have hc2 : Chg (fun x => (Value.slice ao l.length cap).ownBlock = some x) w w2 := Chg.ofGrown hg2
  have z2 : w2.cell? ⟨sb, 2, none⟩ = some (.slice ao l.length cap) := hc2.cell hv hne
  have zf : ∀ o, w2.frozen? ⟨sb, o, none⟩ = false := fun o => (hc2.frozen (p := ⟨sb, o, none⟩) hs hne).trans (hf o)
  generalize hrn : (l.drop c).length = rn at *
  have Hrn : Hid ((l.drop c).length = rn) := hrn
  clear hrn
  have HU : Hid (Upd w (w2.setCell ⟨sb, 2, none⟩ (.slice a2 rn c2)) sb (.slice ao l.length cap) (.slice a2 rn c2)) := Upd.stored hs hv hne hg2 (fun x hx => .inl (by rw [hlen] at ho2; exact ho2 ▸ hx))
  have HRR : Hid (World.ownsRow (w2.setCell ⟨sb, 2, none⟩ (.slice a2 rn c2)) base 185 13 (.slice a2 rn c2) rn ((l.drop c).flatMap cellsK)) := rowA_chg (T := fun x => x = sb) ((Chg.refl (fun x => x = sb) _).setCell ⟨sb, 2, none⟩ (.inl rfl) _) hown2 (fun x hx e => hne (by subst e; rw [hlen] at ho2; exact ho2 ▸ hx))
  clear hown2 hg2 ho2 hc2 hlen hf hv
  go_wp2
  go_end0
  rw [Hrn.out]
  exact ⟨rfl, _, HU.out, HRR.out⟩

set_option maxRecDepth 20000 in
set_option maxHeartbeats 8000000 in
theorem addK_any (base sb : Nat) (v : Value) (l : List Kp) (num : Nat) (x : PP) (cv : Value) (re : Int) (w : World) (hv : w.cell? ⟨sb, 2, none⟩ = some v) (hf : ∀ o, w.frozen? ⟨sb, o, none⟩ = false) (hne : v.ownBlock ≠ some sb) (hown : w.ownsRow base 185 13 v l.length (l.flatMap cellsK)) (h1 : OneK l) (hcv : cv.oneCell' = true) (hn : l.length ≤ 98000) (hb : base ≤ w.heap.size) (hsb : sb < base) :
    Calls Try.prog 108 #[.pointer (some ⟨sb, 0, none⟩), .int .u16 num, .agg #[.bool x.mrk, .int .i64 x.ty, .int .i64 x.nu, .int .i64 x.ti, .int .i64 x.so, cv, .bool x.ex, .int .i64 x.pr, .string x.en, .string x.py, .int .i64 x.pa, .int .i64 re]] w fun e w' => e = .returned (.tuple #[]) ∧ ∃ v', Upd w w' sb v v' ∧ w'.ownsRow base 185 13 v' (rmF Kp.n num l ++ ([⟨num, x, cv, re⟩] : List Kp)).length ((rmF Kp.n num l ++ ([⟨num, x, cv, re⟩] : List Kp)).flatMap cellsK) := by
  have hs : sb < w.heap.size := lt_of_cell hv
  have hrl := rmF_length (fun x : Kp => x.n) num l
  have Hown : Hid (w.ownsRow base 185 13 v l.length (l.flatMap cellsK)) := hown
  have Hv : Hid (w.cell? ⟨sb, 2, none⟩ = some v) := hv
  have Hf : Hid (∀ o, w.frozen? ⟨sb, o, none⟩ = false) := hf
  have hvl : ∀ x, v.ownBlock = some x → x < w.heap.size := fun x hx => (hown.lt x hx).2
  obtain ⟨i0, hi0, hz0, hz1, hz2⟩ := info_parts infoK
  have Hi : Hid (Try.prog.info? 185 = some i0 ∧ i0.zero = _ ∧ i0.size = 13 ∧ i0.bytes = 136) := ⟨hi0, hz0, hz1, hz2⟩
  clear hown hf hv hi0 hz0 hz1 hz2
  have H1 : Hid (OneK l) := h1
  clear h1
  go_enter Try.func108, Try.ntmps108
  go_wp2_with fail
  refine (removeK_any base sb v l num _ ((World.cell?_alloc_lt _ _ _ (by simpa using hs)).trans Hv.out) (fun o => (((Below.refl w.heap.size w).alloc (Nat.le_refl _) _).frozen (p := ⟨sb, o, none⟩) hs).trans (Hf.out o)) hne (World.ownsRow.alloc Hown.out _) H1.out (by omega)).mono ?_
  rintro e w2 ⟨rfl, v2, hU2, hr2⟩
  obtain ⟨a2, c2, rfl⟩ := rowA_shape hr2
  have hnb : ¬ (w.heap.size = sb ∨ v.ownBlock = some w.heap.size) := by
    rintro (e | e)
    · omega
    · have := hvl _ e; omega
  have hbx : ∀ o u, (w.alloc (.cells #[.bool x.mrk, .int .i64 x.ty, .int .i64 x.nu, .int .i64 x.ti, .int .i64 x.so, cv, .bool x.ex, .int .i64 x.pr, .string x.en, .string x.py, .int .i64 x.pa, .int .i64 re] 170)).cell? ⟨w.heap.size, o, none⟩ = some u → w2.cell? ⟨w.heap.size, o, none⟩ = some u := fun o u hu => hU2.chg.cell (p := ⟨w.heap.size, o, none⟩) hu hnb
  have q0 : w2.cell? ⟨w.heap.size, 0, none⟩ = some (.bool x.mrk) := hbx 0 _ (cell_new _ _ _ 0)
  have q1 : w2.cell? ⟨w.heap.size, 1, none⟩ = some (.int .i64 x.ty) := hbx 1 _ (cell_new _ _ _ 1)
  have q2 : w2.cell? ⟨w.heap.size, 2, none⟩ = some (.int .i64 x.nu) := hbx 2 _ (cell_new _ _ _ 2)
  have q3 : w2.cell? ⟨w.heap.size, 3, none⟩ = some (.int .i64 x.ti) := hbx 3 _ (cell_new _ _ _ 3)
  have q4 : w2.cell? ⟨w.heap.size, 4, none⟩ = some (.int .i64 x.so) := hbx 4 _ (cell_new _ _ _ 4)
  have q5 : w2.cell? ⟨w.heap.size, 5, none⟩ = some (cv) := hbx 5 _ (cell_new _ _ _ 5)
  have q6 : w2.cell? ⟨w.heap.size, 6, none⟩ = some (.bool x.ex) := hbx 6 _ (cell_new _ _ _ 6)
  have q7 : w2.cell? ⟨w.heap.size, 7, none⟩ = some (.int .i64 x.pr) := hbx 7 _ (cell_new _ _ _ 7)
  have q8 : w2.cell? ⟨w.heap.size, 8, none⟩ = some (.string x.en) := hbx 8 _ (cell_new _ _ _ 8)
  have q9 : w2.cell? ⟨w.heap.size, 9, none⟩ = some (.string x.py) := hbx 9 _ (cell_new _ _ _ 9)
  have q10 : w2.cell? ⟨w.heap.size, 10, none⟩ = some (.int .i64 x.pa) := hbx 10 _ (cell_new _ _ _ 10)
  have q11 : w2.cell? ⟨w.heap.size, 11, none⟩ = some (.int .i64 re) := hbx 11 _ (cell_new _ _ _ 11)
  have HU2 : Hid (Upd w w2 sb v (.slice a2 (rmF Kp.n num l).length c2)) := Upd.before ((Below.refl _ _).alloc (Nat.le_refl _) _) hs hU2
  have Hr1 : Hid (w2.ownsRow base 185 13 (.slice a2 (rmF Kp.n num l).length c2) (rmF Kp.n num l).length ((rmF Kp.n num l).flatMap cellsK)) := hr2
  have y2 : w2.cell? ⟨sb, 2, none⟩ = some (.slice a2 (rmF Kp.n num l).length c2) := hU2.c2
  have yf : ∀ o, w2.frozen? ⟨sb, o, none⟩ = false := fun o => (HU2.out.fz o).trans (Hf.out o)
  have hs2 : sb < w2.heap.size := Nat.lt_of_lt_of_le hs HU2.out.chg.size
  have hb2 : base ≤ w2.heap.size := Nat.le_trans hb HU2.out.chg.size
  have hne2 : (Value.slice a2 (rmF Kp.n num l).length c2).ownBlock ≠ some sb := fun e => by have := (Hr1.out.lt sb e).1; omega
  clear hU2 hr2 hbx hnb
  generalize hrn : (rmF Kp.n num l).length = rn at *
  have Hrn : Hid ((rmF Kp.n num l).length = rn) := hrn
  clear hrn
  go_wp2
  refine wp_region_noPanic ?_
  refine wp_region_held_drew (S := fun _ => True) (by kernel_rfl) trivial (fun hHeld => ?_)
  refine wpAnyH_take (i := 0) (v := ?vt1) rfl (by kernel_rfl) (by kernel_rfl) (by kernel_rfl) (fun _ _ _ h => h) (Or.inl ⟨by rfl, ?yt1⟩) hHeld ?rt1
  case yt1 => ((intro W hSw; go_simp) <;> with_reducible rfl)
  try simp only [Act.put]
  try simp only [List.getElem_toArray]
  try simp only [List.getElem_cons_succ]
  try simp only [List.getElem_cons_zero]
  try simp only [List.setIfInBounds_toArray]
  try simp only [List.set_cons_succ]
  try simp only [List.set_cons_zero]
  refine wpAnyH_take (i := 1) (v := ?vt2) rfl (by kernel_rfl) (by kernel_rfl) (by kernel_rfl) (fun _ _ _ h => h) (Or.inl ⟨by rfl, ?yt2⟩) hHeld ?rt2
  case yt2 => ((intro W hSw; go_simp) <;> with_reducible rfl)
  try simp only [Act.put]
  try simp only [List.getElem_toArray]
  try simp only [List.getElem_cons_succ]
  try simp only [List.getElem_cons_zero]
  try simp only [List.setIfInBounds_toArray]
  try simp only [List.set_cons_succ]
  try simp only [List.set_cons_zero]
  refine wpAnyH_take (i := 2) (v := ?vt3) rfl (by kernel_rfl) (by kernel_rfl) (by kernel_rfl) (fun _ _ _ h => h) (Or.inl ⟨by rfl, ?yt3⟩) hHeld ?rt3
  case yt3 => ((intro W hSw; go_simp) <;> with_reducible rfl)
  try simp only [Act.put]
  try simp only [List.getElem_toArray]
  try simp only [List.getElem_cons_succ]
  try simp only [List.getElem_cons_zero]
  try simp only [List.setIfInBounds_toArray]
  try simp only [List.set_cons_succ]
  try simp only [List.set_cons_zero]
  refine wpAnyH_take (i := 3) (v := ?vt4) rfl (by kernel_rfl) (by kernel_rfl) (by kernel_rfl) (fun _ _ _ h => h) (Or.inl ⟨by rfl, ?yt4⟩) hHeld ?rt4
  case yt4 => ((intro W hSw; go_simp) <;> with_reducible rfl)
  try simp only [Act.put]
  try simp only [List.getElem_toArray]
  try simp only [List.getElem_cons_succ]
  try simp only [List.getElem_cons_zero]
  try simp only [List.setIfInBounds_toArray]
  try simp only [List.set_cons_succ]
  try simp only [List.set_cons_zero]
  refine wpAnyH_take (i := 5) (v := ?vt5) rfl (by kernel_rfl) (by kernel_rfl) (by kernel_rfl) (fun _ _ _ h => h) (Or.inl ⟨by rfl, ?yt5⟩) hHeld ?rt5
  case yt5 => ((intro W hSw; go_simp) <;> with_reducible rfl)
  try simp only [Act.put]
  try simp only [List.getElem_toArray]
  try simp only [List.getElem_cons_succ]
  try simp only [List.getElem_cons_zero]
  try simp only [List.setIfInBounds_toArray]
  try simp only [List.set_cons_succ]
  try simp only [List.set_cons_zero]
  refine wpAnyH_ready (rs := [4, 6]) (by kernel_rfl) (by simp) ?_
  refine AllReadyH.cons rfl (fun K hK => ?_) (AllReadyH.cons rfl (fun K hK => ?_) AllReadyH.nil)
  · go_simp
    refine hK.out _ _ trivial (fun hHeld => ?_)
    clear hK K
    try simp only [Act.put]
    try simp only [List.getElem_toArray]
    try simp only [List.getElem_cons_succ]
    try simp only [List.getElem_cons_zero]
    try simp only [List.setIfInBounds_toArray]
    try simp only [List.set_cons_succ]
    try simp only [List.set_cons_zero]
    refine wpAnyH_ready (rs := [6]) (by kernel_rfl) (by simp) ?_
    refine AllReadyH.cons rfl (fun K hK => ?_) AllReadyH.nil
    go_simp
    refine hK.out _ _ trivial (fun hHeld => ?_)
    clear hK K
    try simp only [Act.put]
    try simp only [List.getElem_toArray]
    try simp only [List.getElem_cons_succ]
    try simp only [List.getElem_cons_zero]
    try simp only [List.setIfInBounds_toArray]
    try simp only [List.set_cons_succ]
    try simp only [List.set_cons_zero]
    refine wpAnyH_take (i := 7) (v := ?vt6) rfl (by kernel_rfl) (by kernel_rfl) (by kernel_rfl) (fun _ _ _ h => h) (Or.inl ⟨by rfl, ?yt6⟩) hHeld ?rt6
    case yt6 => ((intro W hSw; go_simp) <;> with_reducible rfl)
    try simp only [Act.put]
    try simp only [List.getElem_toArray]
    try simp only [List.getElem_cons_succ]
    try simp only [List.getElem_cons_zero]
    try simp only [List.setIfInBounds_toArray]
    try simp only [List.set_cons_succ]
    try simp only [List.set_cons_zero]
    refine wpAnyH_ready (rs := [8]) (by kernel_rfl) (by simp) ?_
    refine AllReadyH.cons rfl (fun K hK => ?_) AllReadyH.nil
    go_simp
    refine hK.out _ _ trivial (fun hHeld => ?_)
    clear hK K
    try simp only [Act.put]
    try simp only [List.getElem_toArray]
    try simp only [List.getElem_cons_succ]
    try simp only [List.getElem_cons_zero]
    try simp only [List.setIfInBounds_toArray]
    try simp only [List.set_cons_succ]
    try simp only [List.set_cons_zero]
    refine wpAnyH_ready (rs := [9]) (by kernel_rfl) (by simp) ?_
    refine AllReadyH.cons rfl (fun K hK => ?_) AllReadyH.nil
    rw [if_pos (by rfl)]
    refine wp_append_at (.tmp 13) (.tmp 17) 161 rfl base 185 i0 _ 13 136 Try.underlying161 Hi.out.1 Hi.out.2.1 Hi.out.2.2.1 Hi.out.2.2.2 rfl (by decide) (.slice a2 rn c2) rn ((rmF Kp.n num l).flatMap cellsK) (by rfl) (World.ownsRow.drew (World.ownsRow.alloc Hr1.out _)) _ 1 1 (cellsK ⟨num, x, cv, re⟩) (by rfl) rfl (cells_newAt _ (cellsK ⟨num, x, cv, re⟩) _ _ (by simp)) ?_ (by unfold maxLen; omega) (by omega) (by simp; omega) ?_
    · intro u hu
      refine cellsK_one [⟨num, x, cv, re⟩] (fun y hy => by simp at hy; subst hy; exact hcv) u ?_
      simpa using hu
    intro v' w3 hown' hgrow hob
    have hbg : w2.grownBy w3 (Value.slice a2 rn c2).ownBlock := ((World.grownBy_alloc _ _ _).trans (World.grownBy_drewX _ _)).trans hgrow
    have hc3 : Chg (fun x => (Value.slice a2 rn c2).ownBlock = some x) w2 w3 := Chg.ofGrown hbg
    have z2 : w3.cell? ⟨sb, 2, none⟩ = some (.slice a2 rn c2) := hc3.cell y2 hne2
    have zf : ∀ o, w3.frozen? ⟨sb, o, none⟩ = false := fun o => (hc3.frozen (p := ⟨sb, o, none⟩) hs2 hne2).trans (yf o)
    obtain ⟨a3, c3, rfl⟩ := rowA_shape hown'
    have HU3 : Hid (Upd w (w3.setCell ⟨sb, 2, none⟩ (.slice a3 (rn + 1) c3)) sb v (.slice a3 (rn + 1) c3)) := HU2.out.trans (Upd.stored hs2 y2 hne2 hbg (fun x hx => by
      rcases hob with h | h
      · exact .inl (h ▸ hx)
      · rw [h] at hx; simp at hx; exact .inr (by omega)))
    have HR3 : Hid (World.ownsRow (w3.setCell ⟨sb, 2, none⟩ (.slice a3 (rn + 1) c3)) base 185 13 (.slice a3 (rn + 1) c3) (rn + 1) ((rmF Kp.n num l).flatMap cellsK ++ cellsK ⟨num, x, cv, re⟩)) := rowA_chg (T := fun x => x = sb) ((Chg.refl (fun x => x = sb) _).setCell ⟨sb, 2, none⟩ (.inl rfl) _) hown' (fun x hx e => by
      subst e
      have h := hown'.lt x hx
      rcases hob with h' | h'
      · exact hne2 (h' ▸ hx)
      · rw [h'] at hx; simp at hx; omega)
    refine hK.out _ _ trivial (fun hHeld => ?_)
    clear hK K hown' hgrow hob hbg hc3 y2 yf
    try simp only [Act.put]
    try simp only [List.getElem_toArray]
    try simp only [List.getElem_cons_succ]
    try simp only [List.getElem_cons_zero]
    try simp only [List.setIfInBounds_toArray]
    try simp only [List.set_cons_succ]
    try simp only [List.set_cons_zero]
    refine wpAnyH_take (i := 10) (v := ?vt7) rfl (by kernel_rfl) (by kernel_rfl) (by kernel_rfl) (fun _ _ _ h => h) (Or.inl ⟨by rfl, ?yt7⟩) hHeld ?rt7
    case yt7 => ((intro W hSw; go_simp) <;> with_reducible rfl)
    try simp only [Act.put]
    try simp only [List.getElem_toArray]
    try simp only [List.getElem_cons_succ]
    try simp only [List.getElem_cons_zero]
    try simp only [List.setIfInBounds_toArray]
    try simp only [List.set_cons_succ]
    try simp only [List.set_cons_zero]
    refine wpAnyH_take (i := 11) (v := ?vt8) rfl (by kernel_rfl) (by kernel_rfl) (by kernel_rfl) (fun _ _ _ h => h) (Or.inl ⟨by rfl, ?yt8⟩) hHeld ?rt8
    case yt8 => ((intro W hSw; go_simp) <;> with_reducible rfl)
    try simp only [Act.put]
    try simp only [List.getElem_toArray]
    try simp only [List.getElem_cons_succ]
    try simp only [List.getElem_cons_zero]
    try simp only [List.setIfInBounds_toArray]
    try simp only [List.set_cons_succ]
    try simp only [List.set_cons_zero]
    refine wpAnyH_ready (rs := [12]) (by kernel_rfl) (by simp) ?_
    refine AllReadyH.cons rfl (fun K hK => ?_) AllReadyH.nil
    go_simp
    refine hK.out _ _ trivial (fun hHeld => ?_)
    clear hK K
    refine wpAnyH_done (by kernel_rfl) ?_ _
    refine NoPanic.normal ?_
    go_wp2
    go_end0
    rw [List.length_append, Hrn.out, List.flatMap_append]
    exact ⟨rfl, _, HU3.out, by simpa using HR3.out⟩
  · go_simp
    refine hK.out _ _ trivial (fun hHeld => ?_)
    clear hK K
    try simp only [Act.put]
    try simp only [List.getElem_toArray]
    try simp only [List.getElem_cons_succ]
    try simp only [List.getElem_cons_zero]
    try simp only [List.setIfInBounds_toArray]
    try simp only [List.set_cons_succ]
    try simp only [List.set_cons_zero]
    refine wpAnyH_take (i := 7) (v := ?vt9) rfl (by kernel_rfl) (by kernel_rfl) (by kernel_rfl) (fun _ _ _ h => h) (Or.inl ⟨by rfl, ?yt9⟩) hHeld ?rt9
    case yt9 => ((intro W hSw; go_simp) <;> with_reducible rfl)
    try simp only [Act.put]
    try simp only [List.getElem_toArray]
    try simp only [List.getElem_cons_succ]
    try simp only [List.getElem_cons_zero]
    try simp only [List.setIfInBounds_toArray]
    try simp only [List.set_cons_succ]
    try simp only [List.set_cons_zero]
    refine wpAnyH_ready (rs := [4, 8]) (by kernel_rfl) (by simp) ?_
    refine AllReadyH.cons rfl (fun K hK => ?_) (AllReadyH.cons rfl (fun K hK => ?_) AllReadyH.nil)
    · go_simp
      refine hK.out _ _ trivial (fun hHeld => ?_)
      clear hK K
      try simp only [Act.put]
      try simp only [List.getElem_toArray]
      try simp only [List.getElem_cons_succ]
      try simp only [List.getElem_cons_zero]
      try simp only [List.setIfInBounds_toArray]
      try simp only [List.set_cons_succ]
      try simp only [List.set_cons_zero]
      refine wpAnyH_ready (rs := [8]) (by kernel_rfl) (by simp) ?_
      refine AllReadyH.cons rfl (fun K hK => ?_) AllReadyH.nil
      go_simp
      refine hK.out _ _ trivial (fun hHeld => ?_)
      clear hK K
      try simp only [Act.put]
      try simp only [List.getElem_toArray]
      try simp only [List.getElem_cons_succ]
      try simp only [List.getElem_cons_zero]
      try simp only [List.setIfInBounds_toArray]
      try simp only [List.set_cons_succ]
      try simp only [List.set_cons_zero]
      refine wpAnyH_ready (rs := [9]) (by kernel_rfl) (by simp) ?_
      refine AllReadyH.cons rfl (fun K hK => ?_) AllReadyH.nil
      rw [if_pos (by rfl)]
      refine wp_append_at (.tmp 13) (.tmp 17) 161 rfl base 185 i0 _ 13 136 Try.underlying161 Hi.out.1 Hi.out.2.1 Hi.out.2.2.1 Hi.out.2.2.2 rfl (by decide) (.slice a2 rn c2) rn ((rmF Kp.n num l).flatMap cellsK) (by rfl) (World.ownsRow.drew (World.ownsRow.alloc Hr1.out _)) _ 1 1 (cellsK ⟨num, x, cv, re⟩) (by rfl) rfl (cells_newAt _ (cellsK ⟨num, x, cv, re⟩) _ _ (by simp)) ?_ (by unfold maxLen; omega) (by omega) (by simp; omega) ?_
      · intro u hu
        refine cellsK_one [⟨num, x, cv, re⟩] (fun y hy => by simp at hy; subst hy; exact hcv) u ?_
        simpa using hu
      intro v' w3 hown' hgrow hob
      have hbg : w2.grownBy w3 (Value.slice a2 rn c2).ownBlock := ((World.grownBy_alloc _ _ _).trans (World.grownBy_drewX _ _)).trans hgrow
      have hc3 : Chg (fun x => (Value.slice a2 rn c2).ownBlock = some x) w2 w3 := Chg.ofGrown hbg
      have z2 : w3.cell? ⟨sb, 2, none⟩ = some (.slice a2 rn c2) := hc3.cell y2 hne2
      have zf : ∀ o, w3.frozen? ⟨sb, o, none⟩ = false := fun o => (hc3.frozen (p := ⟨sb, o, none⟩) hs2 hne2).trans (yf o)
      obtain ⟨a3, c3, rfl⟩ := rowA_shape hown'
      have HU3 : Hid (Upd w (w3.setCell ⟨sb, 2, none⟩ (.slice a3 (rn + 1) c3)) sb v (.slice a3 (rn + 1) c3)) := HU2.out.trans (Upd.stored hs2 y2 hne2 hbg (fun x hx => by
        rcases hob with h | h
        · exact .inl (h ▸ hx)
        · rw [h] at hx; simp at hx; exact .inr (by omega)))
      have HR3 : Hid (World.ownsRow (w3.setCell ⟨sb, 2, none⟩ (.slice a3 (rn + 1) c3)) base 185 13 (.slice a3 (rn + 1) c3) (rn + 1) ((rmF Kp.n num l).flatMap cellsK ++ cellsK ⟨num, x, cv, re⟩)) := rowA_chg (T := fun x => x = sb) ((Chg.refl (fun x => x = sb) _).setCell ⟨sb, 2, none⟩ (.inl rfl) _) hown' (fun x hx e => by
        subst e
        have h := hown'.lt x hx
        rcases hob with h' | h'
        · exact hne2 (h' ▸ hx)
        · rw [h'] at hx; simp at hx; omega)
      refine hK.out _ _ trivial (fun hHeld => ?_)
      clear hK K hown' hgrow hob hbg hc3 y2 yf
      try simp only [Act.put]
      try simp only [List.getElem_toArray]
      try simp only [List.getElem_cons_succ]
      try simp only [List.getElem_cons_zero]
      try simp only [List.setIfInBounds_toArray]
      try simp only [List.set_cons_succ]
      try simp only [List.set_cons_zero]
      refine wpAnyH_take (i := 10) (v := ?vt10) rfl (by kernel_rfl) (by kernel_rfl) (by kernel_rfl) (fun _ _ _ h => h) (Or.inl ⟨by rfl, ?yt10⟩) hHeld ?rt10
      case yt10 => ((intro W hSw; go_simp) <;> with_reducible rfl)
      try simp only [Act.put]
      try simp only [List.getElem_toArray]
      try simp only [List.getElem_cons_succ]
      try simp only [List.getElem_cons_zero]
      try simp only [List.setIfInBounds_toArray]
      try simp only [List.set_cons_succ]
      try simp only [List.set_cons_zero]
      refine wpAnyH_take (i := 11) (v := ?vt11) rfl (by kernel_rfl) (by kernel_rfl) (by kernel_rfl) (fun _ _ _ h => h) (Or.inl ⟨by rfl, ?yt11⟩) hHeld ?rt11
      case yt11 => ((intro W hSw; go_simp) <;> with_reducible rfl)
      try simp only [Act.put]
      try simp only [List.getElem_toArray]
      try simp only [List.getElem_cons_succ]
      try simp only [List.getElem_cons_zero]
      try simp only [List.setIfInBounds_toArray]
      try simp only [List.set_cons_succ]
      try simp only [List.set_cons_zero]
      refine wpAnyH_ready (rs := [12]) (by kernel_rfl) (by simp) ?_
      refine AllReadyH.cons rfl (fun K hK => ?_) AllReadyH.nil
      go_simp
      refine hK.out _ _ trivial (fun hHeld => ?_)
      clear hK K
      refine wpAnyH_done (by kernel_rfl) ?_ _
      refine NoPanic.normal ?_
      go_wp2
      go_end0
      rw [List.length_append, Hrn.out, List.flatMap_append]
      exact ⟨rfl, _, HU3.out, by simpa using HR3.out⟩
    · go_simp
      refine hK.out _ _ trivial (fun hHeld => ?_)
      clear hK K
      try simp only [Act.put]
      try simp only [List.getElem_toArray]
      try simp only [List.getElem_cons_succ]
      try simp only [List.getElem_cons_zero]
      try simp only [List.setIfInBounds_toArray]
      try simp only [List.set_cons_succ]
      try simp only [List.set_cons_zero]
      refine wpAnyH_ready (rs := [4]) (by kernel_rfl) (by simp) ?_
      refine AllReadyH.cons rfl (fun K hK => ?_) AllReadyH.nil
      go_simp
      refine hK.out _ _ trivial (fun hHeld => ?_)
      clear hK K
      try simp only [Act.put]
      try simp only [List.getElem_toArray]
      try simp only [List.getElem_cons_succ]
      try simp only [List.getElem_cons_zero]
      try simp only [List.setIfInBounds_toArray]
      try simp only [List.set_cons_succ]
      try simp only [List.set_cons_zero]
      refine wpAnyH_ready (rs := [9]) (by kernel_rfl) (by simp) ?_
      refine AllReadyH.cons rfl (fun K hK => ?_) AllReadyH.nil
      rw [if_pos (by rfl)]
      refine wp_append_at (.tmp 13) (.tmp 17) 161 rfl base 185 i0 _ 13 136 Try.underlying161 Hi.out.1 Hi.out.2.1 Hi.out.2.2.1 Hi.out.2.2.2 rfl (by decide) (.slice a2 rn c2) rn ((rmF Kp.n num l).flatMap cellsK) (by rfl) (World.ownsRow.drew (World.ownsRow.alloc Hr1.out _)) _ 1 1 (cellsK ⟨num, x, cv, re⟩) (by rfl) rfl (cells_newAt _ (cellsK ⟨num, x, cv, re⟩) _ _ (by simp)) ?_ (by unfold maxLen; omega) (by omega) (by simp; omega) ?_
      · intro u hu
        refine cellsK_one [⟨num, x, cv, re⟩] (fun y hy => by simp at hy; subst hy; exact hcv) u ?_
        simpa using hu
      intro v' w3 hown' hgrow hob
      have hbg : w2.grownBy w3 (Value.slice a2 rn c2).ownBlock := ((World.grownBy_alloc _ _ _).trans (World.grownBy_drewX _ _)).trans hgrow
      have hc3 : Chg (fun x => (Value.slice a2 rn c2).ownBlock = some x) w2 w3 := Chg.ofGrown hbg
      have z2 : w3.cell? ⟨sb, 2, none⟩ = some (.slice a2 rn c2) := hc3.cell y2 hne2
      have zf : ∀ o, w3.frozen? ⟨sb, o, none⟩ = false := fun o => (hc3.frozen (p := ⟨sb, o, none⟩) hs2 hne2).trans (yf o)
      obtain ⟨a3, c3, rfl⟩ := rowA_shape hown'
      have HU3 : Hid (Upd w (w3.setCell ⟨sb, 2, none⟩ (.slice a3 (rn + 1) c3)) sb v (.slice a3 (rn + 1) c3)) := HU2.out.trans (Upd.stored hs2 y2 hne2 hbg (fun x hx => by
        rcases hob with h | h
        · exact .inl (h ▸ hx)
        · rw [h] at hx; simp at hx; exact .inr (by omega)))
      have HR3 : Hid (World.ownsRow (w3.setCell ⟨sb, 2, none⟩ (.slice a3 (rn + 1) c3)) base 185 13 (.slice a3 (rn + 1) c3) (rn + 1) ((rmF Kp.n num l).flatMap cellsK ++ cellsK ⟨num, x, cv, re⟩)) := rowA_chg (T := fun x => x = sb) ((Chg.refl (fun x => x = sb) _).setCell ⟨sb, 2, none⟩ (.inl rfl) _) hown' (fun x hx e => by
        subst e
        have h := hown'.lt x hx
        rcases hob with h' | h'
        · exact hne2 (h' ▸ hx)
        · rw [h'] at hx; simp at hx; omega)
      refine hK.out _ _ trivial (fun hHeld => ?_)
      clear hK K hown' hgrow hob hbg hc3 y2 yf
      try simp only [Act.put]
      try simp only [List.getElem_toArray]
      try simp only [List.getElem_cons_succ]
      try simp only [List.getElem_cons_zero]
      try simp only [List.setIfInBounds_toArray]
      try simp only [List.set_cons_succ]
      try simp only [List.set_cons_zero]
      refine wpAnyH_take (i := 10) (v := ?vt12) rfl (by kernel_rfl) (by kernel_rfl) (by kernel_rfl) (fun _ _ _ h => h) (Or.inl ⟨by rfl, ?yt12⟩) hHeld ?rt12
      case yt12 => ((intro W hSw; go_simp) <;> with_reducible rfl)
      try simp only [Act.put]
      try simp only [List.getElem_toArray]
      try simp only [List.getElem_cons_succ]
      try simp only [List.getElem_cons_zero]
      try simp only [List.setIfInBounds_toArray]
      try simp only [List.set_cons_succ]
      try simp only [List.set_cons_zero]
      refine wpAnyH_take (i := 11) (v := ?vt13) rfl (by kernel_rfl) (by kernel_rfl) (by kernel_rfl) (fun _ _ _ h => h) (Or.inl ⟨by rfl, ?yt13⟩) hHeld ?rt13
      case yt13 => ((intro W hSw; go_simp) <;> with_reducible rfl)
      try simp only [Act.put]
      try simp only [List.getElem_toArray]
      try simp only [List.getElem_cons_succ]
      try simp only [List.getElem_cons_zero]
      try simp only [List.setIfInBounds_toArray]
      try simp only [List.set_cons_succ]
      try simp only [List.set_cons_zero]
      refine wpAnyH_ready (rs := [12]) (by kernel_rfl) (by simp) ?_
      refine AllReadyH.cons rfl (fun K hK => ?_) AllReadyH.nil
      go_simp
      refine hK.out _ _ trivial (fun hHeld => ?_)
      clear hK K
      refine wpAnyH_done (by kernel_rfl) ?_ _
      refine NoPanic.normal ?_
      go_wp2
      go_end0
      rw [List.length_append, Hrn.out, List.flatMap_append]
      exact ⟨rfl, _, HU3.out, by simpa using HR3.out⟩

end Go.Proofs.Ytdjhhnolcafkiaa

/- (*stream[gap]).find: where a number is listed. -/
namespace Go.Proofs.Ytdjhhnolcafkiaa
open Go.RowKit Pk

set_option maxHeartbeats 1000000 in
theorem find1G_any (x : Gp) (num B : Nat) (W : World) (hc : W.cell? ⟨B, 0, none⟩ = some (.int .u16 num)) :
    Calls Try.prog 131 #[.agg #[.int .u16 x.n, .int .i64 x.last, .int .i64 x.tries], .pointer (some ⟨B, 0, none⟩)] W fun e w' => e = .returned (.bool (decide (x.n = num))) ∧ Below W.heap.size W w' := by
  have hne : B ≠ W.heap.size := by have := lt_of_cell hc; simp only at this; omega
  have hlt : B < W.heap.size := lt_of_cell hc
  have Heq : Hid (((x.n : Int) == (num : Int)) = decide (x.n = num)) := by
    show _ = _
    rw [Bool.eq_iff_iff]
    simp only [beq_iff_eq, decide_eq_true_eq]
    omega
  go_enter Try.func131, Try.ntmps131
  go_wp2
  go_ret
  exact ⟨ret_bool (by first | exact Heq.out | simpa using Heq.out), (Below.refl _ _).alloc (Nat.le_refl _) _⟩

set_option maxRecDepth 20000 in
set_option maxHeartbeats 2000000 in
theorem indexG_any (base : Nat) (v : Value) (l : List Gp) (num B : Nat) (w : World) (hown : w.ownsRow base 156 3 v l.length (l.flatMap cellsG)) (hc : w.cell? ⟨B, 0, none⟩ = some (.int .u16 num)) (hn : l.length ≤ 100000) :
    Calls Try.prog 130 #[v, .func (.func 131) #[] #[.pointer (some ⟨B, 0, none⟩)]] w fun e w' => e = .returned (.int .i64 (posF num (l.map (·.n)))) ∧ Below w.heap.size w w' := by
  obtain ⟨ao, cap, rfl⟩ := rowA_shape hown
  have Hown : Hid (w.ownsRow base 156 3 (.slice ao l.length cap) l.length (l.flatMap cellsG)) := hown
  have Hc : Hid (w.cell? ⟨B, 0, none⟩ = some (.int .u16 num)) := hc
  clear hown hc
  go_enter Try.func130, Try.ntmps130
  go_wp2
  go_loopw [8] (fun s8 wr => ∃ k : Nat, k ≤ l.length ∧ s8 = .int .i64 k ∧ (∀ m (hm : m < l.length), m < k → (l[m]).n ≠ num) ∧ Below w.heap.size w wr) (fun s8 _ => l.length - (intOf s8).toNat)
  case atStart => exact ⟨0, Nat.zero_le _, rfl, fun m _ hm => by omega, Below.refl _ _⟩
  case round =>
    obtain ⟨k, hk, rfl, hno, hbel⟩ := hrel
    have Hno : Hid (∀ m (hm : m < l.length), m < k → (l[m]).n ≠ num) := hno
    have Hbel : Hid (Below w.heap.size w wr) := hbel
    clear hno hbel
    by_cases hlt : k < l.length
    · have hlt' : (k : Int) < l.length := by omega
      obtain ⟨g, rfl⟩ := rowA_some Hown.out (by omega)
      have hglt : g < w.heap.size := (Hown.out.lt g rfl).2
      obtain ⟨x, hx⟩ : ∃ x, l[k] = x := ⟨_, rfl⟩
      have at_ : ∀ j, j < 3 → ∀ u, (cellsG x)[j]? = some u → wr.cell? ⟨g, k * 3 + j, none⟩ = some u := fun j hj u hu => by
        refine (Hbel.out.cell (p := ⟨g, k * 3 + j, none⟩) hglt).trans ?_
        rw [Hown.out.cellAt (k * 3 + j) (by omega), flat_at cellsG_len l k j hlt hj, hx]
        exact hu
      have d0 : wr.cell? ⟨g, k * 3, none⟩ = some (.int .u16 x.n) := at_ 0 (by omega) _ rfl
      have d1 : wr.cell? ⟨g, k * 3 + 1, none⟩ = some (.int .i64 x.last) := at_ 1 (by omega) _ rfl
      have d2 : wr.cell? ⟨g, k * 3 + 2, none⟩ = some (.int .i64 x.tries) := at_ 2 (by omega) _ rfl
      have hcB : wr.cell? ⟨B, 0, none⟩ = some (.int .u16 num) := (Hbel.out.cell (p := ⟨B, 0, none⟩) (lt_of_cell Hc.out)).trans Hc.out
      have Hx : Hid (l[k] = x) := hx
      clear at_ hx
      go_wp2_with fail
      refine (find1G_any x num B _ hcB).mono ?_
      rintro e w1 ⟨rfl, hb1⟩
      have Hb1 : Hid (Below w.heap.size w w1) := Hbel.out.trans (hb1.mono Hbel.out.size)
      clear hb1 d0 d1 d2 hcB
      by_cases he : x.n = num
      · rw [decide_eq_true he]
        have Hp : Hid (posF num (l.map (·.n)) = (k : Int)) := by
          refine posF_at num (l.map (·.n)) k (by simpa using hlt) (fun m hm => ?_) ?_
          · rw [List.getElem_map]; exact Hno.out m (by omega) hm
          · rw [List.getElem_map, Hx.out]; exact he
        go_wp2
        go_ret
        exact ⟨ret_int Hp.out.symm, Hb1.out⟩
      · rw [decide_eq_false he]
        have He : Hid (x.n ≠ num) := he
        clear he
        go_wp2
        go_roundw
        case rel => exact ⟨k + 1, by omega, by go_num, fun m hm hmk => by
          rcases Nat.lt_or_ge m k with h | h
          · exact Hno.out m hm h
          · obtain rfl : m = k := by omega
            rw [Hx.out]; exact He.out, Hb1.out⟩
        case measure => simp [intOf]; omega
    · have hlt' : ¬ (k : Int) < l.length := by omega
      have Hp : Hid (posF num (l.map (·.n)) = -1) := by
        refine posF_no num _ (fun y hy => ?_)
        obtain ⟨z, hz, rfl⟩ := List.mem_map.1 hy
        obtain ⟨m, hm, rfl⟩ := List.mem_iff_getElem.1 hz
        exact Hno.out m hm (by omega)
      go_wp2
      go_ret
      exact ⟨ret_int Hp.out.symm, Hbel.out⟩

set_option maxRecDepth 20000 in
set_option maxHeartbeats 2000000 in
theorem findG_any (base sb : Nat) (v : Value) (l : List Gp) (num : Nat) (w : World) (hv : w.cell? ⟨sb, 2, none⟩ = some v) (hown : w.ownsRow base 156 3 v l.length (l.flatMap cellsG)) (hn : l.length ≤ 100000) :
    Calls Try.prog 120 #[.pointer (some ⟨sb, 0, none⟩), .int .u16 num] w fun e w' => e = .returned (.int .i64 (posF num (l.map (·.n)))) ∧ Below w.heap.size w w' := by
  obtain ⟨ao, cap, rfl⟩ := rowA_shape hown
  have Hown : Hid (w.ownsRow base 156 3 (.slice ao l.length cap) l.length (l.flatMap cellsG)) := hown
  have hlt : sb < w.heap.size := lt_of_cell hv
  have hne : sb ≠ w.heap.size := by omega
  clear hown
  go_enter Try.func120, Try.ntmps120
  go_wp2_with fail
  refine (indexG_any base _ l num w.heap.size _ (World.ownsRow.alloc Hown.out _) (cell_new _ _ _ 0) hn).mono ?_
  rintro e w1 ⟨rfl, hb1⟩
  have Hb1 : Hid (Below w.heap.size w w1) := ((Below.refl _ _).alloc (Nat.le_refl _) _).trans (hb1.mono (by simp))
  clear hb1
  go_wp2
  go_ret
  exact ⟨rfl, Hb1.out⟩

end Go.Proofs.Ytdjhhnolcafkiaa
