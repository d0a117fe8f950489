/- The book takes a list of askings: the walk. -/
import Derived.Test.YtdjhhnolcafkiaaOwnsA
import Derived.Test.YtdjhhnolcafkiaaAsks
import Derived.Deep.RegionHeld3
namespace Go.Proofs.Ytdjhhnolcafkiaa
open Go.RowKit
namespace Pk

/-- the askings' lists of numbers are taken one behind the other: what holds when i are -/
structure Mid (F : Nat → Prop) (w : World) (g : Nat) (ρ : Nat → Nat) (tv tk av ak : Value) (TL TM AL AM : List Value) (NN : Nat) (nx : Int) (ao : Option Addr) (cap : Nat) (xs : List Ask1) (i : Nat) (wr : World) (ρ' : Nat → Nat) (nv nk : Value) (NL : List Value) (NS : List Int) : Prop where
  bk : BkN wr g ρ' tv tk nv nk av ak TL TM NL (NS.map (Value.int .i64)) AL AM (nx + i)
  len : NL.length = NN + 4 * i
  rho : ∀ b, b < w.heap.size → ρ b ≠ 0 → ρ' b = ρ b
  row : wr.ownsRow (g + 1) 40 3 (.slice ao xs.length cap) xs.length (flatA xs)
  rest : ∀ (j : Nat) (x : Ask1), i ≤ j → xs[j]? = some x → OwnInts wr (g + 1) x.v x.l ∧ ∀ b, x.v.ownBlock = some b → ρ' b = 0 ∧ b < w.heap.size
  lst : ∀ b, (Value.slice ao xs.length cap).ownBlock = some b → ρ' b = 0 ∧ b < w.heap.size
  chg : Chg (fun b => g ≤ b ∧ ¬ F b) w wr
  far : ∀ b, F b → ρ' b = 0

theorem Mid.next {F : Nat → Prop} {w wr w' : World} {g : Nat} {ρ ρ' ρ2 : Nat → Nat} {tv tk av ak nv nk nv2 nk2 : Value} {TL TM AL AM NL NL2 : List Value} {NS : List Int} {NN : Nat} {nx : Int} {ao : Option Addr} {cap i : Nat} {xs : List Ask1} {x : Ask1}
    (h : Mid F w g ρ tv tk av ak TL TM AL AM NN nx ao cap xs i wr ρ' nv nk NL NS) (hFx : ∀ b, F b → b < w.heap.size ∧ x.v.ownBlock ≠ some b) (hx : xs[i]? = some x) (hA : ∀ (i j : Nat) (x y : Ask1), i ≠ j → xs[i]? = some x → xs[j]? = some y → ∀ b, x.v.ownBlock = some b → y.v.ownBlock ≠ some b)
    (hO : ∀ (i : Nat) (x : Ask1), xs[i]? = some x → ∀ b, x.v.ownBlock = some b → (Value.slice ao xs.length cap).ownBlock ≠ some b) (_hgw : g < w.heap.size)
    (hl : NL2.length = 4) (hB : BkN w' g ρ2 tv tk nv2 nk2 av ak TL TM (NL ++ NL2) (NS.map (Value.int .i64) ++ [.int .i64 (-(nx + i + 1)), .int .i64 (-(nx + i + 1)), .int .i64 (-(nx + i + 1)), .int .i64 (-(nx + i + 1))]) AL AM (nx + i + 1))
    (r1 : ∀ b, b < wr.heap.size → ρ' b ≠ 0 → ρ2 b = ρ' b) (r2 : ∀ b, b < wr.heap.size → x.v.ownBlock ≠ some b → ρ' b = 0 → ρ2 b = 0)
    (hc : Chg (fun b => b = g ∨ nv.ownBlock = some b ∨ nk.ownBlock = some b ∨ x.v.ownBlock = some b) wr w') :
    Mid F w g ρ tv tk av ak TL TM AL AM NN nx ao cap xs (i + 1) w' ρ2 nv2 nk2 (NL ++ NL2) (NS ++ [-(nx + i + 1), -(nx + i + 1), -(nx + i + 1), -(nx + i + 1)]) := by
  have sz := h.chg.size
  have z : ∀ b, ρ' b = 0 → x.v.ownBlock ≠ some b → ¬ (b = g ∨ nv.ownBlock = some b ∨ nk.ownBlock = some b ∨ x.v.ownBlock = some b) := fun b h0 hne => by
    rintro (e | e | e | e)
    · rw [(h.bk.rg b).2 e] at h0; cases h0
    · rw [h.bk.np.fl b e] at h0; cases h0
    · rw [h.bk.np.fm b e] at h0; cases h0
    · exact hne e
  refine ⟨?_, ?_, fun b hb hne => ?_, ?_, ?_, ?_, ?_, ?_⟩
  · rw [List.map_append, Int.natCast_add, Int.natCast_one, ← Int.add_assoc]
    exact hB
  · rw [List.length_append, hl, h.len]; omega
  · have e := h.rho b hb hne
    rw [r1 b (by omega) (by rw [e]; exact hne), e]
  · refine rowA_chg hc h.row (fun b hb => z b (h.lst b hb).1 (fun e => hO i x hx b e hb))
  · intro j y hj hy
    obtain ⟨o1, o2⟩ := h.rest j y (by omega) hy
    have ne : ∀ b, y.v.ownBlock = some b → x.v.ownBlock ≠ some b := fun b hb e => hA i j x y (by omega) hx hy b e hb
    refine ⟨hc.row o1 (fun b hb => z b (o2 b hb).1 (ne b hb)), fun b hb => ⟨r2 b (by have := (o2 b hb).2; omega) (ne b hb) (o2 b hb).1, (o2 b hb).2⟩⟩
  · intro b hb
    have hb2 := h.lst b hb
    exact ⟨r2 b (by omega) (fun e => hO i x hx b e hb) hb2.1, hb2.2⟩
  · refine h.chg.trans hc (fun b hb e0 => ⟨?_, fun hF => z b (h.far b hF) (hFx b hF).2 e0⟩)
    rcases e0 with e | e | e | e
    · omega
    · have := (h.bk.np.rl.lt b e).1; omega
    · have := (h.bk.np.rk.lt b e).1; omega
    · have := (World.ownsRow.lt (h.rest i x (Nat.le_refl _) hx).1 b e).1; omega
  · intro b hF
    exact r2 b (by have := (hFx b hF).1; omega) (hFx b hF).2 (h.far b hF)

theorem wrapI64s (n : Int) (h0 : -9223372036854775808 ≤ n) (h1 : n < 9223372036854775808) : IntKind.i64.wrap n = n := by
  simp [IntKind.wrap, IntKind.bits, IntKind.signed]; omega

theorem wp_append_at {w : World} {o : Oper} {a : Act} {K : Act → World → Prop} {Q : Exit → Act → World → Prop} (s x : Operand) (t : TypeId)
    (ho : o.op = .call { callee := .builtin .append, args := #[s, x], argTypes := #[t, t] })
    (base : Nat) (e : TypeId) (i : TypeInfo) (z : Value) (size bytes : Nat) (ht : Try.prog.underlying t = some (.slice e)) (hi : Try.prog.info? e = some i) (hz : i.zero = some z)
    (hsize : i.size = size) (hby : i.bytes = bytes) (hzs : z.cells.size = size) (hsz : 0 < size)
    (v : Value) (n : Nat) (xs : List Value) (hs : a.eval s = v) (hown : w.ownsRow base e size v n xs)
    (ad : Addr) (m c : Nat) (news : List Value) (hx : a.eval x = .slice (some ad) m c) (hl : news.length = m * size) (hnews : ∀ j u, news[j]? = some u → w.cell? (ad.add j) = some u) (h1 : ∀ u ∈ news, u.oneCell' = true)
    (h63 : n + m ≤ maxLen) (hbytes : (n + m) * bytes ≤ 140737488355328) (hbase : base ≤ w.heap.size)
    (h : ∀ v' w', w'.ownsRow base e size v' (n + m) (xs ++ news) → w.grownBy w' v.ownBlock → (v'.ownBlock = v.ownBlock ∨ v'.ownBlock = some w.heap.size) → K (a.put o.dst v') w') : o.wp Try.prog a w K Q := by
  obtain ⟨v', w', hr, h2, h3, _, h5⟩ := run_append_own_at (P := Try.prog) w base t o.type e i z size bytes ht hi hz hsize hby hzs hsz v n xs hown ad m c news hl hnews h1 h63 hbytes hbase
  unfold Oper.wp execOp
  simp only [ho, resolve, invoke, builtin, Sem.run_bind, Sem.run_pure, Result.andThen_ok, List.map_toArray, List.map_cons, List.map_nil, hs, hx, hr]
  exact h v' w' h2 h3 h5

theorem set_three (ys : List Value) (k : Nat) (a b c : Value) (h : k * 3 + 3 ≤ ys.length) : (((ys.set (k * 3) a).set (k * 3 + 1) b).set (k * 3 + 2) c).take ((k + 1) * 3) = ys.take (k * 3) ++ [a, b, c] := by
  apply List.ext_getElem?
  intro j
  rw [show (k + 1) * 3 = k * 3 + 3 by omega, List.getElem?_take]
  by_cases h1 : j < k * 3
  · rw [if_pos (by omega), List.getElem?_set_ne (by omega), List.getElem?_set_ne (by omega), List.getElem?_set_ne (by omega), List.getElem?_append_left (by rw [List.length_take]; omega), List.getElem?_take, if_pos h1]
  · rw [List.getElem?_append_right (by rw [List.length_take]; omega), List.length_take, Nat.min_eq_left (by omega)]
    obtain ⟨d, rfl⟩ : ∃ d, j = k * 3 + d := ⟨j - k * 3, by omega⟩
    rw [show k * 3 + d - k * 3 = d by omega]
    match d with
    | 0 => rw [if_pos (by omega), List.getElem?_set_ne (by omega), List.getElem?_set_ne (by omega), Nat.add_zero, List.getElem?_set_self (by omega)]; rfl
    | 1 => rw [if_pos (by omega), List.getElem?_set_ne (by omega), List.getElem?_set_self (by rw [List.length_set]; omega)]; rfl
    | 2 => rw [if_pos (by omega), List.getElem?_set_self (by rw [List.length_set, List.length_set]; omega)]; rfl
    | d + 3 => rw [if_neg (by omega)]; rfl

end Pk
open Pk

set_option maxRecDepth 20000 in
set_option maxHeartbeats 8000000 in
theorem ownsA_any (F : Nat → Prop) (g : Nat) (ρ : Nat → Nat) (tv tk nv nk av ak : Value) (TL TM NL AL : List Value) (NS AS : List Int) (nx : Int) (lv : Value) (xs : List Ask1) (w : World) (hB : BkN w g ρ tv tk nv nk av ak TL TM NL (NS.map (Value.int .i64)) AL (AS.map (Value.int .i64)) nx) (hA : OwnAsks w (g + 1) lv xs)
    (hf : ∀ b, lv.ownBlock = some b → ρ b = 0) (hfx : ∀ (i : Nat) (x : Ask1), xs[i]? = some x → ∀ b, x.v.ownBlock = some b → ρ b = 0)
    (hF : ∀ b, F b → ρ b = 0 ∧ b < w.heap.size ∧ lv.ownBlock ≠ some b ∧ ∀ (i : Nat) (x : Ask1), xs[i]? = some x → x.v.ownBlock ≠ some b)
    (hl : xs.length ≤ 400) (hN : NL.length ≤ 900000000) (hAL : AL.length ≤ 900000000) (hx0 : 0 ≤ nx) (hx1 : nx ≤ 900000000) :
    Calls Try.prog 45 #[.pointer (some ⟨g, 0, none⟩), lv] w fun e w' => e = .returned (.tuple #[]) ∧ ∃ (ρ' : Nat → Nat) (nv' nk' av' ak' : Value) (NL' : List Value) (NS' : List Int) (AL' : List Value) (AS' : List Int), BkN w' g ρ' tv tk nv' nk' av' ak' TL TM NL' (NS'.map (Value.int .i64)) AL' (AS'.map (Value.int .i64)) (nx + xs.length + 1) ∧
      NL'.length = NL.length + 4 * xs.length ∧ AL'.length = AL.length + 4 ∧ (∀ b, b < w.heap.size → ρ b ≠ 0 → ρ' b = ρ b) ∧ Chg (fun b => g ≤ b ∧ ¬ F b) w w' ∧ (∀ b, F b → ρ' b = 0) := by
  obtain ⟨ao, cap, rfl⟩ := rowA_shape hA.row
  have hgw := hB.lt
  have HF : Hid (∀ b, F b → ρ b = 0 ∧ b < w.heap.size ∧ (Value.slice ao xs.length cap).ownBlock ≠ some b ∧ ∀ (i : Nat) (x : Ask1), xs[i]? = some x → x.v.ownBlock ≠ some b) := hF
  have HFg : Hid (¬ F g) := fun e => by have := (hF g e).1; rw [(hB.rg g).2 rfl] at this; cases this
  clear hF
  have HA : Hid (OwnAsks w (g + 1) (.slice ao xs.length cap) xs) := hA
  have M0 : Hid (Mid F w g ρ tv tk av ak TL TM AL (AS.map (Value.int .i64)) NL.length nx ao cap xs 0 w ρ nv nk NL NS) :=
    ⟨by simpa using hB, by omega, fun _ _ _ => rfl, hA.row, fun j x _ hx => ⟨(hA.each j x hx).1, fun b hb => ⟨hfx j x hx b hb, (World.ownsRow.lt (hA.each j x hx).1 b hb).2⟩⟩, fun b hb => ⟨hf b hb, (World.ownsRow.lt hA.row b hb).2⟩, Chg.refl _ _, fun b hb => (HF.out b hb).1⟩
  obtain ⟨n, hn⟩ : ∃ n, xs.length = n := ⟨_, rfl⟩
  have Hn : Hid (xs.length = n) := hn
  rw [hn] at hl
  clear hA hB hf hfx
  rw [hn]
  clear hn
  go_enter Try.func45, Try.ntmps45
  go_wp2
  go_loopw [4] (fun s4 wr => ∃ (i : Nat) (ρ' : Nat → Nat) (nv' nk' : Value) (NL' : List Value) (NS' : List Int), i ≤ n ∧ s4 = .int .i64 i ∧ Mid F w g ρ tv tk av ak TL TM AL (AS.map (Value.int .i64)) NL.length nx ao cap xs i wr ρ' nv' nk' NL' NS') (fun s4 _ => n - (intOf s4).toNat)
  case atStart => exact ⟨0, _, _, _, _, _, Nat.zero_le _, rfl, M0.out⟩
  case round =>
    obtain ⟨i, ρ1, nv1, nk1, NL1, NS1, hi, rfl, hM⟩ := hrel
    have HM : Hid (Mid F w g ρ tv tk av ak TL TM AL (AS.map (Value.int .i64)) NL.length nx ao cap xs i _ ρ1 nv1 nk1 NL1 NS1) := hM
    by_cases hlt : i < n
    · have hlt' : (i : Int) < n := by omega
      have hix : i < xs.length := by rw [Hn.out]; exact hlt
      obtain ⟨gl, rfl⟩ := rowA_some hM.row (by omega)
      have hc := (World.ownsRow.cellAt hM.row (i * 3 + 2) (by omega)).trans (flatA_at xs i hix)
      have hxi : xs[i]? = some xs[i] := List.getElem?_eq_getElem hix
      obtain ⟨x, hx⟩ : ∃ x, xs[i] = x := ⟨_, rfl⟩
      rw [hx] at hc hxi
      have Hxi : Hid (xs[i]? = some x) := hxi
      obtain ⟨ax, cx, hxv⟩ := (hM.rest i x (Nat.le_refl _) hxi).1.shape
      rw [hxv] at hc
      have Hxv : Hid (x.v = .slice ax x.l.length cx) := hxv
      clear hM hx hxi hxv
      go_wp2_with fail
      have hbd := (HA.out.each i x Hxi.out).2
      obtain ⟨o1, o2⟩ := HM.out.rest i x (Nat.le_refl _) Hxi.out
      rw [Hxv.out] at o1 o2
      refine (ownsN_any g ρ1 tv tk nv1 nk1 av ak TL TM NL1 (NS1.map (Value.int .i64)) AL (AS.map (Value.int .i64)) (nx + i) _ x.l _ HM.out.bk o1 (fun b hb => (o2 b hb).1) hbd (by rw [HM.out.len]; omega) (by omega) (by omega)).mono ?_
      rintro e w2 ⟨rfl, ρ2, nv2, nk2, NL2, hl2, hB2, q1, q2, hc2⟩
      have HM2 : Hid (Mid F w g ρ tv tk av ak TL TM AL (AS.map (Value.int .i64)) NL.length nx _ cap xs (i + 1) w2 ρ2 nv2 nk2 (NL1 ++ NL2) _) :=
        HM.out.next (fun b hb => ⟨(HF.out b hb).2.1, (HF.out b hb).2.2.2 i x Hxi.out⟩) Hxi.out HA.out.apart HA.out.out hgw hl2 hB2 q1 (by rw [Hxv.out]; exact q2) (by rw [Hxv.out]; exact hc2)
      clear hB2 hc2 q1 q2 o1 o2 hc
      go_wp2
      go_roundw
      case rel => exact ⟨i + 1, ρ2, nv2, nk2, _, _, by omega, by go_num, HM2.out⟩
      case measure => simp [intOf]; omega
    · have hin : i = n := by omega
      subst hin
      have hlt' : ¬ (i : Int) < i := by omega
      have hc6 := hM.bk.c6
      have hfz := hM.bk.fz
      have H6 : Hid (((World.setCell _ ⟨g, 6, none⟩ (.int .i64 (nx + i + 1))).drew).cell? ⟨g, 6, none⟩ = some (.int .i64 (nx + i + 1))) := World.cell?_setCell_same _ _ _ hc6
      have HB1 : Hid (BkN (World.setCell _ ⟨g, 6, none⟩ (.int .i64 (nx + i + 1))) g ρ1 tv tk nv1 nk1 av ak TL TM NL1 (NS1.map (Value.int .i64)) AL (AS.map (Value.int .i64)) (nx + i + 1)) := hM.bk.set6 _
      clear hM
      go_wp2
      refine wp_region_noPanic ?_
      refine wp_region_held_drew (S := fun W => W.cell? ⟨g, 6, none⟩ = some (.int .i64 (nx + i + 1))) (by kernel_rfl) H6.out (fun hHeld => ?_)
      refine wpAnyH_take (i := 0) (v := ?v7001) rfl (by kernel_rfl) (by kernel_rfl) (by kernel_rfl) (fun _ _ _ h => h) (Or.inl ⟨by rfl, ?y7001⟩) hHeld ?r7001
      case y7001 => ((intro W hSw; go_simp) <;> with_reducible rfl)
      try simp only [Act.put]
      try simp only [List.getElem_toArray]
      try simp only [List.getElem_cons_succ]
      try simp only [List.getElem_cons_zero]
      try simp only [List.setIfInBounds_toArray]
      try simp only [List.set_cons_succ]
      try simp only [List.set_cons_zero]
      refine wpAnyH_take (i := 1) (v := ?v7002) rfl (by kernel_rfl) (by kernel_rfl) (by kernel_rfl) (fun _ _ _ h => h) (Or.inl ⟨by rfl, ?y7002⟩) hHeld ?r7002
      case y7002 => ((intro W hSw; go_simp) <;> with_reducible rfl)
      try simp only [Act.put]
      try simp only [List.getElem_toArray]
      try simp only [List.getElem_cons_succ]
      try simp only [List.getElem_cons_zero]
      try simp only [List.setIfInBounds_toArray]
      try simp only [List.set_cons_succ]
      try simp only [List.set_cons_zero]
      refine wpAnyH_take (i := 2) (v := ?v7003) rfl (by kernel_rfl) (by kernel_rfl) (by kernel_rfl) (fun _ _ _ h => h) (Or.inl ⟨by rfl, ?y7003⟩) hHeld ?r7003
      case y7003 => ((intro W hSw; go_simp) <;> with_reducible rfl)
      try simp only [Act.put]
      try simp only [List.getElem_toArray]
      try simp only [List.getElem_cons_succ]
      try simp only [List.getElem_cons_zero]
      try simp only [List.setIfInBounds_toArray]
      try simp only [List.set_cons_succ]
      try simp only [List.set_cons_zero]
      refine wpAnyH_take (i := 3) (v := ?v7004) rfl (by kernel_rfl) (by kernel_rfl) (by kernel_rfl) (fun _ _ _ h => h) (Or.inl ⟨by rfl, ?y7004⟩) hHeld ?r7004
      case y7004 => ((intro W hSw; go_simp) <;> with_reducible rfl)
      try simp only [Act.put]
      try simp only [List.getElem_toArray]
      try simp only [List.getElem_cons_succ]
      try simp only [List.getElem_cons_zero]
      try simp only [List.setIfInBounds_toArray]
      try simp only [List.set_cons_succ]
      try simp only [List.set_cons_zero]
      refine wpAnyH_take (i := 4) (v := ?v7005) rfl (by kernel_rfl) (by kernel_rfl) (by kernel_rfl) (fun _ _ _ h => h) (Or.inl ⟨by rfl, ?y7005⟩) hHeld ?r7005
      case y7005 => ((intro W hSw; go_simp) <;> with_reducible rfl)
      try simp only [Act.put]
      try simp only [List.getElem_toArray]
      try simp only [List.getElem_cons_succ]
      try simp only [List.getElem_cons_zero]
      try simp only [List.setIfInBounds_toArray]
      try simp only [List.set_cons_succ]
      try simp only [List.set_cons_zero]
      refine wpAnyH_take (i := 5) (v := ?v7006) rfl (by kernel_rfl) (by kernel_rfl) (by kernel_rfl) (fun _ _ _ h => h) (Or.inl ⟨by rfl, ?y7006⟩) hHeld ?r7006
      case y7006 => ((intro W hSw; go_simp) <;> with_reducible rfl)
      try simp only [Act.put]
      try simp only [List.getElem_toArray]
      try simp only [List.getElem_cons_succ]
      try simp only [List.getElem_cons_zero]
      try simp only [List.setIfInBounds_toArray]
      try simp only [List.set_cons_succ]
      try simp only [List.set_cons_zero]
      refine wpAnyH_take (i := 6) (v := ?v7007) rfl (by kernel_rfl) (by kernel_rfl) (by kernel_rfl) (fun _ _ _ h => h) (Or.inl ⟨by rfl, ?y7007⟩) hHeld ?r7007
      case y7007 => ((intro W hSw; go_simp) <;> with_reducible rfl)
      try simp only [Act.put]
      try simp only [List.getElem_toArray]
      try simp only [List.getElem_cons_succ]
      try simp only [List.getElem_cons_zero]
      try simp only [List.setIfInBounds_toArray]
      try simp only [List.set_cons_succ]
      try simp only [List.set_cons_zero]
      refine wpAnyH_take (i := 7) (v := ?v7008) rfl (by kernel_rfl) (by kernel_rfl) (by kernel_rfl) (fun _ _ _ h => h) (Or.inl ⟨by rfl, ?y7008⟩) hHeld ?r7008
      case y7008 => ((intro W hSw; go_simp) <;> with_reducible rfl)
      try simp only [Act.put]
      try simp only [List.getElem_toArray]
      try simp only [List.getElem_cons_succ]
      try simp only [List.getElem_cons_zero]
      try simp only [List.setIfInBounds_toArray]
      try simp only [List.set_cons_succ]
      try simp only [List.set_cons_zero]
      refine wpAnyH_take (i := 8) (v := ?v7009) rfl (by kernel_rfl) (by kernel_rfl) (by kernel_rfl) (fun _ _ _ h => h) (Or.inl ⟨by rfl, ?y7009⟩) hHeld ?r7009
      case y7009 => ((intro W hSw; go_simp) <;> with_reducible rfl)
      try simp only [Act.put]
      try simp only [List.getElem_toArray]
      try simp only [List.getElem_cons_succ]
      try simp only [List.getElem_cons_zero]
      try simp only [List.setIfInBounds_toArray]
      try simp only [List.set_cons_succ]
      try simp only [List.set_cons_zero]
      refine wpAnyH_take (i := 9) (v := ?v7010) rfl (by kernel_rfl) (by kernel_rfl) (by kernel_rfl) (fun _ _ _ h => h) (Or.inl ⟨by rfl, ?y7010⟩) hHeld ?r7010
      case y7010 => ((intro W hSw; go_simp) <;> with_reducible rfl)
      try simp only [Act.put]
      try simp only [List.getElem_toArray]
      try simp only [List.getElem_cons_succ]
      try simp only [List.getElem_cons_zero]
      try simp only [List.setIfInBounds_toArray]
      try simp only [List.set_cons_succ]
      try simp only [List.set_cons_zero]
      refine wpAnyH_take (i := 10) (v := ?v7011) rfl (by kernel_rfl) (by kernel_rfl) (by kernel_rfl) (fun _ _ _ h => h) (Or.inl ⟨by rfl, ?y7011⟩) hHeld ?r7011
      case y7011 => ((intro W hSw; go_simp) <;> with_reducible rfl)
      try simp only [Act.put]
      try simp only [List.getElem_toArray]
      try simp only [List.getElem_cons_succ]
      try simp only [List.getElem_cons_zero]
      try simp only [List.setIfInBounds_toArray]
      try simp only [List.set_cons_succ]
      try simp only [List.set_cons_zero]
      refine wpAnyH_ready (rs := [11]) (by kernel_rfl) (by simp) ?_
      refine AllReadyH.cons rfl (fun K hK => ?_) AllReadyH.nil
      go_simp
      refine hK.out _ _ ((World.cell?_alloc_lt _ _ _ (lt_of_cell hHeld)).trans hHeld) (fun hHeld => ?_)
      clear hK K
      refine wpAnyH_ready (rs := [12]) (by kernel_rfl) (by simp) ?_
      refine AllReadyH.cons rfl (fun K hK => ?_) AllReadyH.nil
      go_simp
      refine hK.out _ _ ((World.cell?_alloc_lt _ _ _ (lt_of_cell H6.out)).trans H6.out) (fun hHeld => ?_)
      clear hK K hHeld
      refine wpAnyH_done (by kernel_rfl) ?_ _
      refine NoPanic.normal ?_
      obtain ⟨m, hm⟩ : ∃ m, m = -(nx + i + 1) := ⟨_, rfl⟩
      have Hm : Hid (m = -(nx + i + 1)) := hm
      have hwn : IntKind.i64.wrap (-(nx + i + 1)) = -(nx + i + 1) := wrapI64s _ (by omega) (by omega)
      try rw [hwn]
      rw [← hm]
      clear hm H6 hwn
      have hR0 := HM.out.row
      have hL0 := HM.out.lst
      rw [Hn.out] at hR0 hL0
      have hC0 := HM.out.chg
      have Hfar : Hid (∀ b, F b → ρ1 b = 0) := HM.out.far
      have HFl : Hid (∀ b, (Value.slice ao i cap).ownBlock = some b → ¬ F b) := fun b hb hF => (HF.out b hF).2.2.1 (by rw [Hn.out]; exact hb)
      have Hbw : Hid (w.heap.size ≤ wr.heap.size) := hC0.size
      have Hrho : Hid (∀ b, b < w.heap.size → ρ b ≠ 0 → ρ1 b = ρ b) := HM.out.rho
      have Hlen : Hid (NL1.length = NL.length + 4 * i) := HM.out.len
      have Hlst : Hid (∀ b, (Value.slice ao i cap).ownBlock = some b → ρ1 b = 0 ∧ b < w.heap.size) := hL0
      have HB2 : Hid (∀ t, BkN ((wr.setCell ⟨g, 6, none⟩ (.int .i64 (nx + i + 1))).alloc (.cells #[.int .i64 m, .int .i64 m, .slice none 0 0] t)).drew g ρ1 tv tk nv1 nk1 av ak TL TM NL1 (NS1.map (Value.int .i64)) AL (AS.map (Value.int .i64)) (nx + i + 1)) := fun t => HB1.out.chg (T := fun _ => False) ((Chg.refl _ _).alloc _).drew (fun _ h => h.elim)
      have HC2 : Hid (∀ t, Chg (fun b => g ≤ b ∧ ¬ F b) w ((wr.setCell ⟨g, 6, none⟩ (.int .i64 (nx + i + 1))).alloc (.cells #[.int .i64 m, .int .i64 m, .slice none 0 0] t)).drew) := fun t => ((hC0.setCell ⟨g, 6, none⟩ (.inl ⟨Nat.le_refl _, HFg.out⟩) _).alloc _).drew
      have HR2 : Hid (∀ t, (((wr.setCell ⟨g, 6, none⟩ (.int .i64 (nx + i + 1))).alloc (.cells #[.int .i64 m, .int .i64 m, .slice none 0 0] t)).drew).ownsRow (g + 1) 40 3 (.slice ao i cap) i (flatA xs)) := fun t => World.ownsRow.drew (World.ownsRow.alloc (ownsRow_setCell_below hR0 (Nat.lt_succ_self g) _) _)
      have HX2 : Hid (∀ t, (((wr.setCell ⟨g, 6, none⟩ (.int .i64 (nx + i + 1))).alloc (.cells #[.int .i64 m, .int .i64 m, .slice none 0 0] t)).drew).cell? ⟨wr.heap.size, 0, none⟩ = some (.int .i64 m) ∧ (((wr.setCell ⟨g, 6, none⟩ (.int .i64 (nx + i + 1))).alloc (.cells #[.int .i64 m, .int .i64 m, .slice none 0 0] t)).drew).cell? ⟨wr.heap.size, 1, none⟩ = some (.int .i64 m) ∧ (((wr.setCell ⟨g, 6, none⟩ (.int .i64 (nx + i + 1))).alloc (.cells #[.int .i64 m, .int .i64 m, .slice none 0 0] t)).drew).cell? ⟨wr.heap.size, 2, none⟩ = some (.slice none 0 0)) := fun t => by
        refine ⟨?_, ?_, ?_⟩ <;> first | (simp [go_sem]; done) | go_simp
      clear hR0 hL0 hC0 HB1 HM hc6 hfz
      go_wp2
      obtain ⟨B, hBe⟩ : ∃ B, B = wr.heap.size := ⟨_, rfl⟩
      have HBe : Hid (w.heap.size ≤ B) := by show _ ≤ _; rw [hBe]; exact Hbw.out
      rw [← hBe] at HX2 ⊢
      clear hBe
      go_loopw [6] (fun s6 W => ∃ (k : Nat) (ys : List Value), k ≤ i ∧ s6 = .int .i64 k ∧ W.ownsRow (g + 1) 40 3 (.slice ao i cap) i ys ∧ ys.take (k * 3) = rep k [.int .i64 m, .int .i64 m, .slice none 0 0] ∧ BkN W g ρ1 tv tk nv1 nk1 av ak TL TM NL1 (NS1.map (Value.int .i64)) AL (AS.map (Value.int .i64)) (nx + i + 1) ∧ (W.cell? ⟨B, 0, none⟩ = some (.int .i64 m) ∧ W.cell? ⟨B, 1, none⟩ = some (.int .i64 m) ∧ W.cell? ⟨B, 2, none⟩ = some (.slice none 0 0)) ∧ Chg (fun b => g ≤ b ∧ ¬ F b) w W) (fun s6 _ => i - (intOf s6).toNat)
      case atStart => exact ⟨0, _, Nat.zero_le _, rfl, HR2.out _, rfl, HB2.out _, HX2.out _, HC2.out _⟩
      case round =>
        obtain ⟨k, ys, hk, rfl, hrow, hys, hBk, hbx, hch⟩ := hrel
        by_cases hlt2 : k < i
        · have hlt3 : (k : Int) < i := by omega
          obtain ⟨gl, rfl⟩ := rowA_some hrow (by omega)
          have hyl : ys.length = i * 3 := hrow.1
          have ex : ∀ d, d < 3 → ∃ y, ys[k * 3 + d]? = some y := fun d hd => ⟨_, List.getElem?_eq_getElem (by omega)⟩
          obtain ⟨y0, e0⟩ := ex 0 (by omega)
          obtain ⟨y1, e1⟩ := ex 1 (by omega)
          obtain ⟨y2, e2⟩ := ex 2 (by omega)
          have d0 := (World.ownsRow.cellAt hrow (k * 3) (by omega)).trans e0
          have d1 := (World.ownsRow.cellAt hrow (k * 3 + 1) (by omega)).trans e1
          have d2 := (World.ownsRow.cellAt hrow (k * 3 + 2) (by omega)).trans e2
          have fz : ∀ j, World.frozen? _ ⟨gl, j, none⟩ = false := fun j => World.ownsRow.frozenAt hrow j
          obtain ⟨b0, b1, b2⟩ := hbx
          have hgl := Hlst.out gl rfl
          have hne : gl ≠ B := by have := HBe.out; omega
          have Hrow : Hid (World.ownsRow _ (g + 1) 40 3 (.slice (some ⟨gl, 0, none⟩) i cap) i ys) := hrow
          have Hys : Hid (ys.take (k * 3) = rep k [.int .i64 m, .int .i64 m, .slice none 0 0]) := hys
          have HBk : Hid (BkN _ g ρ1 tv tk nv1 nk1 av ak TL TM NL1 (NS1.map (Value.int .i64)) AL (AS.map (Value.int .i64)) (nx + i + 1)) := hBk
          have Hch : Hid (Chg (fun b => g ≤ b ∧ ¬ F b) w _) := hch
          have Hbx : Hid (_ ∧ _ ∧ _) := And.intro b0 (And.intro b1 b2)
          have Hyl : Hid (ys.length = i * 3) := hyl
          clear hrow hys hBk hch ex e0 e1 e2 hyl
          go_wp2
          go_roundw
          case rel =>
            refine ⟨k + 1, ((ys.set (k * 3) (.int .i64 m)).set (k * 3 + 1) (.int .i64 m)).set (k * 3 + 2) (.slice none 0 0), by omega, by go_num, ?_, ?_, ?_, ?_, ?_⟩
            · exact (World.ownsRow.stored (World.ownsRow.stored (World.ownsRow.stored Hrow.out (k * 3) _).1 (k * 3 + 1) _).1 (k * 3 + 2) _).1
            · rw [set_three ys k _ _ _ (by rw [Hyl.out]; omega), Hys.out, rep_add]; rfl
            · exact HBk.out.chg (T := fun b => b = gl) ((((Chg.refl (fun b => b = gl) _).setCell ⟨gl, k * 3, none⟩ (.inl rfl) _).setCell ⟨gl, k * 3 + 1, none⟩ (.inl rfl) _).setCell ⟨gl, k * 3 + 2, none⟩ (.inl rfl) _) (fun b hb => by rw [hb]; exact hgl.1)
            · have far : ∀ (W : World) (o o' : Nat) (u : Value), (W.setCell ⟨gl, o, none⟩ u).cell? ⟨B, o', none⟩ = W.cell? ⟨B, o', none⟩ := fun W o o' u => World.cell?_setCell_other _ ⟨gl, o, none⟩ ⟨B, o', none⟩ _ (fun e => hne (by injection e))
              simp only [far]
              exact Hbx.out
            · exact ((Hch.out.setCell ⟨gl, k * 3, none⟩ (.inl ⟨by have := (World.ownsRow.lt Hrow.out gl rfl).1; show g ≤ gl; omega, HFl.out gl rfl⟩) _).setCell ⟨gl, k * 3 + 1, none⟩ (.inl ⟨by have := (World.ownsRow.lt Hrow.out gl rfl).1; show g ≤ gl; omega, HFl.out gl rfl⟩) _).setCell ⟨gl, k * 3 + 2, none⟩ (.inl ⟨by have := (World.ownsRow.lt Hrow.out gl rfl).1; show g ≤ gl; omega, HFl.out gl rfl⟩) _
          case measure => simp [intOf]; omega
        · have hki : k = i := by omega
          subst hki
          have hlt3 : ¬ (k : Int) < k := by omega
          obtain ⟨an, cn, rfl⟩ := row_shape hBk.ap.rl
          obtain ⟨am, cm, rfl⟩ := row_shape hBk.ap.rk
          have hyl : ys.length = k * 3 := hrow.1
          have hyr : ys = rep k [.int .i64 m, .int .i64 m, .slice none 0 0] := by rw [← hys, List.take_of_length_le (by omega)]
          rw [hyr] at hrow
          obtain ⟨b0, b1, b2⟩ := hbx
          obtain ⟨ia, hia, hz0, hz1, hz2⟩ := info_parts asks_info
          have Hia : Hid (Try.prog.info? 40 = some ia ∧ ia.zero = some (.agg #[.int .i64 0, .int .i64 0, .slice none 0 0]) ∧ ia.size = 3 ∧ ia.bytes = 40) := ⟨hia, hz0, hz1, hz2⟩
          clear hia hz0 hz1 hz2
          obtain ⟨W0, hW0⟩ : ∃ W0 : World, W0.heap.size = W0.heap.size ∧ True := ⟨w, rfl, trivial⟩
          clear W0 hW0
          have HM0 : Hid (MkN _ (g + 1) 40 (.slice ao k cap) k [.int .i64 m, .int .i64 m, .slice none 0 0]) := hrow
          have HBk : Hid (BkN _ g ρ1 tv tk nv1 nk1 (.slice an AL.length cn) (.slice am (AS.map (Value.int .i64)).length cm) TL TM NL1 (NS1.map (Value.int .i64)) AL (AS.map (Value.int .i64)) (nx + k + 1)) := hBk
          have Hch : Hid (Chg (fun b => g ≤ b ∧ ¬ F b) w _) := hch
          have hgw2 := hBk.lt
          clear hrow hBk hch hys hyr hyl
          have Hbx : Hid (_ ∧ _ ∧ _) := And.intro b0 (And.intro b1 b2)
          have HoB : Hid (∀ b, (Value.slice ao k cap).ownBlock = some b → ¬ b = B) := fun b hb e => by have := (Hlst.out b hb).2; have := HBe.out; omega
          have HV : Hid (∀ b, (Value.slice ao k cap).ownBlock = some b → ρ1 b = 0) := fun b hb => (Hlst.out b hb).1
          go_wp2_with (at_builtin; (
            refine wpList_append_asks rfl (.tmp 51) (.tmp 53) rfl (g + 1) ia Hia.out (.slice ao k cap) k 1 m rfl (World.ownsRow.alloc HM0.out _) _ 1 rfl (cells_new _ [.int .i64 m, .int .i64 m, .slice none 0 0] _) (by omega) (by simp; omega) ?_
            intro v1 w1 h1 k1 g1 d1
            refine stop_here ?_))
          obtain ⟨a1, p1, rfl⟩ := h1.shape
          have M11 : Hid (MkN w1 (g + 1) 40 (.slice a1 (k + 1) p1) (k + 1) [.int .i64 m, .int .i64 m, .slice none 0 0]) := h1
          have M10 : Hid (MkN w1 (g + 1) 40 (.slice ao k cap) k [.int .i64 m, .int .i64 m, .slice none 0 0]) := k1 _ _ (by omega) (World.ownsRow.alloc HM0.out _)
          have X1 : Hid (Chg (fun b => (Value.slice ao k cap).ownBlock = some b) wr w1) := ((Chg.refl _ _).alloc _).trans (Chg.ofGrown g1) (fun _ _ e => e)
          have D1 : Hid ((Value.slice a1 (k + 1) p1).ownBlock = (Value.slice ao k cap).ownBlock ∨ ∀ b, (Value.slice a1 (k + 1) p1).ownBlock = some b → wr.heap.size ≤ b) := d1.imp id (fun e b hb => by rw [e] at hb; simp at hb; omega)
          have s1 : g + 1 ≤ w1.heap.size := Nat.le_trans (Nat.succ_le_of_lt hgw2) X1.out.size
          have bx1 : Hid (w1.cell? ⟨B, 0, none⟩ = some (.int .i64 m) ∧ w1.cell? ⟨B, 1, none⟩ = some (.int .i64 m) ∧ w1.cell? ⟨B, 2, none⟩ = some (.slice none 0 0)) := ⟨X1.out.cell Hbx.out.1 (fun e => HoB.out _ e rfl), X1.out.cell Hbx.out.2.1 (fun e => HoB.out _ e rfl), X1.out.cell Hbx.out.2.2 (fun e => HoB.out _ e rfl)⟩
          obtain ⟨q10, q11, q12⟩ := bx1.out
          clear h1 k1 g1 d1
          refine hid_in ?_
          go_wp2_with (at_builtin; (
            refine wpList_append_asks rfl (.tmp 55) (.tmp 58) rfl (g + 1) ia Hia.out (.slice ao k cap) k 2 m rfl (World.ownsRow.alloc M10.out _) _ 2 rfl (cells_new _ [.int .i64 m, .int .i64 m, .slice none 0 0, .int .i64 m, .int .i64 m, .slice none 0 0] _) (by omega) (by simp; omega) ?_
            intro v2 w2 h2 k2 g2 d2
            refine stop_here ?_))
          obtain ⟨a2, p2, rfl⟩ := h2.shape
          have M22 : Hid (MkN w2 (g + 1) 40 (.slice a2 (k + 2) p2) (k + 2) [.int .i64 m, .int .i64 m, .slice none 0 0]) := h2
          have M20 : Hid (MkN w2 (g + 1) 40 (.slice ao k cap) k [.int .i64 m, .int .i64 m, .slice none 0 0]) := k2 _ _ (by omega) (World.ownsRow.alloc M10.out _)
          have M21 : Hid (MkN w2 (g + 1) 40 (.slice a1 (k + 1) p1) (k + 1) [.int .i64 m, .int .i64 m, .slice none 0 0]) := k2 _ _ (by omega) (World.ownsRow.alloc M11.out _)
          have X2 : Hid (Chg (fun b => (Value.slice ao k cap).ownBlock = some b) wr w2) := (X1.out.alloc _).trans (Chg.ofGrown g2) (fun _ _ e => e)
          have D2 : Hid ((Value.slice a2 (k + 2) p2).ownBlock = (Value.slice ao k cap).ownBlock ∨ ∀ b, (Value.slice a2 (k + 2) p2).ownBlock = some b → wr.heap.size ≤ b) := d2.imp id (fun e b hb => by rw [e] at hb; have := X1.out.size; simp at hb; omega)
          have s2 : g + 1 ≤ w2.heap.size := Nat.le_trans (Nat.succ_le_of_lt hgw2) X2.out.size
          have bx2 : Hid (w2.cell? ⟨B, 0, none⟩ = some (.int .i64 m) ∧ w2.cell? ⟨B, 1, none⟩ = some (.int .i64 m) ∧ w2.cell? ⟨B, 2, none⟩ = some (.slice none 0 0)) := ⟨X2.out.cell Hbx.out.1 (fun e => HoB.out _ e rfl), X2.out.cell Hbx.out.2.1 (fun e => HoB.out _ e rfl), X2.out.cell Hbx.out.2.2 (fun e => HoB.out _ e rfl)⟩
          obtain ⟨q20, q21, q22⟩ := bx2.out
          clear h2 k2 g2 d2
          refine hid_in ?_
          go_wp2_with (at_builtin; (
            refine wpList_append_asks rfl (.tmp 60) (.tmp 64) rfl (g + 1) ia Hia.out (.slice ao k cap) k 3 m rfl (World.ownsRow.alloc M20.out _) _ 3 rfl (cells_new _ [.int .i64 m, .int .i64 m, .slice none 0 0, .int .i64 m, .int .i64 m, .slice none 0 0, .int .i64 m, .int .i64 m, .slice none 0 0] _) (by omega) (by simp; omega) ?_
            intro v3 w3 h3 k3 g3 d3
            refine stop_here ?_))
          obtain ⟨a3, p3, rfl⟩ := h3.shape
          have M33 : Hid (MkN w3 (g + 1) 40 (.slice a3 (k + 3) p3) (k + 3) [.int .i64 m, .int .i64 m, .slice none 0 0]) := h3
          have M30 : Hid (MkN w3 (g + 1) 40 (.slice ao k cap) k [.int .i64 m, .int .i64 m, .slice none 0 0]) := k3 _ _ (by omega) (World.ownsRow.alloc M20.out _)
          have M31 : Hid (MkN w3 (g + 1) 40 (.slice a1 (k + 1) p1) (k + 1) [.int .i64 m, .int .i64 m, .slice none 0 0]) := k3 _ _ (by omega) (World.ownsRow.alloc M21.out _)
          have M32 : Hid (MkN w3 (g + 1) 40 (.slice a2 (k + 2) p2) (k + 2) [.int .i64 m, .int .i64 m, .slice none 0 0]) := k3 _ _ (by omega) (World.ownsRow.alloc M22.out _)
          have X3 : Hid (Chg (fun b => (Value.slice ao k cap).ownBlock = some b) wr w3) := (X2.out.alloc _).trans (Chg.ofGrown g3) (fun _ _ e => e)
          have D3 : Hid ((Value.slice a3 (k + 3) p3).ownBlock = (Value.slice ao k cap).ownBlock ∨ ∀ b, (Value.slice a3 (k + 3) p3).ownBlock = some b → wr.heap.size ≤ b) := d3.imp id (fun e b hb => by rw [e] at hb; have := X2.out.size; simp at hb; omega)
          have s3 : g + 1 ≤ w3.heap.size := Nat.le_trans (Nat.succ_le_of_lt hgw2) X3.out.size
          have bx3 : Hid (w3.cell? ⟨B, 0, none⟩ = some (.int .i64 m) ∧ w3.cell? ⟨B, 1, none⟩ = some (.int .i64 m) ∧ w3.cell? ⟨B, 2, none⟩ = some (.slice none 0 0)) := ⟨X3.out.cell Hbx.out.1 (fun e => HoB.out _ e rfl), X3.out.cell Hbx.out.2.1 (fun e => HoB.out _ e rfl), X3.out.cell Hbx.out.2.2 (fun e => HoB.out _ e rfl)⟩
          obtain ⟨q30, q31, q32⟩ := bx3.out
          clear h3 k3 g3 d3
          have BK3 : Hid (BkN w3 g ρ1 tv tk nv1 nk1 (.slice an AL.length cn) (.slice am (AS.map (Value.int .i64)).length cm) TL TM NL1 (NS1.map (Value.int .i64)) AL (AS.map (Value.int .i64)) (nx + k + 1)) := HBk.out.chg X3.out HV.out
          have c4 := BK3.out.c4
          have hinfo : (Try.prog.info? 37).map (fun i => (i.zero, i.size, i.bytes)) = some (some (.slice none 0 0), 1, 24) := by kernel_rfl
          obtain ⟨ib, hj, hy0, hy1, hy2⟩ := info_parts hinfo
          have Hj : Hid (Try.prog.info? 37 = some ib ∧ ib.zero = some (.slice none 0 0) ∧ ib.size = 1 ∧ ib.bytes = 24) := ⟨hj, hy0, hy1, hy2⟩
          clear hj hy0 hy1 hy2 hinfo
          refine hid_in ?_
          go_wp2_with (at_builtin; (
            refine wpList_append_own_at _ rfl (.tmp 70) (.tmp 75) 28 rfl (g + 1) 37 ib (.slice none 0 0) 1 24 Try.underlying28 Hj.out.1 Hj.out.2.1 Hj.out.2.2.1 Hj.out.2.2.2 rfl (by decide) (.slice an AL.length cn) AL.length AL rfl (World.ownsRow.alloc BK3.out.ap.rl _) _ 4 4 [.slice ao k cap, .slice a1 (k + 1) p1, .slice a2 (k + 2) p2, .slice a3 (k + 3) p3] rfl rfl (cells_new _ [.slice ao k cap, .slice a1 (k + 1) p1, .slice a2 (k + 2) p2, .slice a3 (k + 3) p3] _) ?_ ?_ ?_ ?_ ?_
            · intro u hu
              simp only [List.mem_cons, List.not_mem_nil, or_false] at hu
              rcases hu with rfl | rfl | rfl | rfl <;> rfl
            · unfold maxLen; omega
            · omega
            · simp; omega
            intro v4 w4 h4 g4 _ d4
            refine stop_here ?_))
          obtain ⟨a4, p4, rfl⟩ := row_shape h4
          have H4 : Hid (w4.ownsRow (g + 1) 37 1 (.slice a4 (AL.length + 4) p4) (AL.length + 4) (AL ++ [.slice ao k cap, .slice a1 (k + 1) p1, .slice a2 (k + 2) p2, .slice a3 (k + 3) p3])) := h4
          have X4 : Hid (Chg (fun b => (Value.slice an AL.length cn).ownBlock = some b) w3 w4) := ((Chg.refl _ _).alloc _).trans (Chg.ofGrown g4) (fun _ _ e => e)
          have D4 : Hid ((Value.slice a4 (AL.length + 4) p4).ownBlock = (Value.slice an AL.length cn).ownBlock ∨ ∀ b, (Value.slice a4 (AL.length + 4) p4).ownBlock = some b → w3.heap.size ≤ b) := d4.imp id (fun e b hb => by rw [e] at hb; simp at hb; omega)
          have hng : ¬ (Value.slice an AL.length cn).ownBlock = some g := fun e => by have := (BK3.out.ap.rl.lt g e).1; omega
          have e4 := X4.out.cell BK3.out.c4 hng
          have e5 := X4.out.cell BK3.out.c5 hng
          have e6 := X4.out.cell BK3.out.c6 hng
          have f4 : ∀ o, w4.frozen? ⟨g, o, none⟩ = false := fun o => (X4.out.frozen (p := ⟨g, o, none⟩) (show g < w3.heap.size by omega) hng).trans (BK3.out.fz o)
          have s4 : g + 1 ≤ w4.heap.size := Nat.le_trans s3 X4.out.size
          have RM : Hid ((w4.setCell ⟨g, 4, none⟩ (.slice a4 (AL.length + 4) p4)).ownsRow (g + 1) 3 1 (.slice am (AS.map (Value.int .i64)).length cm) (AS.map (Value.int .i64)).length (AS.map (Value.int .i64))) := ownsRow_setCell_below (X4.out.row BK3.out.ap.rk (fun x hx e => by have a := BK3.out.ap.fm x hx; have b := BK3.out.ap.fl x e; omega)) (Nat.lt_succ_self g) _
          have H56 : Hid ((w4.setCell ⟨g, 4, none⟩ (.slice a4 (AL.length + 4) p4)).cell? ⟨g, 5, none⟩ = some (.slice am (AS.map (Value.int .i64)).length cm) ∧ (w4.setCell ⟨g, 4, none⟩ (.slice a4 (AL.length + 4) p4)).drew.cell? ⟨g, 6, none⟩ = some (.int .i64 (nx + k + 1))) := ⟨(World.cell?_setCell_other _ ⟨g, 4, none⟩ ⟨g, 5, none⟩ _ (by simp)).trans e5, (World.cell?_setCell_other _ ⟨g, 4, none⟩ ⟨g, 6, none⟩ _ (by simp)).trans e6⟩
          have hAS : (AS.map (Value.int .i64)).length ≤ 900000000 := by rw [← BK3.out.ap.len]; exact hAL
          clear h4 g4 d4 hng c4
          refine hid_in ?_
          have hnm : -(nx + (k : Int) + 1) = m := Hm.out.symm
          have hwm : IntKind.i64.wrap m = m := wrapI64s _ (by have := Hm.out; omega) (by have := Hm.out; omega)
          have hinfo : (Try.prog.info? 3).map (fun i => (i.zero, i.size, i.bytes)) = some (some (.int .i64 0), 1, 8) := by kernel_rfl
          obtain ⟨ic, hj, hy0, hy1, hy2⟩ := info_parts hinfo
          have Hic : Hid (Try.prog.info? 3 = some ic ∧ ic.zero = some (.int .i64 0) ∧ ic.size = 1 ∧ ic.bytes = 8) := ⟨hj, hy0, hy1, hy2⟩
          clear hj hy0 hy1 hy2 hinfo
          have hob : (Value.slice am (AS.map (Value.int .i64)).length cm) = Value.slice am AS.length cm := by rw [List.length_map]
          have Hob : Hid (Value.slice am (AS.map (Value.int .i64)).length cm = Value.slice am AS.length cm) := hob
          clear hob
          have ha5 : ∀ o, (World.alloc (w4.setCell ⟨g, 4, none⟩ (.slice a4 (AL.length + 4) p4)) o).cell? ⟨g, 5, none⟩ = _ := fun o => (World.cell?_alloc_lt _ _ _ (lt_of_cell H56.out.1)).trans H56.out.1
          have HB9 : Hid (∀ b, wr.heap.size ≤ b → ρ1 b = 0) := HBk.out.hi
          have HG9 : Hid (g < wr.heap.size) := hgw2
          have HW9 : Hid (wr.heap.size ≤ wr.heap.size) := Nat.le_refl _
          go_wp2
          refine wp_region_noPanic ?_
          refine wp_region_held_drew (S := fun W => W.cell? ⟨g, 6, none⟩ = some (.int .i64 (nx + k + 1))) (by kernel_rfl) H56.out.2 (fun hHeld => ?_)
          refine wpAnyH_take (i := 0) (v := ?v8001) rfl (by kernel_rfl) (by kernel_rfl) (by kernel_rfl) (fun _ _ _ h => h) (Or.inl ⟨by rfl, ?y8001⟩) hHeld ?r8001
          case y8001 => ((intro W hSw; go_simp) <;> with_reducible rfl)
          try simp only [Act.put]
          try simp only [List.getElem_toArray]
          try simp only [List.getElem_cons_succ]
          try simp only [List.getElem_cons_zero]
          try simp only [List.setIfInBounds_toArray]
          try simp only [List.set_cons_succ]
          try simp only [List.set_cons_zero]
          refine wpAnyH_take (i := 1) (v := ?v8002) rfl (by kernel_rfl) (by kernel_rfl) (by kernel_rfl) (fun _ _ _ h => h) (Or.inl ⟨by rfl, ?y8002⟩) hHeld ?r8002
          case y8002 => ((intro W hSw; go_simp) <;> with_reducible rfl)
          try simp only [Act.put]
          try simp only [List.getElem_toArray]
          try simp only [List.getElem_cons_succ]
          try simp only [List.getElem_cons_zero]
          try simp only [List.setIfInBounds_toArray]
          try simp only [List.set_cons_succ]
          try simp only [List.set_cons_zero]
          refine wpAnyH_take (i := 2) (v := ?v8003) rfl (by kernel_rfl) (by kernel_rfl) (by kernel_rfl) (fun _ _ _ h => h) (Or.inl ⟨by rfl, ?y8003⟩) hHeld ?r8003
          case y8003 => ((intro W hSw; go_simp) <;> with_reducible rfl)
          try simp only [Act.put]
          try simp only [List.getElem_toArray]
          try simp only [List.getElem_cons_succ]
          try simp only [List.getElem_cons_zero]
          try simp only [List.setIfInBounds_toArray]
          try simp only [List.set_cons_succ]
          try simp only [List.set_cons_zero]
          refine wpAnyH_take (i := 3) (v := ?v8004) rfl (by kernel_rfl) (by kernel_rfl) (by kernel_rfl) (fun _ _ _ h => h) (Or.inl ⟨by rfl, ?y8004⟩) hHeld ?r8004
          case y8004 => ((intro W hSw; go_simp) <;> with_reducible rfl)
          try simp only [Act.put]
          try simp only [List.getElem_toArray]
          try simp only [List.getElem_cons_succ]
          try simp only [List.getElem_cons_zero]
          try simp only [List.setIfInBounds_toArray]
          try simp only [List.set_cons_succ]
          try simp only [List.set_cons_zero]
          refine wpAnyH_take (i := 5) (v := ?v8005) rfl (by kernel_rfl) (by kernel_rfl) (by kernel_rfl) (fun _ _ _ h => h) (Or.inl ⟨by rfl, ?y8005⟩) hHeld ?r8005
          case y8005 => ((intro W hSw; go_simp) <;> with_reducible rfl)
          try simp only [Act.put]
          try simp only [List.getElem_toArray]
          try simp only [List.getElem_cons_succ]
          try simp only [List.getElem_cons_zero]
          try simp only [List.setIfInBounds_toArray]
          try simp only [List.set_cons_succ]
          try simp only [List.set_cons_zero]
          refine wpAnyH_take (i := 6) (v := ?v8006) rfl (by kernel_rfl) (by kernel_rfl) (by kernel_rfl) (fun _ _ _ h => h) (Or.inl ⟨by rfl, ?y8006⟩) hHeld ?r8006
          case y8006 => ((intro W hSw; go_simp) <;> with_reducible rfl)
          try simp only [Act.put]
          try simp only [List.getElem_toArray]
          try simp only [List.getElem_cons_succ]
          try simp only [List.getElem_cons_zero]
          try simp only [List.setIfInBounds_toArray]
          try simp only [List.set_cons_succ]
          try simp only [List.set_cons_zero]
          refine wpAnyH_take (i := 7) (v := ?v8007) rfl (by kernel_rfl) (by kernel_rfl) (by kernel_rfl) (fun _ _ _ h => h) (Or.inl ⟨by rfl, ?y8007⟩) hHeld ?r8007
          case y8007 => ((intro W hSw; go_simp) <;> with_reducible rfl)
          try simp only [Act.put]
          try simp only [List.getElem_toArray]
          try simp only [List.getElem_cons_succ]
          try simp only [List.getElem_cons_zero]
          try simp only [List.setIfInBounds_toArray]
          try simp only [List.set_cons_succ]
          try simp only [List.set_cons_zero]
          refine wpAnyH_take (i := 8) (v := ?v8008) rfl (by kernel_rfl) (by kernel_rfl) (by kernel_rfl) (fun _ _ _ h => h) (Or.inl ⟨by rfl, ?y8008⟩) hHeld ?r8008
          case y8008 => ((intro W hSw; go_simp) <;> with_reducible rfl)
          try simp only [Act.put]
          try simp only [List.getElem_toArray]
          try simp only [List.getElem_cons_succ]
          try simp only [List.getElem_cons_zero]
          try simp only [List.setIfInBounds_toArray]
          try simp only [List.set_cons_succ]
          try simp only [List.set_cons_zero]
          refine wpAnyH_take (i := 9) (v := ?v8009) rfl (by kernel_rfl) (by kernel_rfl) (by kernel_rfl) (fun _ _ _ h => h) (Or.inl ⟨by rfl, ?y8009⟩) hHeld ?r8009
          case y8009 => ((intro W hSw; go_simp) <;> with_reducible rfl)
          try simp only [Act.put]
          try simp only [List.getElem_toArray]
          try simp only [List.getElem_cons_succ]
          try simp only [List.getElem_cons_zero]
          try simp only [List.setIfInBounds_toArray]
          try simp only [List.set_cons_succ]
          try simp only [List.set_cons_zero]
          refine wpAnyH_take (i := 10) (v := ?v8010) rfl (by kernel_rfl) (by kernel_rfl) (by kernel_rfl) (fun _ _ _ h => h) (Or.inl ⟨by rfl, ?y8010⟩) hHeld ?r8010
          case y8010 => ((intro W hSw; go_simp) <;> with_reducible rfl)
          try simp only [Act.put]
          try simp only [List.getElem_toArray]
          try simp only [List.getElem_cons_succ]
          try simp only [List.getElem_cons_zero]
          try simp only [List.setIfInBounds_toArray]
          try simp only [List.set_cons_succ]
          try simp only [List.set_cons_zero]
          refine wpAnyH_take (i := 11) (v := ?v8011) rfl (by kernel_rfl) (by kernel_rfl) (by kernel_rfl) (fun _ _ _ h => h) (Or.inl ⟨by rfl, ?y8011⟩) hHeld ?r8011
          case y8011 => ((intro W hSw; go_simp) <;> with_reducible rfl)
          try simp only [Act.put]
          try simp only [List.getElem_toArray]
          try simp only [List.getElem_cons_succ]
          try simp only [List.getElem_cons_zero]
          try simp only [List.setIfInBounds_toArray]
          try simp only [List.set_cons_succ]
          try simp only [List.set_cons_zero]
          refine wpAnyH_take (i := 12) (v := ?v8012) rfl (by kernel_rfl) (by kernel_rfl) (by kernel_rfl) (fun _ _ _ h => h) (Or.inl ⟨by rfl, ?y8012⟩) hHeld ?r8012
          case y8012 => ((intro W hSw; go_simp) <;> with_reducible rfl)
          try simp only [Act.put]
          try simp only [List.getElem_toArray]
          try simp only [List.getElem_cons_succ]
          try simp only [List.getElem_cons_zero]
          try simp only [List.setIfInBounds_toArray]
          try simp only [List.set_cons_succ]
          try simp only [List.set_cons_zero]
          refine wpAnyH_take (i := 13) (v := ?v8013) rfl (by kernel_rfl) (by kernel_rfl) (by kernel_rfl) (fun _ _ _ h => h) (Or.inl ⟨by rfl, ?y8013⟩) hHeld ?r8013
          case y8013 => ((intro W hSw; go_simp) <;> with_reducible rfl)
          try simp only [Act.put]
          try simp only [List.getElem_toArray]
          try simp only [List.getElem_cons_succ]
          try simp only [List.getElem_cons_zero]
          try simp only [List.setIfInBounds_toArray]
          try simp only [List.set_cons_succ]
          try simp only [List.set_cons_zero]
          refine wpAnyH_take (i := 14) (v := ?v8014) rfl (by kernel_rfl) (by kernel_rfl) (by kernel_rfl) (fun _ _ _ h => h) (Or.inl ⟨by rfl, ?y8014⟩) hHeld ?r8014
          case y8014 => ((intro W hSw; go_simp) <;> with_reducible rfl)
          try simp only [Act.put]
          try simp only [List.getElem_toArray]
          try simp only [List.getElem_cons_succ]
          try simp only [List.getElem_cons_zero]
          try simp only [List.setIfInBounds_toArray]
          try simp only [List.set_cons_succ]
          try simp only [List.set_cons_zero]
          refine wpAnyH_take (i := 15) (v := ?v8015) rfl (by kernel_rfl) (by kernel_rfl) (by kernel_rfl) (fun _ _ _ h => h) (Or.inl ⟨by rfl, ?y8015⟩) hHeld ?r8015
          case y8015 => ((intro W hSw; go_simp) <;> with_reducible rfl)
          try simp only [Act.put]
          try simp only [List.getElem_toArray]
          try simp only [List.getElem_cons_succ]
          try simp only [List.getElem_cons_zero]
          try simp only [List.setIfInBounds_toArray]
          try simp only [List.set_cons_succ]
          try simp only [List.set_cons_zero]
          refine wpAnyH_take (i := 16) (v := ?v8016) rfl (by kernel_rfl) (by kernel_rfl) (by kernel_rfl) (fun _ _ _ h => h) (Or.inl ⟨by rfl, ?y8016⟩) hHeld ?r8016
          case y8016 => ((intro W hSw; go_simp) <;> with_reducible rfl)
          try simp only [Act.put]
          try simp only [List.getElem_toArray]
          try simp only [List.getElem_cons_succ]
          try simp only [List.getElem_cons_zero]
          try simp only [List.setIfInBounds_toArray]
          try simp only [List.set_cons_succ]
          try simp only [List.set_cons_zero]
          refine wpAnyH_take (i := 17) (v := ?v8017) rfl (by kernel_rfl) (by kernel_rfl) (by kernel_rfl) (fun _ _ _ h => h) (Or.inl ⟨by rfl, ?y8017⟩) hHeld ?r8017
          case y8017 => ((intro W hSw; go_simp) <;> with_reducible rfl)
          try simp only [Act.put]
          try simp only [List.getElem_toArray]
          try simp only [List.getElem_cons_succ]
          try simp only [List.getElem_cons_zero]
          try simp only [List.setIfInBounds_toArray]
          try simp only [List.set_cons_succ]
          try simp only [List.set_cons_zero]
          refine wpAnyH_take (i := 18) (v := ?v8018) rfl (by kernel_rfl) (by kernel_rfl) (by kernel_rfl) (fun _ _ _ h => h) (Or.inl ⟨by rfl, ?y8018⟩) hHeld ?r8018
          case y8018 => ((intro W hSw; go_simp) <;> with_reducible rfl)
          try simp only [Act.put]
          try simp only [List.getElem_toArray]
          try simp only [List.getElem_cons_succ]
          try simp only [List.getElem_cons_zero]
          try simp only [List.setIfInBounds_toArray]
          try simp only [List.set_cons_succ]
          try simp only [List.set_cons_zero]
          refine wpAnyH_take (i := 19) (v := ?v8019) rfl (by kernel_rfl) (by kernel_rfl) (by kernel_rfl) (fun _ _ _ h => h) (Or.inl ⟨by rfl, ?y8019⟩) hHeld ?r8019
          case y8019 => ((intro W hSw; go_simp) <;> with_reducible rfl)
          try simp only [Act.put]
          try simp only [List.getElem_toArray]
          try simp only [List.getElem_cons_succ]
          try simp only [List.getElem_cons_zero]
          try simp only [List.setIfInBounds_toArray]
          try simp only [List.set_cons_succ]
          try simp only [List.set_cons_zero]
          refine wpAnyH_take (i := 20) (v := ?v8020) rfl (by kernel_rfl) (by kernel_rfl) (by kernel_rfl) (fun _ _ _ h => h) (Or.inl ⟨by rfl, ?y8020⟩) hHeld ?r8020
          case y8020 => ((intro W hSw; go_simp) <;> with_reducible rfl)
          try simp only [Act.put]
          try simp only [List.getElem_toArray]
          try simp only [List.getElem_cons_succ]
          try simp only [List.getElem_cons_zero]
          try simp only [List.setIfInBounds_toArray]
          try simp only [List.set_cons_succ]
          try simp only [List.set_cons_zero]
          refine wpAnyH_take (i := 21) (v := ?v8021) rfl (by kernel_rfl) (by kernel_rfl) (by kernel_rfl) (fun _ _ _ h => h) (Or.inl ⟨by rfl, ?y8021⟩) hHeld ?r8021
          case y8021 => ((intro W hSw; go_simp) <;> with_reducible rfl)
          try simp only [Act.put]
          try simp only [List.getElem_toArray]
          try simp only [List.getElem_cons_succ]
          try simp only [List.getElem_cons_zero]
          try simp only [List.setIfInBounds_toArray]
          try simp only [List.set_cons_succ]
          try simp only [List.set_cons_zero]
          refine wpAnyH_take (i := 22) (v := ?v8022) rfl (by kernel_rfl) (by kernel_rfl) (by kernel_rfl) (fun _ _ _ h => h) (Or.inl ⟨by rfl, ?y8022⟩) hHeld ?r8022
          case y8022 => ((intro W hSw; go_simp) <;> with_reducible rfl)
          try simp only [Act.put]
          try simp only [List.getElem_toArray]
          try simp only [List.getElem_cons_succ]
          try simp only [List.getElem_cons_zero]
          try simp only [List.setIfInBounds_toArray]
          try simp only [List.set_cons_succ]
          try simp only [List.set_cons_zero]
          refine wpAnyH_take (i := 23) (v := ?v8023) rfl (by kernel_rfl) (by kernel_rfl) (by kernel_rfl) (fun _ _ _ h => h) (Or.inl ⟨by rfl, ?y8023⟩) hHeld ?r8023
          case y8023 => ((intro W hSw; go_simp) <;> with_reducible rfl)
          try simp only [Act.put]
          try simp only [List.getElem_toArray]
          try simp only [List.getElem_cons_succ]
          try simp only [List.getElem_cons_zero]
          try simp only [List.setIfInBounds_toArray]
          try simp only [List.set_cons_succ]
          try simp only [List.set_cons_zero]
          refine wpAnyH_take (i := 24) (v := ?v8024) rfl (by kernel_rfl) (by kernel_rfl) (by kernel_rfl) (fun _ _ _ h => h) (Or.inl ⟨by rfl, ?y8024⟩) hHeld ?r8024
          case y8024 => ((intro W hSw; go_simp) <;> with_reducible rfl)
          try simp only [Act.put]
          try simp only [List.getElem_toArray]
          try simp only [List.getElem_cons_succ]
          try simp only [List.getElem_cons_zero]
          try simp only [List.setIfInBounds_toArray]
          try simp only [List.set_cons_succ]
          try simp only [List.set_cons_zero]
          refine wpAnyH_ready (rs := [4, 25]) (by kernel_rfl) (by simp) ?_
          refine AllReadyH.cons rfl (fun K hK => ?_) (AllReadyH.cons rfl (fun K hK => ?_) AllReadyH.nil)
          · go_simp
            refine hK.out _ _ hHeld (fun hHeld => ?_)
            clear hK K
            refine wpAnyH_ready (rs := [25]) (by kernel_rfl) (by simp) ?_
            refine AllReadyH.cons rfl (fun K hK => ?_) AllReadyH.nil
            go_simp
            refine hK.out _ _ ((World.cell?_alloc_lt _ _ _ (lt_of_cell hHeld)).trans hHeld) (fun hHeld => ?_)
            clear hK K
            refine wpAnyH_ready (rs := [26]) (by kernel_rfl) (by simp) ?_
            refine AllReadyH.cons rfl (fun K hK => ?_) AllReadyH.nil
            rw [if_pos (by rfl)]
            refine wp_append_at (.tmp 83) (.tmp 104) 27 rfl (g + 1) 3 ic (.int .i64 0) 1 8 Try.underlying27 Hic.out.1 Hic.out.2.1 Hic.out.2.2.1 Hic.out.2.2.2 rfl (by decide) (.slice am AS.length cm) (AS.map (Value.int .i64)).length (AS.map (Value.int .i64)) (by rfl) (by have h := World.ownsRow.drew (World.ownsRow.alloc RM.out (.cells #[.int .i64 m, .int .i64 m, .int .i64 m, .int .i64 m] 3)); rw [← Hob.out]; exact h) _ 4 4 [.int .i64 m, .int .i64 m, .int .i64 m, .int .i64 m] (by rfl) rfl (cells_newAt _ [.int .i64 m, .int .i64 m, .int .i64 m, .int .i64 m] _ _ (by simp)) ?_ ?_ ?_ ?_ ?_
            · intro u hu; simp at hu; subst hu; rfl
            · unfold maxLen; omega
            · omega
            · simp; omega
            intro v5 w5 h5 g5 d5
            rw [← Hob.out] at g5 d5
            obtain ⟨a5, p5, rfl⟩ := row_shape h5
            have H5 : Hid (w5.ownsRow (g + 1) 3 1 (.slice a5 ((AS.map (Value.int .i64)).length + 4) p5) ((AS.map (Value.int .i64)).length + 4) (AS.map (Value.int .i64) ++ [.int .i64 m, .int .i64 m, .int .i64 m, .int .i64 m])) := h5
            have X5 : Hid (Chg (fun b => (Value.slice am (AS.map (Value.int .i64)).length cm).ownBlock = some b) (w4.setCell ⟨g, 4, none⟩ (.slice a4 (AL.length + 4) p4)) w5) := (((Chg.refl _ _).alloc _).drew).trans (Chg.ofGrown g5) (fun _ _ e => e)
            have D5 : Hid ((Value.slice a5 ((AS.map (Value.int .i64)).length + 4) p5).ownBlock = (Value.slice am (AS.map (Value.int .i64)).length cm).ownBlock ∨ ∀ b, (Value.slice a5 ((AS.map (Value.int .i64)).length + 4) p5).ownBlock = some b → w4.heap.size ≤ b) := d5.imp id (fun e b hb => by rw [e] at hb; simp at hb; omega)
            have hmg : ¬ (Value.slice am (AS.map (Value.int .i64)).length cm).ownBlock = some g := fun e => by have := (BK3.out.ap.rk.lt g e).1; omega
            have r5 := X5.out.cell H56.out.1 hmg
            have r6 := X5.out.cell H56.out.2 hmg
            have f5 : ∀ o, w5.frozen? ⟨g, o, none⟩ = false := fun o => (X5.out.frozen (p := ⟨g, o, none⟩) (by simp; omega) hmg).trans ((World.frozen?_setCell _ _ _ _).trans (f4 o))
            refine hK.out _ _ r6 (fun hHeld => ?_)
            clear hK K h5 g5 d5
            try simp only [Act.put]
            try simp only [List.getElem_toArray]
            try simp only [List.getElem_cons_succ]
            try simp only [List.getElem_cons_zero]
            try simp only [List.setIfInBounds_toArray]
            try simp only [List.set_cons_succ]
            try simp only [List.set_cons_zero]
            refine wpAnyH_take (i := 27) (v := ?v8025) rfl (by kernel_rfl) (by kernel_rfl) (by kernel_rfl) (fun _ _ _ h => h) (Or.inl ⟨by rfl, ?y8025⟩) hHeld ?r8025
            case y8025 => ((intro W hSw; go_simp) <;> with_reducible rfl)
            try simp only [Act.put]
            try simp only [List.getElem_toArray]
            try simp only [List.getElem_cons_succ]
            try simp only [List.getElem_cons_zero]
            try simp only [List.setIfInBounds_toArray]
            try simp only [List.set_cons_succ]
            try simp only [List.set_cons_zero]
            refine wpAnyH_take (i := 28) (v := ?v8026) rfl (by kernel_rfl) (by kernel_rfl) (by kernel_rfl) (fun _ _ _ h => h) (Or.inl ⟨by rfl, ?y8026⟩) hHeld ?r8026
            case y8026 => ((intro W hSw; go_simp) <;> with_reducible rfl)
            try simp only [Act.put]
            try simp only [List.getElem_toArray]
            try simp only [List.getElem_cons_succ]
            try simp only [List.getElem_cons_zero]
            try simp only [List.setIfInBounds_toArray]
            try simp only [List.set_cons_succ]
            try simp only [List.set_cons_zero]
            refine wpAnyH_ready (rs := [29]) (by kernel_rfl) (by simp) ?_
            refine AllReadyH.cons rfl (fun K hK => ?_) AllReadyH.nil
            go_simp
            refine hK.out _ _ ((World.cell?_setCell_other _ ⟨g, 5, none⟩ ⟨g, 6, none⟩ _ (by simp)).trans r6) (fun hHeld => ?_)
            clear hK K hHeld
            refine wpAnyH_done (by kernel_rfl) ?_ _
            refine NoPanic.normal ?_
            go_wp2
            obtain ⟨z1, z2, z3⟩ := takenA HBk.out BK3.out HB9.out HG9.out HW9.out X3.out.size HV.out M30.out M31.out M32.out M33.out (by omega) D1.out D2.out D3.out H4.out X4.out D4.out H5.out X5.out D5.out
            simp only [List.length_map] at z1 z2
            refine bodyPost_end (v := .tuple #[]) (by simp [results, Try.results45, go_sem]) rfl ⟨rfl, roleOf wr ρ1 6 7 (.slice a4 (AL.length + 4) p4) (.slice a5 (AS.length + 4) p5) (.slice ao k cap) (.slice a1 (k + 1) p1) (.slice a2 (k + 2) p2) (.slice a3 (k + 3) p3), nv1, nk1, .slice a4 (AL.length + 4) p4, .slice a5 (AS.length + 4) p5, NL1, NS1, AL ++ [.slice ao k cap, .slice a1 (k + 1) p1, .slice a2 (k + 2) p2, .slice a3 (k + 3) p3], AS ++ [m, m, m, m], ?_, ?_, ?_, ?_, ?_, ?_⟩
            · rw [List.map_append]
              exact z1
            · exact Hlen.out
            · simp
            · intro b hb hne
              have e := Hrho.out b hb hne
              rw [z2 b (by have := Hch.out.size; omega) (by rw [e]; exact hne), e]
            · refine (((Hch.out.trans X3.out ?_).trans X4.out ?_).setCell ⟨g, 4, none⟩ (.inl ⟨Nat.le_refl _, HFg.out⟩) _ |>.trans X5.out ?_).setCell ⟨g, 5, none⟩ (.inl ⟨Nat.le_refl _, HFg.out⟩) _
              · exact fun b _ e => ⟨by have := (World.ownsRow.lt M30.out b e).1; omega, HFl.out b e⟩
              · exact fun b _ e => ⟨by have := (BK3.out.ap.rl.lt b e).1; omega, fun hF => by have := Hfar.out b hF; rw [BK3.out.ap.fl b e] at this; cases this⟩
              · exact fun b _ e => ⟨by have := (BK3.out.ap.rk.lt b e).1; omega, fun hF => by have := Hfar.out b hF; rw [BK3.out.ap.fm b e] at this; cases this⟩
            · intro b hF
              simp only [List.length_map] at z3
              exact z3 b (by have := Hch.out.size; have := (HF.out b hF).2.1; omega) (fun e => HFl.out b e hF) (Hfar.out b hF)
          · go_simp
            refine hK.out _ _ ((World.cell?_alloc_lt _ _ _ (lt_of_cell hHeld)).trans hHeld) (fun hHeld => ?_)
            clear hK K
            refine wpAnyH_ready (rs := [4]) (by kernel_rfl) (by simp) ?_
            refine AllReadyH.cons rfl (fun K hK => ?_) AllReadyH.nil
            go_simp
            refine hK.out _ _ hHeld (fun hHeld => ?_)
            clear hK K
            refine wpAnyH_ready (rs := [26]) (by kernel_rfl) (by simp) ?_
            refine AllReadyH.cons rfl (fun K hK => ?_) AllReadyH.nil
            rw [if_pos (by rfl)]
            refine wp_append_at (.tmp 83) (.tmp 104) 27 rfl (g + 1) 3 ic (.int .i64 0) 1 8 Try.underlying27 Hic.out.1 Hic.out.2.1 Hic.out.2.2.1 Hic.out.2.2.2 rfl (by decide) (.slice am AS.length cm) (AS.map (Value.int .i64)).length (AS.map (Value.int .i64)) (by rfl) (by have h := World.ownsRow.drew (World.ownsRow.alloc RM.out (.cells #[.int .i64 m, .int .i64 m, .int .i64 m, .int .i64 m] 3)); rw [← Hob.out]; exact h) _ 4 4 [.int .i64 m, .int .i64 m, .int .i64 m, .int .i64 m] (by rfl) rfl (cells_newAt _ [.int .i64 m, .int .i64 m, .int .i64 m, .int .i64 m] _ _ (by simp)) ?_ ?_ ?_ ?_ ?_
            · intro u hu; simp at hu; subst hu; rfl
            · unfold maxLen; omega
            · omega
            · simp; omega
            intro v5 w5 h5 g5 d5
            rw [← Hob.out] at g5 d5
            obtain ⟨a5, p5, rfl⟩ := row_shape h5
            have H5 : Hid (w5.ownsRow (g + 1) 3 1 (.slice a5 ((AS.map (Value.int .i64)).length + 4) p5) ((AS.map (Value.int .i64)).length + 4) (AS.map (Value.int .i64) ++ [.int .i64 m, .int .i64 m, .int .i64 m, .int .i64 m])) := h5
            have X5 : Hid (Chg (fun b => (Value.slice am (AS.map (Value.int .i64)).length cm).ownBlock = some b) (w4.setCell ⟨g, 4, none⟩ (.slice a4 (AL.length + 4) p4)) w5) := (((Chg.refl _ _).alloc _).drew).trans (Chg.ofGrown g5) (fun _ _ e => e)
            have D5 : Hid ((Value.slice a5 ((AS.map (Value.int .i64)).length + 4) p5).ownBlock = (Value.slice am (AS.map (Value.int .i64)).length cm).ownBlock ∨ ∀ b, (Value.slice a5 ((AS.map (Value.int .i64)).length + 4) p5).ownBlock = some b → w4.heap.size ≤ b) := d5.imp id (fun e b hb => by rw [e] at hb; simp at hb; omega)
            have hmg : ¬ (Value.slice am (AS.map (Value.int .i64)).length cm).ownBlock = some g := fun e => by have := (BK3.out.ap.rk.lt g e).1; omega
            have r5 := X5.out.cell H56.out.1 hmg
            have r6 := X5.out.cell H56.out.2 hmg
            have f5 : ∀ o, w5.frozen? ⟨g, o, none⟩ = false := fun o => (X5.out.frozen (p := ⟨g, o, none⟩) (by simp; omega) hmg).trans ((World.frozen?_setCell _ _ _ _).trans (f4 o))
            refine hK.out _ _ r6 (fun hHeld => ?_)
            clear hK K h5 g5 d5
            try simp only [Act.put]
            try simp only [List.getElem_toArray]
            try simp only [List.getElem_cons_succ]
            try simp only [List.getElem_cons_zero]
            try simp only [List.setIfInBounds_toArray]
            try simp only [List.set_cons_succ]
            try simp only [List.set_cons_zero]
            refine wpAnyH_take (i := 27) (v := ?v8027) rfl (by kernel_rfl) (by kernel_rfl) (by kernel_rfl) (fun _ _ _ h => h) (Or.inl ⟨by rfl, ?y8027⟩) hHeld ?r8027
            case y8027 => ((intro W hSw; go_simp) <;> with_reducible rfl)
            try simp only [Act.put]
            try simp only [List.getElem_toArray]
            try simp only [List.getElem_cons_succ]
            try simp only [List.getElem_cons_zero]
            try simp only [List.setIfInBounds_toArray]
            try simp only [List.set_cons_succ]
            try simp only [List.set_cons_zero]
            refine wpAnyH_take (i := 28) (v := ?v8028) rfl (by kernel_rfl) (by kernel_rfl) (by kernel_rfl) (fun _ _ _ h => h) (Or.inl ⟨by rfl, ?y8028⟩) hHeld ?r8028
            case y8028 => ((intro W hSw; go_simp) <;> with_reducible rfl)
            try simp only [Act.put]
            try simp only [List.getElem_toArray]
            try simp only [List.getElem_cons_succ]
            try simp only [List.getElem_cons_zero]
            try simp only [List.setIfInBounds_toArray]
            try simp only [List.set_cons_succ]
            try simp only [List.set_cons_zero]
            refine wpAnyH_ready (rs := [29]) (by kernel_rfl) (by simp) ?_
            refine AllReadyH.cons rfl (fun K hK => ?_) AllReadyH.nil
            go_simp
            refine hK.out _ _ ((World.cell?_setCell_other _ ⟨g, 5, none⟩ ⟨g, 6, none⟩ _ (by simp)).trans r6) (fun hHeld => ?_)
            clear hK K hHeld
            refine wpAnyH_done (by kernel_rfl) ?_ _
            refine NoPanic.normal ?_
            go_wp2
            obtain ⟨z1, z2, z3⟩ := takenA HBk.out BK3.out HB9.out HG9.out HW9.out X3.out.size HV.out M30.out M31.out M32.out M33.out (by omega) D1.out D2.out D3.out H4.out X4.out D4.out H5.out X5.out D5.out
            simp only [List.length_map] at z1 z2
            refine bodyPost_end (v := .tuple #[]) (by simp [results, Try.results45, go_sem]) rfl ⟨rfl, roleOf wr ρ1 6 7 (.slice a4 (AL.length + 4) p4) (.slice a5 (AS.length + 4) p5) (.slice ao k cap) (.slice a1 (k + 1) p1) (.slice a2 (k + 2) p2) (.slice a3 (k + 3) p3), nv1, nk1, .slice a4 (AL.length + 4) p4, .slice a5 (AS.length + 4) p5, NL1, NS1, AL ++ [.slice ao k cap, .slice a1 (k + 1) p1, .slice a2 (k + 2) p2, .slice a3 (k + 3) p3], AS ++ [m, m, m, m], ?_, ?_, ?_, ?_, ?_, ?_⟩
            · rw [List.map_append]
              exact z1
            · exact Hlen.out
            · simp
            · intro b hb hne
              have e := Hrho.out b hb hne
              rw [z2 b (by have := Hch.out.size; omega) (by rw [e]; exact hne), e]
            · refine (((Hch.out.trans X3.out ?_).trans X4.out ?_).setCell ⟨g, 4, none⟩ (.inl ⟨Nat.le_refl _, HFg.out⟩) _ |>.trans X5.out ?_).setCell ⟨g, 5, none⟩ (.inl ⟨Nat.le_refl _, HFg.out⟩) _
              · exact fun b _ e => ⟨by have := (World.ownsRow.lt M30.out b e).1; omega, HFl.out b e⟩
              · exact fun b _ e => ⟨by have := (BK3.out.ap.rl.lt b e).1; omega, fun hF => by have := Hfar.out b hF; rw [BK3.out.ap.fl b e] at this; cases this⟩
              · exact fun b _ e => ⟨by have := (BK3.out.ap.rk.lt b e).1; omega, fun hF => by have := Hfar.out b hF; rw [BK3.out.ap.fm b e] at this; cases this⟩
            · intro b hF
              simp only [List.length_map] at z3
              exact z3 b (by have := Hch.out.size; have := (HF.out b hF).2.1; omega) (fun e => HFl.out b e hF) (Hfar.out b hF)

end Go.Proofs.Ytdjhhnolcafkiaa
