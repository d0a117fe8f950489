/- The book takes a list of numbers (all its lists at hand). -/
import Derived.Test.YtdjhhnolcafkiaaBookQ
namespace Go.Proofs.Ytdjhhnolcafkiaa
open Go.RowKit
namespace Pk

theorem rep_one (n : Nat) (x : Value) : rep n [x] = List.replicate n x := by
  unfold rep
  induction n with
  | zero => rfl
  | succ n ih => rw [List.replicate_succ, List.flatten_cons, ih, List.replicate_succ]; rfl
theorem Mk.mkN {W : World} {base n : Nat} {v : Value} {m : Int} (h : Mk W base v n m) : MkN W base 3 v n [.int .i64 m] := by
  unfold MkN
  rw [rep_one]
  exact h

theorem takenN {ρ : Nat → Nat} {w wr w3 w4 w5 : World} {g n : Nat} {tv tk nv nk av ak v v1 v2 v3 v4 v5 : Value} {TL TM NL NM AL AM : List Value} {nx m : Int}
    (_hB : BkN wr g ρ tv tk nv nk av ak TL TM NL NM AL AM nx) (hB3 : BkN w3 g ρ tv tk nv nk av ak TL TM NL NM AL AM nx) (hi : ∀ b, w.heap.size ≤ b → ρ b = 0) (hgw : g < w.heap.size) (hww : w.heap.size ≤ wr.heap.size) (hw3 : wr.heap.size ≤ w3.heap.size) (hv : ∀ b, v.ownBlock = some b → ρ b = 0)
    (C0 : Mk w3 (g + 1) v n m) (C1 : Mk w3 (g + 1) v1 (n + 1) m) (C2 : Mk w3 (g + 1) v2 (n + 2) m) (C3 : Mk w3 (g + 1) v3 (n + 3) m) (hn : n ≤ 9000)
    (D1 : v1.ownBlock = v.ownBlock ∨ ∀ b, v1.ownBlock = some b → wr.heap.size ≤ b) (D2 : v2.ownBlock = v.ownBlock ∨ ∀ b, v2.ownBlock = some b → wr.heap.size ≤ b) (D3 : v3.ownBlock = v.ownBlock ∨ ∀ b, v3.ownBlock = some b → wr.heap.size ≤ b)
    (H4 : w4.ownsRow (g + 1) 27 1 v4 (NL.length + 4) (NL ++ [v, v1, v2, v3])) (X4 : Chg (fun b => nv.ownBlock = some b) w3 w4) (D4 : v4.ownBlock = nv.ownBlock ∨ ∀ b, v4.ownBlock = some b → w3.heap.size ≤ b)
    (H5 : w5.ownsRow (g + 1) 3 1 v5 (NM.length + 4) (NM ++ [.int .i64 m, .int .i64 m, .int .i64 m, .int .i64 m])) (X5 : Chg (fun b => nk.ownBlock = some b) (w4.setCell ⟨g, 2, none⟩ v4) w5)
    (D5 : v5.ownBlock = nk.ownBlock ∨ ∀ b, v5.ownBlock = some b → w4.heap.size ≤ b) :
    BkN (w5.setCell ⟨g, 3, none⟩ v5) g (roleOf w ρ 4 5 v4 v5 v v1 v2 v3) tv tk v4 v5 av ak TL TM (NL ++ [v, v1, v2, v3]) (NM ++ [.int .i64 m, .int .i64 m, .int .i64 m, .int .i64 m]) AL AM nx ∧
      (∀ b, b < w.heap.size → ρ b ≠ 0 → roleOf w ρ 4 5 v4 v5 v v1 v2 v3 b = ρ b) ∧ (∀ b, b < w.heap.size → v.ownBlock ≠ some b → ρ b = 0 → roleOf w ρ 4 5 v4 v5 v v1 v2 v3 b = 0) := by
  have h1g := (hB3.rg g).2 rfl
  have hng : ¬ nv.ownBlock = some g := fun e => by have := (hB3.np.rl.lt g e).1; omega
  have hmg : ¬ nk.ownBlock = some g := fun e => by have := (hB3.np.rk.lt g e).1; omega
  have X1 : Chg (fun b => nv.ownBlock = some b ∨ ρ b = 1) w3 (w4.setCell ⟨g, 2, none⟩ v4) := (X4.mono (fun _ _ e => .inl e)).setCell ⟨g, 2, none⟩ (.inl (.inr h1g)) _
  have X2 : Chg (fun b => nk.ownBlock = some b ∨ ρ b = 1) (w4.setCell ⟨g, 2, none⟩ v4) (w5.setCell ⟨g, 3, none⟩ v5) := (X5.mono (fun _ _ e => .inl e)).setCell ⟨g, 3, none⟩ (.inl (.inr h1g)) _
  have H1 : (w4.setCell ⟨g, 2, none⟩ v4).ownsRow (g + 1) 27 1 v4 (NL.length + 4) (NL ++ [v, v1, v2, v3]) := ownsRow_setCell_below H4 (Nat.lt_succ_self g) _
  have H2 : (w5.setCell ⟨g, 3, none⟩ v5).ownsRow (g + 1) 3 1 v5 (NM.length + 4) (NM ++ [.int .i64 m, .int .i64 m, .int .i64 m, .int .i64 m]) := ownsRow_setCell_below H5 (Nat.lt_succ_self g) _
  have D2' : v5.ownBlock = nk.ownBlock ∨ ∀ b, v5.ownBlock = some b → (w4.setCell ⟨g, 2, none⟩ v4).heap.size ≤ b := D5.imp id (fun h b hb => by simpa using h b hb)
  have up : ∀ (u : Value), (u.ownBlock = v.ownBlock ∨ ∀ b, u.ownBlock = some b → wr.heap.size ≤ b) → (u.ownBlock = v.ownBlock ∨ ∀ b, u.ownBlock = some b → w.heap.size ≤ b) := fun u h => h.imp id (fun h b hb => Nat.le_trans hww (h b hb))
  obtain ⟨f1, f2, f3, f4, f5, f6, f7⟩ := role_facts (m := .int .i64 m) hB3.np (Nat.le_trans hww hw3) hi (by decide) (by decide) H1 X1.size D4 H2 X2.size D2' C0.mkN C1.mkN C2.mkN C3.mkN hv (up v1 D1) (up v2 D2) (up v3 D3) hB3.rg hgw
  have q : ∀ r s, r ≠ 1 → r ≠ s → ∀ (x : Value), (∀ b, x.ownBlock = some b → ρ b = s) → ∀ b, (x.ownBlock = some b ∨ ρ b = 1) → ρ b ≠ r := fun r s h1 h2 x hx b hb e => by
    rcases hb with hb | hb
    · exact h2 (e.symm.trans (hx b hb))
    · exact h1 (e.symm.trans hb)
  have q1 : ∀ r, r ≠ 1 → r ≠ 4 → ∀ b, (nv.ownBlock = some b ∨ ρ b = 1) → ρ b ≠ r := fun r a b => q r 4 a b nv hB3.np.fl
  have q2 : ∀ r, r ≠ 1 → r ≠ 5 → ∀ b, (nk.ownBlock = some b ∨ ρ b = 1) → ρ b ≠ r := fun r a b => q r 5 a b nk hB3.np.fm
  have hsz : w3.heap.size ≤ (w5.setCell ⟨g, 3, none⟩ v5).heap.size := Nat.le_trans X1.size X2.size
  have keep : ∀ b, b < (w5.setCell ⟨g, 3, none⟩ v5).heap.size → ρ b ≠ 0 → roleOf w ρ 4 5 v4 v5 v v1 v2 v3 b = ρ b := fun b _ hne => f2 b (by
    rcases Nat.lt_or_ge b w3.heap.size with h | h
    · exact h
    · exact absurd (hB3.hi b h) hne) hne
  have own : ∀ o u, o ≠ 2 → o ≠ 3 → w3.cell? ⟨g, o, none⟩ = some u → (w5.setCell ⟨g, 3, none⟩ v5).cell? ⟨g, o, none⟩ = some u := fun o u h2 h3 h4 => by
    rw [World.cell?_setCell_other _ ⟨g, 3, none⟩ ⟨g, o, none⟩ _ (fun e => h3 (by injection e with _ e2 _; exact e2.symm))]
    refine X5.cell ?_ hmg
    rw [World.cell?_setCell_other _ ⟨g, 2, none⟩ ⟨g, o, none⟩ _ (fun e => h2 (by injection e with _ e2 _; exact e2.symm))]
    exact X4.cell h4 hng
  have c3 : (w4.setCell ⟨g, 2, none⟩ v4).cell? ⟨g, 3, none⟩ = some nk := (World.cell?_setCell_other _ ⟨g, 2, none⟩ ⟨g, 3, none⟩ _ (by simp)).trans (X4.cell hB3.c3 hng)
  refine ⟨⟨own 0 _ (by omega) (by omega) hB3.c0, own 1 _ (by omega) (by omega) hB3.c1, ?_, World.cell?_setCell_same _ _ _ (X5.cell c3 hmg), own 4 _ (by omega) (by omega) hB3.c4, own 5 _ (by omega) (by omega) hB3.c5, own 6 _ (by omega) (by omega) hB3.c6, ?_, f5, f6, ?_, ?_, ?_⟩, ?_, f7⟩
  · rw [World.cell?_setCell_other _ ⟨g, 3, none⟩ ⟨g, 2, none⟩ _ (by simp)]
    exact X5.cell (World.cell?_setCell_same _ _ _ (X4.cell hB3.c2 hng)) hmg
  · intro o
    rw [World.frozen?_setCell, X5.frozen (p := ⟨g, o, none⟩) (by have := hB3.lt; have := X4.size; simp; omega) hmg, World.frozen?_setCell, X4.frozen (p := ⟨g, o, none⟩) hB3.lt hng]
    exact hB3.fz o
  · exact ((hB3.tp.chg X1 (q1 2 (by decide) (by decide)) (q1 3 (by decide) (by decide)) (q1 8 (by decide) (by decide))).chg X2 (q2 2 (by decide) (by decide)) (q2 3 (by decide) (by decide)) (q2 8 (by decide) (by decide))).roles keep (by decide) (by decide)
  · exact hB3.np.taken (by decide) (by decide) (by decide) (by decide) (by decide) H1 X1 D4 H2 X2 D2' (by decide) (by decide) (fun b hb => by rw [(hB3.rg b).1 hb]; exact hB3.lt) C0.mkN C1.mkN C2.mkN C3.mkN (by omega) f1 f2 f3 f4
  · exact ((hB3.ap.chg X1 (q1 6 (by decide) (by decide)) (q1 7 (by decide) (by decide)) (q1 8 (by decide) (by decide))).chg X2 (q2 6 (by decide) (by decide)) (q2 7 (by decide) (by decide)) (q2 8 (by decide) (by decide))).roles keep (by decide) (by decide)
  · exact fun b hb hne => f2 b (by omega) hne

theorem Mk.ofN {W : World} {base n : Nat} {v : Value} {m : Int} (h : MkN W base 3 v n [.int .i64 m]) : Mk W base v n m := by
  unfold MkN at h
  rw [rep_one] at h
  exact h

theorem wpList_append_marksN {ops : Array Oper} {rest : List Oper} {o : Oper} {a : Act} {w : World} {Q : Exit → Act → World → Prop} (hgd : o.guard = none) (s x : Operand)
    (ho : o.op = .call { callee := .builtin .append, args := #[s, x], argTypes := #[27, 27] })
    (base : Nat) (i : TypeInfo) (hi : Try.prog.info? 3 = some i ∧ i.zero = some (.int .i64 0) ∧ i.size = 1 ∧ i.bytes = 8)
    (v : Value) (n j : Nat) (m : Int) (hs : a.eval s = v) (hown : Mk w base v n m) (ad : Addr) (c : Nat) (hx : a.eval x = .slice (some ad) j c) (hnews : ∀ k u, (List.replicate j (Value.int .i64 m))[k]? = some u → w.cell? (ad.add k) = some u)
    (hn : n + j ≤ 10000) (hbase : base ≤ w.heap.size)
    (h : ∀ v' w', Mk w' base v' (n + j) m → (∀ u k, k ≤ n + j → Mk w base u k m → Mk w' base u k m) → w.grownBy w' v.ownBlock → (v'.ownBlock = v.ownBlock ∨ v'.ownBlock = some w.heap.size) → wpList Try.prog ops Q rest (a.put o.dst v') w') :
    wpList Try.prog ops Q (o :: rest) a w := by
  refine wpList_plain hgd fun K hK => ?_
  obtain ⟨v', w', hr, h2, h3, h4, h5⟩ := append_like w base 27 3 o.type Try.underlying27 i (.int .i64 0) 8 hi.1 hi.2.1 [.int .i64 m] hi.2.2.1 hi.2.2.2 (by decide) rfl Nat.one_pos (by intro u hu; simp at hu; subst hu; rfl) v n j hown.mkN ad c (by rw [rep_one]; exact hnews) hn hbase
  unfold Oper.wp execOp
  simp only [ho, resolve, invoke, builtin, Sem.run_bind, Sem.run_pure, Result.andThen_ok, List.map_toArray, List.map_cons, List.map_nil, hs, hx, hr]
  exact hK _ _ (h v' w' (Mk.ofN h2) (fun u k hk hu => Mk.ofN (h3 u k hk hu.mkN)) h4 h5)

end Pk
open Pk

set_option maxRecDepth 20000 in
set_option maxHeartbeats 4000000 in
theorem ownsN_any (g : Nat) (ρ : Nat → Nat) (tv tk nv nk av ak : Value) (TL TM NL NM AL AM : List Value) (nx : Int) (v : Value) (l : List Int) (w : World) (hB : BkN w g ρ tv tk nv nk av ak TL TM NL NM AL AM nx) (hown : OwnInts w (g + 1) v l) (hf : ∀ b, v.ownBlock = some b → ρ b = 0)
    (hl : l.length ≤ 6400) (hN : NL.length ≤ 1000000000) (hx0 : 0 ≤ nx) (hx1 : nx ≤ 1000000000) :
    Calls Try.prog 40 #[.pointer (some ⟨g, 0, none⟩), v] w fun e w' => e = .returned (.tuple #[]) ∧ ∃ ρ' nv' nk' NL', NL'.length = 4 ∧
      BkN w' g ρ' tv tk nv' nk' av ak TL TM (NL ++ NL') (NM ++ [.int .i64 (-(nx + 1)), .int .i64 (-(nx + 1)), .int .i64 (-(nx + 1)), .int .i64 (-(nx + 1))]) AL AM (nx + 1) ∧ (∀ b, b < w.heap.size → ρ b ≠ 0 → ρ' b = ρ b) ∧ (∀ b, b < w.heap.size → v.ownBlock ≠ some b → ρ b = 0 → ρ' b = 0) ∧
      Chg (fun b => b = g ∨ nv.ownBlock = some b ∨ nk.ownBlock = some b ∨ v.ownBlock = some b) w w' := by
  have hinfo : (Try.prog.info? 3).map (fun i => (i.zero, i.size, i.bytes)) = some (some (.int .i64 0), 1, 8) := by kernel_rfl
  obtain ⟨i0, hi, hz0, hz1, hz2⟩ := info_parts hinfo
  have Hi : Hid (Try.prog.info? 3 = some i0 ∧ i0.zero = some (.int .i64 0) ∧ i0.size = 1 ∧ i0.bytes = 8) := ⟨hi, hz0, hz1, hz2⟩
  have hinfo2 : (Try.prog.info? 27).map (fun i => (i.zero, i.size, i.bytes)) = some (some (.slice none 0 0), 1, 24) := by kernel_rfl
  obtain ⟨i2, hj, hy0, hy1, hy2⟩ := info_parts hinfo2
  have Hj : Hid (Try.prog.info? 27 = some i2 ∧ i2.zero = some (.slice none 0 0) ∧ i2.size = 1 ∧ i2.bytes = 24) := ⟨hj, hy0, hy1, hy2⟩
  clear hi hz0 hz1 hz2 hinfo hj hy0 hy1 hy2 hinfo2
  obtain ⟨n, hnl⟩ : ∃ n, l.length = n := ⟨_, rfl⟩
  obtain ⟨ao, cap, hv⟩ := hown.shape
  have hrow0 : w.ownsRow (g + 1) 3 1 v l.length (l.map (Value.int .i64)) := hown
  rw [hnl] at hv hl hrow0
  subst hv
  have Hrow0 : Hid (w.ownsRow (g + 1) 3 1 (.slice ao n cap) n (l.map (Value.int .i64))) := hrow0
  clear hrow0 hnl hown
  obtain ⟨an, cn, rfl⟩ := row_shape hB.np.rl
  obtain ⟨am, cm, rfl⟩ := row_shape hB.np.rk
  have HB : Hid (BkN w g ρ tv tk (.slice an NL.length cn) (.slice am NM.length cm) av ak TL TM NL NM AL AM nx) := hB
  have Hhi : Hid (∀ b, w.heap.size ≤ b → ρ b = 0) := hB.hi
  have Hgw : Hid (g < w.heap.size) := hB.lt
  have c6 := hB.c6
  have fz := hB.fz
  obtain ⟨m, hm⟩ : ∃ m, m = -(nx + 1) := ⟨_, rfl⟩
  have hm' : -(nx + 1) = m := hm.symm
  have Hm : Hid (m = -(nx + 1)) := hm
  clear hm hB
  go_enter Try.func40, Try.ntmps40
  go_wp2
  go_loopw [5] (fun i wr => ∃ (k : Nat) (ys : List Value), k ≤ n ∧ i = .int .i64 k ∧ wr.ownsRow (g + 1) 3 1 (.slice ao n cap) n ys ∧ (∀ j, j < k → ys[j]? = some (.int .i64 m)) ∧ BkN wr g ρ tv tk (.slice an NL.length cn) (.slice am NM.length cm) av ak TL TM NL NM AL AM (nx + 1) ∧ Chg (fun b => b = g ∨ (Value.slice an NL.length cn).ownBlock = some b ∨ (Value.slice am NM.length cm).ownBlock = some b ∨ (Value.slice ao n cap).ownBlock = some b) w wr) (fun i _ => n - (intOf i).toNat)
  case atStart => exact ⟨0, l.map (Value.int .i64), Nat.zero_le _, rfl, ownsRow_setCell_below Hrow0.out (Nat.lt_succ_self g) _, fun j hj => by omega, HB.out.set6 _, (Chg.refl _ _).setCell _ (.inl (.inl rfl)) _⟩
  case round =>
    obtain ⟨k, ys, hk, rfl, hrow, hys, hBk, hchg⟩ := hrel
    by_cases hlt : k < n
    · obtain ⟨gl, hao⟩ : ∃ gl, ao = some ⟨gl, 0, none⟩ := by
        rcases hrow.2 with ⟨_, h0⟩ | ⟨gl, _, _, e, _⟩
        · omega
        · simp only [Value.slice.injEq] at e
          exact ⟨gl, e.1⟩
      subst hao
      have hyl : ys.length = n := by have := hrow.1; omega
      obtain ⟨y, hy⟩ : ∃ y, ys[k]? = some y := ⟨_, List.getElem?_eq_getElem (by omega)⟩
      have hcell : wr.cell? ⟨gl, k, none⟩ = some y := (hrow.cellAt k (by omega)).trans hy
      have hfr : ∀ j, wr.frozen? ⟨gl, j, none⟩ = false := fun j => hrow.frozenAt j
      have hlt' : (k : Int) < n := by omega
      have Hst : Hid (_ ∧ _) := hrow.stored k (.int .i64 m)
      have Hys : Hid (∀ j, j < k → ys[j]? = some (.int .i64 m)) := hys
      have HBk : Hid (BkN wr g ρ tv tk (.slice an NL.length cn) (.slice am NM.length cm) av ak TL TM NL NM AL AM (nx + 1)) := hBk
      have hgl : gl ≠ g := by have := (hrow.lt gl rfl).1; omega
      have Hgl : Hid (ρ gl = 0) := hf gl rfl
      clear hrow hys hBk hf c6 fz
      go_wp2
      go_roundw
      case rel =>
        refine ⟨k + 1, ys.set k (.int .i64 m), by omega, by go_num, Hst.out.1, ?_, HBk.out.chg (T := fun b => b = gl) ⟨rfl, rfl, rfl, by simp, fun x _ hn => heap_setCell_other _ _ x _ (fun e => hn e)⟩ (fun b hb => by rw [hb]; exact Hgl.out), hchg.setCell ⟨gl, k, none⟩ (.inl (.inr (.inr (.inr rfl)))) _⟩
        intro j hj
        by_cases hjk : j = k
        · subst hjk
          rw [List.getElem?_set_self (by omega)]
        · rw [List.getElem?_set_ne (by omega)]
          exact Hys.out j (by omega)
      case measure => simp [intOf]; omega
    · have hkl : k = n := by omega
      have hM : Mk wr (g + 1) (.slice ao n cap) n m := by
        have e : ys = List.replicate n (.int .i64 m) := by
          apply List.ext_getElem?
          intro j
          by_cases hj : j < n
          · rw [hys j (by omega)]; simp [hj]
          · rw [List.getElem?_eq_none (by have := hrow.1; omega), List.getElem?_eq_none (by simp; omega)]
        rw [e] at hrow
        exact hrow
      have HM : Hid (Mk wr (g + 1) (.slice ao n cap) n m) := hM
      have HBk : Hid (BkN wr g ρ tv tk (.slice an NL.length cn) (.slice am NM.length cm) av ak TL TM NL NM AL AM (nx + 1)) := hBk
      have Hchg : Hid (Chg (fun b => b = g ∨ (Value.slice an NL.length cn).ownBlock = some b ∨ (Value.slice am NM.length cm).ownBlock = some b ∨ (Value.slice ao n cap).ownBlock = some b) w wr) := hchg
      have hlt' : ¬ (k : Int) < n := by omega
      have hglt := hBk.lt
      clear hM hBk hchg hrow hys c6 fz
      have HV : Hid (∀ b, (Value.slice ao n cap).ownBlock = some b → ρ b = 0) := hf
      clear hf Hrow0 hlt HB
      go_wp2_with (at_builtin; (
        refine wpList_append_marksN rfl (.tmp 31) (.tmp 33) rfl (g + 1) i0 Hi.out (.slice ao n cap) n 1 m rfl (World.ownsRow.alloc HM.out _) _ 1 rfl (cells_new _ [.int .i64 m] _) (by omega) (by simp; omega) ?_
        intro v1 w1 h1 k1 g1 b1
        refine stop_here ?_))
      obtain ⟨a1, p1, rfl⟩ := h1.shape
      have A1 : Hid (Mk w1 (g + 1) (.slice a1 (n + 1) p1) (n + 1) m) := h1
      have A0 : Hid (Mk w1 (g + 1) (.slice ao n cap) n m) := k1 _ _ (by omega) (World.ownsRow.alloc HM.out _)
      have X1 : Hid (Chg (fun b => (Value.slice ao n cap).ownBlock = some b) wr w1) := ((Chg.refl _ _).alloc _).trans (Chg.ofGrown g1) (fun _ _ e => e)
      have D1 : Hid ((Value.slice a1 (n + 1) p1).ownBlock = (Value.slice ao n cap).ownBlock ∨ ∀ b, (Value.slice a1 (n + 1) p1).ownBlock = some b → wr.heap.size ≤ b) := b1.imp id (fun e b hb => by rw [e] at hb; simp at hb; omega)
      have s1 : g + 1 ≤ w1.heap.size := Nat.le_trans (Nat.succ_le_of_lt hglt) X1.out.size
      clear h1 k1 g1 b1
      refine hid_in ?_
      go_wp2_with (at_builtin; (
        refine wpList_append_marksN rfl (.tmp 35) (.tmp 38) rfl (g + 1) i0 Hi.out (.slice ao n cap) n 2 m rfl (World.ownsRow.alloc A0.out _) _ 2 rfl (cells_new _ [.int .i64 m, .int .i64 m] _) (by omega) (by simp; omega) ?_
        intro v2 w2 h2 k2 g2 b2
        refine stop_here ?_))
      obtain ⟨a2, p2, rfl⟩ := h2.shape
      have B2 : Hid (Mk w2 (g + 1) (.slice a2 (n + 2) p2) (n + 2) m) := h2
      have B1 : Hid (Mk w2 (g + 1) (.slice a1 (n + 1) p1) (n + 1) m) := k2 _ _ (by omega) (World.ownsRow.alloc A1.out _)
      have B0 : Hid (Mk w2 (g + 1) (.slice ao n cap) n m) := k2 _ _ (by omega) (World.ownsRow.alloc A0.out _)
      have X2 : Hid (Chg (fun b => (Value.slice ao n cap).ownBlock = some b) wr w2) := (X1.out.alloc _).trans (Chg.ofGrown g2) (fun _ _ e => e)
      have D2 : Hid ((Value.slice a2 (n + 2) p2).ownBlock = (Value.slice ao n cap).ownBlock ∨ ∀ b, (Value.slice a2 (n + 2) p2).ownBlock = some b → wr.heap.size ≤ b) := b2.imp id (fun e b hb => by rw [e] at hb; have := X1.out.size; simp at hb; omega)
      have s2 : g + 1 ≤ w2.heap.size := Nat.le_trans (Nat.succ_le_of_lt hglt) X2.out.size
      clear h2 k2 g2 b2 A0 A1 X1
      refine hid_in ?_
      go_wp2_with (at_builtin; (
        refine wpList_append_marksN rfl (.tmp 40) (.tmp 44) rfl (g + 1) i0 Hi.out (.slice ao n cap) n 3 m rfl (World.ownsRow.alloc B0.out _) _ 3 rfl (cells_new _ [.int .i64 m, .int .i64 m, .int .i64 m] _) (by omega) (by simp; omega) ?_
        intro v3 w3 h3 k3 g3 b3
        refine stop_here ?_))
      obtain ⟨a3, p3, rfl⟩ := h3.shape
      have C3 : Hid (Mk w3 (g + 1) (.slice a3 (n + 3) p3) (n + 3) m) := h3
      have C2 : Hid (Mk w3 (g + 1) (.slice a2 (n + 2) p2) (n + 2) m) := k3 _ _ (by omega) (World.ownsRow.alloc B2.out _)
      have C1 : Hid (Mk w3 (g + 1) (.slice a1 (n + 1) p1) (n + 1) m) := k3 _ _ (by omega) (World.ownsRow.alloc B1.out _)
      have C0 : Hid (Mk w3 (g + 1) (.slice ao n cap) n m) := k3 _ _ (by omega) (World.ownsRow.alloc B0.out _)
      have X3 : Hid (Chg (fun b => (Value.slice ao n cap).ownBlock = some b) wr w3) := (X2.out.alloc _).trans (Chg.ofGrown g3) (fun _ _ e => e)
      have D3 : Hid ((Value.slice a3 (n + 3) p3).ownBlock = (Value.slice ao n cap).ownBlock ∨ ∀ b, (Value.slice a3 (n + 3) p3).ownBlock = some b → wr.heap.size ≤ b) := b3.imp id (fun e b hb => by rw [e] at hb; have := X2.out.size; simp at hb; omega)
      have s3 : g + 1 ≤ w3.heap.size := Nat.le_trans (Nat.succ_le_of_lt hglt) X3.out.size
      have BK3 : Hid (BkN w3 g ρ tv tk (.slice an NL.length cn) (.slice am NM.length cm) av ak TL TM NL NM AL AM (nx + 1)) := HBk.out.chg X3.out HV.out
      have c2 := BK3.out.c2
      clear h3 k3 g3 b3 B0 B1 B2 X2
      refine hid_in ?_
      go_wp2_with (at_builtin; (
        refine wpList_append_own_at _ rfl (.tmp 50) (.tmp 55) 26 rfl (g + 1) 27 i2 (.slice none 0 0) 1 24 Try.underlying26 Hj.out.1 Hj.out.2.1 Hj.out.2.2.1 Hj.out.2.2.2 rfl (by decide) (.slice an NL.length cn) NL.length NL rfl (World.ownsRow.alloc BK3.out.np.rl _) _ 4 4 [.slice ao n cap, .slice a1 (n + 1) p1, .slice a2 (n + 2) p2, .slice a3 (n + 3) p3] rfl rfl (cells_new _ [.slice ao n cap, .slice a1 (n + 1) p1, .slice a2 (n + 2) p2, .slice a3 (n + 3) p3] _) ?_ ?_ ?_ ?_ ?_
        · intro u hu
          simp only [List.mem_cons, List.not_mem_nil, or_false] at hu
          rcases hu with rfl | rfl | rfl | rfl <;> rfl
        · unfold maxLen; omega
        · omega
        · simp; omega
        intro v4 w4 h4 g4 _ b4
        refine stop_here ?_))
      obtain ⟨a4, p4, rfl⟩ := row_shape h4
      have H4 : Hid (w4.ownsRow (g + 1) 27 1 (.slice a4 (NL.length + 4) p4) (NL.length + 4) (NL ++ [.slice ao n cap, .slice a1 (n + 1) p1, .slice a2 (n + 2) p2, .slice a3 (n + 3) p3])) := h4
      have X4 : Hid (Chg (fun b => (Value.slice an NL.length cn).ownBlock = some b) w3 w4) := ((Chg.refl _ _).alloc _).trans (Chg.ofGrown g4) (fun _ _ e => e)
      have D4 : Hid ((Value.slice a4 (NL.length + 4) p4).ownBlock = (Value.slice an NL.length cn).ownBlock ∨ ∀ b, (Value.slice a4 (NL.length + 4) p4).ownBlock = some b → w3.heap.size ≤ b) := b4.imp id (fun e b hb => by rw [e] at hb; simp at hb; omega)
      have hng : ¬ (Value.slice an NL.length cn).ownBlock = some g := fun e => by have := (BK3.out.np.rl.lt g e).1; omega
      have d2 := X4.out.cell BK3.out.c2 hng
      have d3 := X4.out.cell BK3.out.c3 hng
      have f4 : ∀ o, w4.frozen? ⟨g, o, none⟩ = false := fun o => (X4.out.frozen (p := ⟨g, o, none⟩) (show g < w3.heap.size by omega) hng).trans (BK3.out.fz o)
      have s4 : g + 1 ≤ w4.heap.size := Nat.le_trans s3 X4.out.size
      have RM : Hid ((w4.setCell ⟨g, 2, none⟩ (.slice a4 (NL.length + 4) p4)).ownsRow (g + 1) 3 1 (.slice am NM.length cm) NM.length NM) := ownsRow_setCell_below (X4.out.row BK3.out.np.rk (fun x hx e => by have a := BK3.out.np.fm x hx; have b := BK3.out.np.fl x e; omega)) (Nat.lt_succ_self g) _
      have hML : NM.length ≤ 1000000000 := by rw [← BK3.out.np.len]; exact hN
      clear h4 g4 b4 hng c2
      refine hid_in ?_
      go_wp2_with (at_builtin; (
        refine wpList_append_own_at _ rfl (.tmp 63) (.tmp 68) 27 rfl (g + 1) 3 i0 (.int .i64 0) 1 8 Try.underlying27 Hi.out.1 Hi.out.2.1 Hi.out.2.2.1 Hi.out.2.2.2 rfl (by decide) (.slice am NM.length cm) NM.length NM rfl (World.ownsRow.alloc RM.out _) _ 4 4 [.int .i64 m, .int .i64 m, .int .i64 m, .int .i64 m] rfl rfl (cells_newAt _ [.int .i64 m, .int .i64 m, .int .i64 m, .int .i64 m] _ _ (by simp)) ?_ ?_ ?_ ?_ ?_
        · intro u hu; simp at hu; subst hu; rfl
        · unfold maxLen; omega
        · omega
        · simp; omega
        intro v5 w5 h5 g5 _ b5
        refine stop_here ?_))
      obtain ⟨a5, p5, rfl⟩ := row_shape h5
      have H5 : Hid (w5.ownsRow (g + 1) 3 1 (.slice a5 (NM.length + 4) p5) (NM.length + 4) (NM ++ [.int .i64 m, .int .i64 m, .int .i64 m, .int .i64 m])) := h5
      have X5 : Hid (Chg (fun b => (Value.slice am NM.length cm).ownBlock = some b) (w4.setCell ⟨g, 2, none⟩ (.slice a4 (NL.length + 4) p4)) w5) := ((Chg.refl _ _).alloc _).trans (Chg.ofGrown g5) (fun _ _ e => e)
      have D5 : Hid ((Value.slice a5 (NM.length + 4) p5).ownBlock = (Value.slice am NM.length cm).ownBlock ∨ ∀ b, (Value.slice a5 (NM.length + 4) p5).ownBlock = some b → w4.heap.size ≤ b) := b5.imp id (fun e b hb => by rw [e] at hb; simp at hb; omega)
      have hmg : ¬ (Value.slice am NM.length cm).ownBlock = some g := fun e => by have := (BK3.out.np.rk.lt g e).1; omega
      have e3 := X5.out.cell (p := ⟨g, 3, none⟩) ((World.cell?_setCell_other _ ⟨g, 2, none⟩ ⟨g, 3, none⟩ _ (by simp)).trans d3) hmg
      have f5 : ∀ o, w5.frozen? ⟨g, o, none⟩ = false := fun o => (X5.out.frozen (p := ⟨g, o, none⟩) (by simp; omega) hmg).trans ((World.frozen?_setCell _ _ _ _).trans (f4 o))
      clear h5 g5 b5 hmg
      refine hid_in ?_
      go_wp2
      obtain ⟨z1, z2, z3⟩ := takenN HBk.out BK3.out Hhi.out Hgw.out Hchg.out.size X3.out.size HV.out C0.out C1.out C2.out C3.out (by omega) D1.out D2.out D3.out H4.out X4.out D4.out H5.out X5.out D5.out
      refine bodyPost_end (v := .tuple #[]) (by simp [results, Try.results40, go_sem]) rfl ⟨rfl, _, .slice a4 (NL.length + 4) p4, .slice a5 (NM.length + 4) p5, [.slice ao n cap, .slice a1 (n + 1) p1, .slice a2 (n + 2) p2, .slice a3 (n + 3) p3], rfl, ?_, z2, z3, ?_⟩
      · rw [← Hm.out]
        exact z1
      · refine (((Hchg.out.trans X3.out ?_).trans X4.out ?_).setCell ⟨g, 2, none⟩ (.inl (.inl rfl)) _ |>.trans X5.out ?_).setCell ⟨g, 3, none⟩ (.inl (.inl rfl)) _
        · exact fun _ _ e => .inr (.inr (.inr e))
        · exact fun _ _ e => .inr (.inl e)
        · exact fun _ _ e => .inr (.inr (.inl e))

end Go.Proofs.Ytdjhhnolcafkiaa
