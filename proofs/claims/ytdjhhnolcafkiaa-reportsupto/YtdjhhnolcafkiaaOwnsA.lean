/- The book takes a list of askings: plain facts, and the law on append. -/
import Derived.Test.YtdjhhnolcafkiaaOwnsN
namespace Go.Proofs.Ytdjhhnolcafkiaa
open Go.RowKit
namespace Pk

theorem takenA {ρ : Nat → Nat} {w wr w3 w4 w5 : World} {g n : Nat} {tv tk nv nk av ak v v1 v2 v3 v4 v5 : Value} {TL TM NL NM AL AM : List Value} {nx m : Int}
    (_hB : BkN wr g ρ tv tk nv nk av ak TL TM NL NM AL AM nx) (hB3 : BkN w3 g ρ tv tk nv nk av ak TL TM NL NM AL AM nx) (hi : ∀ b, w.heap.size ≤ b → ρ b = 0) (hgw : g < w.heap.size) (hww : w.heap.size ≤ wr.heap.size) (hw3 : wr.heap.size ≤ w3.heap.size) (hv : ∀ b, v.ownBlock = some b → ρ b = 0)
    (C0 : MkN w3 (g + 1) 40 v n [.int .i64 m, .int .i64 m, .slice none 0 0]) (C1 : MkN w3 (g + 1) 40 v1 (n + 1) [.int .i64 m, .int .i64 m, .slice none 0 0]) (C2 : MkN w3 (g + 1) 40 v2 (n + 2) [.int .i64 m, .int .i64 m, .slice none 0 0]) (C3 : MkN w3 (g + 1) 40 v3 (n + 3) [.int .i64 m, .int .i64 m, .slice none 0 0]) (hn : n ≤ 9000)
    (D1 : v1.ownBlock = v.ownBlock ∨ ∀ b, v1.ownBlock = some b → wr.heap.size ≤ b) (D2 : v2.ownBlock = v.ownBlock ∨ ∀ b, v2.ownBlock = some b → wr.heap.size ≤ b) (D3 : v3.ownBlock = v.ownBlock ∨ ∀ b, v3.ownBlock = some b → wr.heap.size ≤ b)
    (H4 : w4.ownsRow (g + 1) 37 1 v4 (AL.length + 4) (AL ++ [v, v1, v2, v3])) (X4 : Chg (fun b => av.ownBlock = some b) w3 w4) (D4 : v4.ownBlock = av.ownBlock ∨ ∀ b, v4.ownBlock = some b → w3.heap.size ≤ b)
    (H5 : w5.ownsRow (g + 1) 3 1 v5 (AM.length + 4) (AM ++ [.int .i64 m, .int .i64 m, .int .i64 m, .int .i64 m])) (X5 : Chg (fun b => ak.ownBlock = some b) (w4.setCell ⟨g, 4, none⟩ v4) w5)
    (D5 : v5.ownBlock = ak.ownBlock ∨ ∀ b, v5.ownBlock = some b → w4.heap.size ≤ b) :
    BkN (w5.setCell ⟨g, 5, none⟩ v5) g (roleOf w ρ 6 7 v4 v5 v v1 v2 v3) tv tk nv nk v4 v5 TL TM NL NM (AL ++ [v, v1, v2, v3]) (AM ++ [.int .i64 m, .int .i64 m, .int .i64 m, .int .i64 m]) nx ∧
      (∀ b, b < w.heap.size → ρ b ≠ 0 → roleOf w ρ 6 7 v4 v5 v v1 v2 v3 b = ρ b) ∧ (∀ b, b < w.heap.size → v.ownBlock ≠ some b → ρ b = 0 → roleOf w ρ 6 7 v4 v5 v v1 v2 v3 b = 0) := by
  have h1g := (hB3.rg g).2 rfl
  have hng : ¬ av.ownBlock = some g := fun e => by have := (hB3.ap.rl.lt g e).1; omega
  have hmg : ¬ ak.ownBlock = some g := fun e => by have := (hB3.ap.rk.lt g e).1; omega
  have X1 : Chg (fun b => av.ownBlock = some b ∨ ρ b = 1) w3 (w4.setCell ⟨g, 4, none⟩ v4) := (X4.mono (fun _ _ e => .inl e)).setCell ⟨g, 4, none⟩ (.inl (.inr h1g)) _
  have X2 : Chg (fun b => ak.ownBlock = some b ∨ ρ b = 1) (w4.setCell ⟨g, 4, none⟩ v4) (w5.setCell ⟨g, 5, none⟩ v5) := (X5.mono (fun _ _ e => .inl e)).setCell ⟨g, 5, none⟩ (.inl (.inr h1g)) _
  have H1 : (w4.setCell ⟨g, 4, none⟩ v4).ownsRow (g + 1) 37 1 v4 (AL.length + 4) (AL ++ [v, v1, v2, v3]) := ownsRow_setCell_below H4 (Nat.lt_succ_self g) _
  have H2 : (w5.setCell ⟨g, 5, none⟩ v5).ownsRow (g + 1) 3 1 v5 (AM.length + 4) (AM ++ [.int .i64 m, .int .i64 m, .int .i64 m, .int .i64 m]) := ownsRow_setCell_below H5 (Nat.lt_succ_self g) _
  have D2' : v5.ownBlock = ak.ownBlock ∨ ∀ b, v5.ownBlock = some b → (w4.setCell ⟨g, 4, none⟩ v4).heap.size ≤ b := D5.imp id (fun h b hb => by simpa using h b hb)
  have up : ∀ (u : Value), (u.ownBlock = v.ownBlock ∨ ∀ b, u.ownBlock = some b → wr.heap.size ≤ b) → (u.ownBlock = v.ownBlock ∨ ∀ b, u.ownBlock = some b → w.heap.size ≤ b) := fun u h => h.imp id (fun h b hb => Nat.le_trans hww (h b hb))
  obtain ⟨f1, f2, f3, f4, f5, f6, f7⟩ := role_facts (m := .int .i64 m) hB3.ap (Nat.le_trans hww hw3) hi (by decide) (by decide) H1 X1.size D4 H2 X2.size D2' C0 C1 C2 C3 hv (up v1 D1) (up v2 D2) (up v3 D3) hB3.rg hgw
  have q : ∀ r s, r ≠ 1 → r ≠ s → ∀ (x : Value), (∀ b, x.ownBlock = some b → ρ b = s) → ∀ b, (x.ownBlock = some b ∨ ρ b = 1) → ρ b ≠ r := fun r s h1 h2 x hx b hb e => by
    rcases hb with hb | hb
    · exact h2 (e.symm.trans (hx b hb))
    · exact h1 (e.symm.trans hb)
  have q1 : ∀ r, r ≠ 1 → r ≠ 6 → ∀ b, (av.ownBlock = some b ∨ ρ b = 1) → ρ b ≠ r := fun r a b => q r 6 a b av hB3.ap.fl
  have q2 : ∀ r, r ≠ 1 → r ≠ 7 → ∀ b, (ak.ownBlock = some b ∨ ρ b = 1) → ρ b ≠ r := fun r a b => q r 7 a b ak hB3.ap.fm
  have hsz : w3.heap.size ≤ (w5.setCell ⟨g, 5, none⟩ v5).heap.size := Nat.le_trans X1.size X2.size
  have keep : ∀ b, b < (w5.setCell ⟨g, 5, none⟩ v5).heap.size → ρ b ≠ 0 → roleOf w ρ 6 7 v4 v5 v v1 v2 v3 b = ρ b := fun b _ hne => f2 b (by
    rcases Nat.lt_or_ge b w3.heap.size with h | h
    · exact h
    · exact absurd (hB3.hi b h) hne) hne
  have own : ∀ o u, o ≠ 4 → o ≠ 5 → w3.cell? ⟨g, o, none⟩ = some u → (w5.setCell ⟨g, 5, none⟩ v5).cell? ⟨g, o, none⟩ = some u := fun o u h2 h3 h4 => by
    rw [World.cell?_setCell_other _ ⟨g, 5, none⟩ ⟨g, o, none⟩ _ (fun e => h3 (by injection e with _ e2 _; exact e2.symm))]
    refine X5.cell ?_ hmg
    rw [World.cell?_setCell_other _ ⟨g, 4, none⟩ ⟨g, o, none⟩ _ (fun e => h2 (by injection e with _ e2 _; exact e2.symm))]
    exact X4.cell h4 hng
  have c3 : (w4.setCell ⟨g, 4, none⟩ v4).cell? ⟨g, 5, none⟩ = some ak := (World.cell?_setCell_other _ ⟨g, 4, none⟩ ⟨g, 5, none⟩ _ (by simp)).trans (X4.cell hB3.c5 hng)
  refine ⟨⟨own 0 _ (by omega) (by omega) hB3.c0, own 1 _ (by omega) (by omega) hB3.c1, own 2 _ (by omega) (by omega) hB3.c2, own 3 _ (by omega) (by omega) hB3.c3, ?_, World.cell?_setCell_same _ _ _ (X5.cell c3 hmg), own 6 _ (by omega) (by omega) hB3.c6, ?_, f5, f6, ?_, ?_, ?_⟩, ?_, f7⟩
  · rw [World.cell?_setCell_other _ ⟨g, 5, none⟩ ⟨g, 4, none⟩ _ (by simp)]
    exact X5.cell (World.cell?_setCell_same _ _ _ (X4.cell hB3.c4 hng)) hmg
  · intro o
    rw [World.frozen?_setCell, X5.frozen (p := ⟨g, o, none⟩) (by have := hB3.lt; have := X4.size; simp; omega) hmg, World.frozen?_setCell, X4.frozen (p := ⟨g, o, none⟩) hB3.lt hng]
    exact hB3.fz o
  · exact ((hB3.tp.chg X1 (q1 2 (by decide) (by decide)) (q1 3 (by decide) (by decide)) (q1 8 (by decide) (by decide))).chg X2 (q2 2 (by decide) (by decide)) (q2 3 (by decide) (by decide)) (q2 8 (by decide) (by decide))).roles keep (by decide) (by decide)
  · exact ((hB3.np.chg X1 (q1 4 (by decide) (by decide)) (q1 5 (by decide) (by decide)) (q1 8 (by decide) (by decide))).chg X2 (q2 4 (by decide) (by decide)) (q2 5 (by decide) (by decide)) (q2 8 (by decide) (by decide))).roles keep (by decide) (by decide)
  · exact hB3.ap.taken (by decide) (by decide) (by decide) (by decide) (by decide) H1 X1 D4 H2 X2 D2' (by decide) (by decide) (fun b hb => by rw [(hB3.rg b).1 hb]; exact hB3.lt) C0 C1 C2 C3 (by omega) f1 f2 f3 f4
  · exact fun b hb hne => f2 b (by omega) hne

theorem wpList_append_asks {ops : Array Oper} {rest : List Oper} {o : Oper} {a : Act} {w : World} {Q : Exit → Act → World → Prop} (hgd : o.guard = none) (s x : Operand)
    (ho : o.op = .call { callee := .builtin .append, args := #[s, x], argTypes := #[37, 37] })
    (base : Nat) (i : TypeInfo) (hi : Try.prog.info? 40 = some i ∧ i.zero = some (.agg #[.int .i64 0, .int .i64 0, .slice none 0 0]) ∧ i.size = 3 ∧ i.bytes = 40)
    (v : Value) (n j : Nat) (m : Int) (hs : a.eval s = v) (hown : MkN w base 40 v n [.int .i64 m, .int .i64 m, .slice none 0 0]) (ad : Addr) (c : Nat) (hx : a.eval x = .slice (some ad) j c) (hnews : ∀ k u, (rep j [.int .i64 m, .int .i64 m, .slice none 0 0])[k]? = some u → w.cell? (ad.add k) = some u)
    (hn : n + j ≤ 10000) (hbase : base ≤ w.heap.size)
    (h : ∀ v' w', MkN w' base 40 v' (n + j) [.int .i64 m, .int .i64 m, .slice none 0 0] → (∀ u k, k ≤ n + j → MkN w base 40 u k [.int .i64 m, .int .i64 m, .slice none 0 0] → MkN w' base 40 u k [.int .i64 m, .int .i64 m, .slice none 0 0]) → w.grownBy w' v.ownBlock → (v'.ownBlock = v.ownBlock ∨ v'.ownBlock = some w.heap.size) → wpList Try.prog ops Q rest (a.put o.dst v') w') :
    wpList Try.prog ops Q (o :: rest) a w := by
  refine wpList_plain hgd fun K hK => ?_
  obtain ⟨v', w', hr, h2, h3, h4, h5⟩ := append_like w base 37 40 o.type Try.underlying37 i (.agg #[.int .i64 0, .int .i64 0, .slice none 0 0]) 40 hi.1 hi.2.1 [.int .i64 m, .int .i64 m, .slice none 0 0] hi.2.2.1 hi.2.2.2 (by decide) rfl (by simp) (by intro u hu; simp at hu; rcases hu with rfl | rfl <;> rfl) v n j hown ad c hnews hn hbase
  unfold Oper.wp execOp
  simp only [ho, resolve, invoke, builtin, Sem.run_bind, Sem.run_pure, Result.andThen_ok, List.map_toArray, List.map_cons, List.map_nil, hs, hx, hr]
  exact hK _ _ (h v' w' h2 h3 h4 h5)

end Pk
end Go.Proofs.Ytdjhhnolcafkiaa
