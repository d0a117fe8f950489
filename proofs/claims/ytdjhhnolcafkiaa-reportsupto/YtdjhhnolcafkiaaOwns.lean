/- The book takes a list: it is written full, and more is put behind it. -/
import Derived.Test.YtdjhhnolcafkiaaBook
namespace Go.Proofs.Ytdjhhnolcafkiaa
open Go.RowKit
namespace Pk

structure Bk (W : World) (g : Nat) (free : Nat → Prop) (nv mv : Value) (NL : List Value) (ML : List Int) (nx : Int) : Prop where
  c0 : W.cell? ⟨g, 0, none⟩ = some (.slice none 0 0)
  c1 : W.cell? ⟨g, 1, none⟩ = some (.slice none 0 0)
  c2 : W.cell? ⟨g, 2, none⟩ = some nv
  c3 : W.cell? ⟨g, 3, none⟩ = some mv
  c4 : W.cell? ⟨g, 4, none⟩ = some (.slice none 0 0)
  c5 : W.cell? ⟨g, 5, none⟩ = some (.slice none 0 0)
  c6 : W.cell? ⟨g, 6, none⟩ = some (.int .i64 nx)
  fz : ∀ o, W.frozen? ⟨g, o, none⟩ = false
  hg : ¬ free g
  rn : W.ownsRow (g + 1) 27 1 nv NL.length NL
  rm : W.ownsRow (g + 1) 3 1 mv ML.length (ML.map (Value.int .i64))
  fn : ∀ b, nv.ownBlock = some b → ¬ free b ∧ mv.ownBlock ≠ some b
  fm : ∀ b, mv.ownBlock = some b → ¬ free b
  len : NL.length = ML.length
  ent : ∀ i u, NL[i]? = some u → ∃ n ao cap, u = .slice ao n cap ∧ n ≤ 18 ∧ ∀ k, k < n → ∃ b, ao = some ⟨b, 0, none⟩ ∧ ¬ free b ∧ b ≠ g ∧ nv.ownBlock ≠ some b ∧ mv.ownBlock ≠ some b ∧ W.cell? ⟨b, 0 + k, none⟩ = some (.int .i64 (ML.getD i 0))

theorem Bk.lt {W : World} {g : Nat} {free : Nat → Prop} {nv mv : Value} {NL : List Value} {ML : List Int} {nx : Int} (h : Bk W g free nv mv NL ML nx) : g < W.heap.size := lt_of_cell h.c0

theorem Bk.chg {W W' : World} {g : Nat} {free T : Nat → Prop} {nv mv : Value} {NL : List Value} {ML : List Int} {nx : Int} (h : Bk W g free nv mv NL ML nx) (hc : Chg T W W') (hT : ∀ b, T b → free b) : Bk W' g free nv mv NL ML nx := by
  have hng : ¬ T g := fun e => h.hg (hT g e)
  refine ⟨hc.cell h.c0 hng, hc.cell h.c1 hng, hc.cell h.c2 hng, hc.cell h.c3 hng, hc.cell h.c4 hng, hc.cell h.c5 hng, hc.cell h.c6 hng, fun o => (hc.frozen (p := ⟨g, o, none⟩) h.lt hng).trans (h.fz o), h.hg, hc.row h.rn (fun x hx e => (h.fn x hx).1 (hT x e)), hc.row h.rm (fun x hx e => h.fm x hx (hT x e)), h.fn, h.fm, h.len, ?_⟩
  intro i u hu
  obtain ⟨n, ao, cap, rfl, hn, hk⟩ := h.ent i u hu
  refine ⟨n, ao, cap, rfl, hn, fun k hkn => ?_⟩
  obtain ⟨b, rfl, b1, b2, b3, b4, b5⟩ := hk k hkn
  exact ⟨b, rfl, b1, b2, b3, b4, hc.cell b5 (fun e => b1 (hT b e))⟩

theorem Bk.widen {W : World} {g : Nat} {free free' : Nat → Prop} {nv mv : Value} {NL : List Value} {ML : List Int} {nx : Int} (h : Bk W g free nv mv NL ML nx) (hf : ∀ b, b < W.heap.size → free' b → free b) : Bk W g free' nv mv NL ML nx := by
  refine ⟨h.c0, h.c1, h.c2, h.c3, h.c4, h.c5, h.c6, h.fz, fun e => h.hg (hf g h.lt e), h.rn, h.rm, fun b hb => ⟨fun e => (h.fn b hb).1 (hf b (h.rn.lt b hb).2 e), (h.fn b hb).2⟩, fun b hb e => h.fm b hb (hf b (h.rm.lt b hb).2 e), h.len, ?_⟩
  intro i u hu
  obtain ⟨n, ao, cap, rfl, hn, hk⟩ := h.ent i u hu
  refine ⟨n, ao, cap, rfl, hn, fun k hkn => ?_⟩
  obtain ⟨b, rfl, b1, b2, b3, b4, b5⟩ := hk k hkn
  exact ⟨b, rfl, fun e => b1 (hf b (lt_of_cell b5) e), b2, b3, b4, b5⟩

theorem Bk.set6 {W : World} {g : Nat} {free : Nat → Prop} {nv mv : Value} {NL : List Value} {ML : List Int} {nx : Int} (h : Bk W g free nv mv NL ML nx) (ny : Int) : Bk (W.setCell ⟨g, 6, none⟩ (.int .i64 ny)) g free nv mv NL ML ny := by
  have o : ∀ i u, i ≠ 6 → W.cell? ⟨g, i, none⟩ = some u → (W.setCell ⟨g, 6, none⟩ (.int .i64 ny)).cell? ⟨g, i, none⟩ = some u := fun i u hi hu => (World.cell?_setCell_other _ ⟨g, 6, none⟩ ⟨g, i, none⟩ _ (fun e => hi (by injection e with _ e2 _; exact e2.symm))).trans hu
  refine ⟨o _ _ (by omega) h.c0, o _ _ (by omega) h.c1, o _ _ (by omega) h.c2, o _ _ (by omega) h.c3, o _ _ (by omega) h.c4, o _ _ (by omega) h.c5, World.cell?_setCell_same _ _ _ h.c6, fun o => by rw [World.frozen?_setCell]; exact h.fz o, h.hg,
    ownsRow_setCell_below h.rn (Nat.lt_succ_self g) _, ownsRow_setCell_below h.rm (Nat.lt_succ_self g) _, h.fn, h.fm, h.len, ?_⟩
  intro i u hu
  obtain ⟨n, ao, cap, rfl, hn, hk⟩ := h.ent i u hu
  refine ⟨n, ao, cap, rfl, hn, fun k hkn => ?_⟩
  obtain ⟨b, rfl, b1, b2, b3, b4, b5⟩ := hk k hkn
  exact ⟨b, rfl, b1, b2, b3, b4, (World.cell?_setCell_other _ ⟨g, 6, none⟩ _ _ (fun e => b2 (by injection e with e1 _ _; exact e1.symm))).trans b5⟩

theorem cells_new (w : World) (xs : List Value) (t : TypeId) : ∀ j u, xs[j]? = some u → (w.alloc (.cells xs.toArray t)).cell? ((⟨w.heap.size, 0, none⟩ : Addr).add j) = some u := by
  intro j u hj
  have h := cell_of_row (w.alloc (.cells xs.toArray t)) w.heap.size j xs.toArray t (0, 0) (heap_alloc_new w _)
  rw [show (⟨w.heap.size, 0, none⟩ : Addr).add j = ⟨w.heap.size, j, none⟩ by unfold Addr.add; split <;> simp_all, h]
  simpa using hj

theorem cells_newAt (w : World) (xs : List Value) (t : TypeId) (k : Nat) (hk : w.heap.size = k) : ∀ j u, xs[j]? = some u → (w.alloc (.cells xs.toArray t)).cell? ((⟨k, 0, none⟩ : Addr).add j) = some u := by
  subst hk
  exact cells_new w xs t

theorem row_shape {W : World} {base e n : Nat} {v : Value} {xs : List Value} (h : W.ownsRow base e 1 v n xs) : ∃ ao cap, v = .slice ao n cap := by
  obtain ⟨_, h2 | ⟨g, cap, cur, rfl, _⟩⟩ := h
  · exact ⟨none, 0, by rw [h2.1, h2.2]⟩
  · exact ⟨_, _, rfl⟩

theorem stop_here {p : Prop} (h : Hid p) : p := h
theorem hid_in {p : Prop} (h : p) : Hid p := h

theorem wpList_append_marks {ops : Array Oper} {rest : List Oper} {o : Oper} {a : Act} {w : World} {Q : Exit → Act → World → Prop} (hgd : o.guard = none) (s x : Operand)
    (ho : o.op = .call { callee := .builtin .append, args := #[s, x], argTypes := #[27, 27] })
    (base : Nat) (i : TypeInfo) (hi : Try.prog.info? 3 = some i ∧ i.zero = some (.int .i64 0) ∧ i.size = 1 ∧ i.bytes = 8)
    (v : Value) (n j : Nat) (m : Int) (hs : a.eval s = v) (hown : Mk w base v n m) (ad : Addr) (c : Nat) (hx : a.eval x = .slice (some ad) j c) (hnews : ∀ k u, (List.replicate j (Value.int .i64 m))[k]? = some u → w.cell? (ad.add k) = some u)
    (hn : n + j ≤ 100) (hbase : base ≤ w.heap.size)
    (h : ∀ v' w', Mk w' base v' (n + j) m → (∀ u k, k ≤ n + j → Mk w base u k m → Mk w' base u k m) → w.grownBy w' v.ownBlock → (v'.ownBlock = v.ownBlock ∨ v'.ownBlock = some w.heap.size) → wpList Try.prog ops Q rest (a.put o.dst v') w') :
    wpList Try.prog ops Q (o :: rest) a w := by
  refine wpList_plain hgd fun K hK => ?_
  obtain ⟨v', w', hr, h2, h3, h4, h5⟩ := append_marks w base o.type i hi.1 hi.2.1 hi.2.2.1 hi.2.2.2 v n j m hown ad c hnews hn hbase
  unfold Oper.wp execOp
  simp only [ho, resolve, invoke, builtin, Sem.run_bind, Sem.run_pure, Result.andThen_ok, List.map_toArray, List.map_cons, List.map_nil, hs, hx, hr]
  exact hK _ _ (h v' w' h2 h3 h4 h5)

theorem bk_taken {free : Nat → Prop} {w wr w3 w4 w5 : World} {g n : Nat} {nv mv v v1 v2 v3 v4 v5 : Value} {NL : List Value} {ML : List Int} {nx m : Int}
    (hBr : Bk wr g free nv mv NL ML nx) (hB3 : Bk w3 g free nv mv NL ML nx) (hww : w.heap.size ≤ wr.heap.size) (hw3 : wr.heap.size ≤ w3.heap.size) (hv : ∀ b, v.ownBlock = some b → free b)
    (C0 : Mk w3 (g + 1) v n m) (C1 : Mk w3 (g + 1) v1 (n + 1) m) (C2 : Mk w3 (g + 1) v2 (n + 2) m) (C3 : Mk w3 (g + 1) v3 (n + 3) m) (hn : n ≤ 15)
    (D1 : v1.ownBlock = v.ownBlock ∨ ∀ b, v1.ownBlock = some b → wr.heap.size ≤ b) (D2 : v2.ownBlock = v.ownBlock ∨ ∀ b, v2.ownBlock = some b → wr.heap.size ≤ b) (D3 : v3.ownBlock = v.ownBlock ∨ ∀ b, v3.ownBlock = some b → wr.heap.size ≤ b)
    (H4 : w4.ownsRow (g + 1) 27 1 v4 (NL.length + 4) (NL ++ [v, v1, v2, v3])) (X4 : Chg (fun b => nv.ownBlock = some b) w3 w4) (D4 : v4.ownBlock = nv.ownBlock ∨ ∀ b, v4.ownBlock = some b → w3.heap.size ≤ b)
    (H5 : w5.ownsRow (g + 1) 3 1 v5 (ML.length + 4) (ML.map (Value.int .i64) ++ [.int .i64 m, .int .i64 m, .int .i64 m, .int .i64 m])) (X5 : Chg (fun b => mv.ownBlock = some b) (w4.setCell ⟨g, 2, none⟩ v4) w5)
    (D5 : v5.ownBlock = mv.ownBlock ∨ ∀ b, v5.ownBlock = some b → w4.heap.size ≤ b) :
    Bk (w5.setCell ⟨g, 3, none⟩ v5) g (fun b => free b ∧ b < w.heap.size ∧ v.ownBlock ≠ some b) v4 v5 (NL ++ [v, v1, v2, v3]) (ML ++ List.replicate 4 m) nx := by
  have hng : ¬ nv.ownBlock = some g := fun e => by have := (hB3.rn.lt g e).1; omega
  have hmg : ¬ mv.ownBlock = some g := fun e => by have := (hB3.rm.lt g e).1; omega
  have hs4 : w3.heap.size ≤ w4.heap.size := X4.size
  have hs4' : (w4.setCell ⟨g, 2, none⟩ v4).heap.size = w4.heap.size := by simp
  have k4 : ∀ b, v4.ownBlock = some b → nv.ownBlock = some b ∨ w3.heap.size ≤ b := fun b hb => by
    rcases D4 with h | h
    · exact .inl (h ▸ hb)
    · exact .inr (h b hb)
  have k5 : ∀ b, v5.ownBlock = some b → mv.ownBlock = some b ∨ w4.heap.size ≤ b := fun b hb => by
    rcases D5 with h | h
    · exact .inl (h ▸ hb)
    · exact .inr (h b hb)
  have nlt : ∀ b, nv.ownBlock = some b → b < wr.heap.size := fun b hb => (hBr.rn.lt b hb).2
  have mlt : ∀ b, mv.ownBlock = some b → b < wr.heap.size := fun b hb => (hBr.rm.lt b hb).2
  -- a cell of another block reads as it did
  have far : ∀ b o u, b ≠ g → nv.ownBlock ≠ some b → mv.ownBlock ≠ some b → w3.cell? ⟨b, o, none⟩ = some u → (w5.setCell ⟨g, 3, none⟩ v5).cell? ⟨b, o, none⟩ = some u := fun b o u h1 h2 h3 h4 => by
    rw [World.cell?_setCell_other _ ⟨g, 3, none⟩ ⟨b, o, none⟩ _ (fun e => h1 (by injection e with e1 _ _; exact e1.symm))]
    refine X5.cell ?_ h3
    rw [World.cell?_setCell_other _ ⟨g, 2, none⟩ ⟨b, o, none⟩ _ (fun e => h1 (by injection e with e1 _ _; exact e1.symm))]
    exact X4.cell h4 h2
  have own : ∀ o u, o ≠ 2 → o ≠ 3 → w3.cell? ⟨g, o, none⟩ = some u → (w5.setCell ⟨g, 3, none⟩ v5).cell? ⟨g, o, none⟩ = some u := fun o u h2 h3 h4 => by
    rw [World.cell?_setCell_other _ ⟨g, 3, none⟩ ⟨g, o, none⟩ _ (fun e => h3 (by injection e with _ e2 _; exact e2.symm))]
    refine X5.cell ?_ hmg
    rw [World.cell?_setCell_other _ ⟨g, 2, none⟩ ⟨g, o, none⟩ _ (fun e => h2 (by injection e with _ e2 _; exact e2.symm))]
    exact X4.cell h4 hng
  have new : ∀ (u : Value) (k i : Nat), Mk w3 (g + 1) u k m → k ≤ 18 → (∀ b, u.ownBlock = some b → v.ownBlock = some b ∨ wr.heap.size ≤ b) → (ML ++ List.replicate 4 m).getD i 0 = m →
      ∃ n ao cap, u = .slice ao n cap ∧ n ≤ 18 ∧ ∀ k, k < n → ∃ b, ao = some ⟨b, 0, none⟩ ∧ ¬ (free b ∧ b < w.heap.size ∧ v.ownBlock ≠ some b) ∧ b ≠ g ∧ v4.ownBlock ≠ some b ∧ v5.ownBlock ≠ some b ∧ (w5.setCell ⟨g, 3, none⟩ v5).cell? ⟨b, 0 + k, none⟩ = some (.int .i64 ((ML ++ List.replicate 4 m).getD i 0)) := by
    intro u k i hM hk hD hi
    obtain ⟨ao, cap, rfl⟩ := hM.shape
    refine ⟨k, ao, cap, rfl, hk, fun j hj => ?_⟩
    obtain ⟨b, rfl, hb1, hb2, hc⟩ := hM.cell j hj
    have hDb := hD b rfl
    have hn1 : nv.ownBlock ≠ some b := fun e => by
      rcases hDb with h | h
      · exact (hB3.fn b e).1 (hv b h)
      · have := nlt b e; omega
    have hm1 : mv.ownBlock ≠ some b := fun e => by
      rcases hDb with h | h
      · exact hB3.fm b e (hv b h)
      · have := mlt b e; omega
    refine ⟨b, rfl, ?_, by omega, ?_, ?_, ?_⟩
    · rintro ⟨_, h2, h3⟩
      rcases hDb with h | h
      · exact h3 h
      · omega
    · intro e
      rcases k4 b e with h | h
      · exact hn1 h
      · omega
    · intro e
      rcases k5 b e with h | h
      · exact hm1 h
      · omega
    · rw [hi]
      exact far b (0 + j) _ (by omega) hn1 hm1 hc
  have blk : ∀ (u : Value), (u.ownBlock = v.ownBlock ∨ ∀ b, u.ownBlock = some b → wr.heap.size ≤ b) → ∀ b, u.ownBlock = some b → v.ownBlock = some b ∨ wr.heap.size ≤ b := fun u h b hb => by
    rcases h with h | h
    · exact .inl (h ▸ hb)
    · exact .inr (h b hb)
  have c3 : (w4.setCell ⟨g, 2, none⟩ v4).cell? ⟨g, 3, none⟩ = some mv := (World.cell?_setCell_other _ ⟨g, 2, none⟩ ⟨g, 3, none⟩ _ (by simp)).trans (X4.cell hB3.c3 hng)
  refine ⟨own 0 _ (by omega) (by omega) hB3.c0, own 1 _ (by omega) (by omega) hB3.c1, ?_, World.cell?_setCell_same _ _ _ (X5.cell c3 hmg), own 4 _ (by omega) (by omega) hB3.c4, own 5 _ (by omega) (by omega) hB3.c5, own 6 _ (by omega) (by omega) hB3.c6, ?_, fun e => hB3.hg e.1, ?_, ?_, ?_, ?_, ?_, ?_⟩
  · rw [World.cell?_setCell_other _ ⟨g, 3, none⟩ ⟨g, 2, none⟩ _ (by simp)]
    exact X5.cell (World.cell?_setCell_same _ _ _ (X4.cell hB3.c2 hng)) hmg
  · intro o
    rw [World.frozen?_setCell, X5.frozen (p := ⟨g, o, none⟩) (by have := hB3.lt; rw [hs4']; show g < _; omega) hmg, World.frozen?_setCell, X4.frozen (p := ⟨g, o, none⟩) hB3.lt hng]
    exact hB3.fz o
  · refine ownsRow_setCell_below ?_ (Nat.lt_succ_self g) _
    rw [List.length_append]
    refine X5.row (ownsRow_setCell_below H4 (Nat.lt_succ_self g) _) ?_
    intro x hx e
    rcases k4 x hx with h | h
    · exact (hB3.fn x h).2 e
    · have := mlt x e; omega
  · refine ownsRow_setCell_below ?_ (Nat.lt_succ_self g) _
    rw [List.length_append, List.length_replicate, List.map_append]
    exact H5
  · intro b hb
    refine ⟨?_, ?_⟩
    · rintro ⟨h1, h2, _⟩
      rcases k4 b hb with h | h
      · exact (hB3.fn b h).1 h1
      · omega
    · intro e
      rcases k5 b e with h | h
      · rcases k4 b hb with h' | h'
        · exact (hB3.fn b h').2 h
        · have := mlt b h; omega
      · have := (H4.lt b hb).2
        omega
  · intro b hb
    rintro ⟨h1, h2, _⟩
    rcases k5 b hb with h | h
    · exact hB3.fm b h h1
    · omega
  · rw [List.length_append, List.length_append, List.length_replicate, hB3.len]
    rfl
  · intro i u hu
    by_cases hi : i < NL.length
    · rw [List.getElem?_append_left hi] at hu
      have hg : (ML ++ List.replicate 4 m).getD i 0 = ML.getD i 0 := by
        simp only [List.getD]
        rw [List.getElem?_append_left (by rw [← hB3.len]; exact hi)]
      obtain ⟨n', ao, cap, rfl, hn', hk⟩ := hB3.ent i u hu
      refine ⟨n', ao, cap, rfl, hn', fun k hkn => ?_⟩
      obtain ⟨b, rfl, b1, b2, b3, b4, b5⟩ := hk k hkn
      have hlt := lt_of_cell b5
      refine ⟨b, rfl, fun e => b1 e.1, b2, ?_, ?_, ?_⟩
      · intro e
        rcases k4 b e with h | h
        · exact b3 h
        · simp at hlt; omega
      · intro e
        rcases k5 b e with h | h
        · exact b4 h
        · simp at hlt; omega
      · rw [hg]
        exact far b (0 + k) _ b2 b3 b4 b5
    · rw [List.getElem?_append_right (by omega)] at hu
      have hj : i - NL.length < 4 := by
        have := (List.getElem?_eq_some_iff.1 hu).1
        simpa using this
      have hg : (ML ++ List.replicate 4 m).getD i 0 = m := by
        simp only [List.getD]
        rw [List.getElem?_append_right (by rw [← hB3.len]; omega), List.getElem?_replicate, if_pos (by rw [← hB3.len]; exact hj)]
        rfl
      obtain ⟨j, hjj⟩ : ∃ j, i - NL.length = j := ⟨_, rfl⟩
      rw [hjj] at hu hj
      match j, hj, hu with
      | 0, _, hu => simp at hu; subst hu; exact new _ n i C0 (by omega) (fun b hb => .inl hb) hg
      | 1, _, hu => simp at hu; subst hu; exact new _ (n + 1) i C1 (by omega) (blk _ D1) hg
      | 2, _, hu => simp at hu; subst hu; exact new _ (n + 2) i C2 (by omega) (blk _ D2) hg
      | 3, _, hu => simp at hu; subst hu; exact new _ (n + 3) i C3 (by omega) (blk _ D3) hg

end Pk
open Pk

set_option maxRecDepth 20000 in
set_option maxHeartbeats 4000000 in
theorem owns_any (g : Nat) (free : Nat → Prop) (nv mv : Value) (NL : List Value) (ML : List Int) (nx : Int) (v : Value) (l : List Int) (w : World) (hB : Bk w g free nv mv NL ML nx) (hown : OwnInts w (g + 1) v l) (hf : ∀ b, v.ownBlock = some b → free b)
    (hl : l.length ≤ 15) (hN : NL.length ≤ 1000000000) (hx0 : 0 ≤ nx) (hx1 : nx ≤ 1000000000) :
    Calls Try.prog 40 #[.pointer (some ⟨g, 0, none⟩), v] w fun e w' => e = .returned (.tuple #[]) ∧ ∃ nv' mv' NL', NL'.length = 4 ∧
      Bk w' g (fun b => free b ∧ b < w.heap.size ∧ v.ownBlock ≠ some b) nv' mv' (NL ++ NL') (ML ++ List.replicate 4 (-(nx + 1))) (nx + 1) ∧ Chg (fun b => b = g ∨ nv.ownBlock = some b ∨ mv.ownBlock = some b ∨ v.ownBlock = some b) w w' := by
  have hinfo : (Try.prog.info? 3).map (fun i => (i.zero, i.size, i.bytes)) = some (some (.int .i64 0), 1, 8) := by kernel_rfl
  obtain ⟨i0, hi, hz0, hz1, hz2⟩ := info_parts hinfo
  have Hi : Hid (Try.prog.info? 3 = some i0 ∧ i0.zero = some (.int .i64 0) ∧ i0.size = 1 ∧ i0.bytes = 8) := ⟨hi, hz0, hz1, hz2⟩
  have hinfo2 : (Try.prog.info? 27).map (fun i => (i.zero, i.size, i.bytes)) = some (some (.slice none 0 0), 1, 24) := by kernel_rfl
  obtain ⟨i2, hj, hy0, hy1, hy2⟩ := info_parts hinfo2
  have Hj : Hid (Try.prog.info? 27 = some i2 ∧ i2.zero = some (.slice none 0 0) ∧ i2.size = 1 ∧ i2.bytes = 24) := ⟨hj, hy0, hy1, hy2⟩
  clear hi hz0 hz1 hz2 hinfo hj hy0 hy1 hy2 hinfo2
  obtain ⟨n, hnl⟩ : ∃ n, l.length = n := ⟨_, rfl⟩
  obtain ⟨ao, cap, hv⟩ := hown.shape
  have hrow0 : w.ownsRow (g + 1) 3 1 v l.length (l.map (Value.int .i64)) := hown
  rw [hnl] at hv hl hrow0
  subst hv
  have Hrow0 : Hid (w.ownsRow (g + 1) 3 1 (.slice ao n cap) n (l.map (Value.int .i64))) := hrow0
  clear hrow0 hnl hown
  obtain ⟨an, cn, rfl⟩ := row_shape hB.rn
  obtain ⟨am, cm, rfl⟩ := row_shape hB.rm
  have HB : Hid (Bk w g free (.slice an NL.length cn) (.slice am ML.length cm) NL ML nx) := hB
  have c6 := hB.c6
  have fz := hB.fz
  obtain ⟨m, hm⟩ : ∃ m, m = -(nx + 1) := ⟨_, rfl⟩
  have hm' : -(nx + 1) = m := hm.symm
  have Hm : Hid (m = -(nx + 1)) := hm
  clear hm hB
  go_enter Try.func40, Try.ntmps40
  go_wp2
  go_loopw [5] (fun i wr => ∃ (k : Nat) (ys : List Value), k ≤ n ∧ i = .int .i64 k ∧ wr.ownsRow (g + 1) 3 1 (.slice ao n cap) n ys ∧ (∀ j, j < k → ys[j]? = some (.int .i64 m)) ∧ Bk wr g free (.slice an NL.length cn) (.slice am ML.length cm) NL ML (nx + 1) ∧ Chg (fun b => b = g ∨ (Value.slice an NL.length cn).ownBlock = some b ∨ (Value.slice am ML.length cm).ownBlock = some b ∨ (Value.slice ao n cap).ownBlock = some b) w wr) (fun i _ => n - (intOf i).toNat)
  case atStart => exact ⟨0, l.map (Value.int .i64), Nat.zero_le _, rfl, ownsRow_setCell_below Hrow0.out (Nat.lt_succ_self g) _, fun j hj => by omega, HB.out.set6 _, (Chg.refl _ _).setCell _ (.inl (.inl rfl)) _⟩
  case round =>
    obtain ⟨k, ys, hk, rfl, hrow, hys, hBk, hchg⟩ := hrel
    by_cases hlt : k < n
    · obtain ⟨gl, hao⟩ : ∃ gl, ao = some ⟨gl, 0, none⟩ := by
        rcases hrow.2 with ⟨_, h0⟩ | ⟨gl, _, _, e, _⟩
        · omega
        · simp only [Value.slice.injEq] at e
          exact ⟨gl, e.1⟩
      subst hao
      have hyl : ys.length = n := by have := hrow.1; omega
      obtain ⟨y, hy⟩ : ∃ y, ys[k]? = some y := ⟨_, List.getElem?_eq_getElem (by omega)⟩
      have hcell : wr.cell? ⟨gl, k, none⟩ = some y := (hrow.cellAt k (by omega)).trans hy
      have hfr : ∀ j, wr.frozen? ⟨gl, j, none⟩ = false := fun j => hrow.frozenAt j
      have hlt' : (k : Int) < n := by omega
      have Hst : Hid (_ ∧ _) := hrow.stored k (.int .i64 m)
      have Hys : Hid (∀ j, j < k → ys[j]? = some (.int .i64 m)) := hys
      have HBk : Hid (Bk wr g free (.slice an NL.length cn) (.slice am ML.length cm) NL ML (nx + 1)) := hBk
      have hgl : gl ≠ g := by have := (hrow.lt gl rfl).1; omega
      have Hgl : Hid (free gl) := hf gl rfl
      clear hrow hys hBk hf c6 fz
      go_wp2
      go_roundw
      case rel =>
        refine ⟨k + 1, ys.set k (.int .i64 m), by omega, by go_num, Hst.out.1, ?_, HBk.out.chg (T := fun b => b = gl) ⟨rfl, rfl, rfl, by simp, fun x _ hn => heap_setCell_other _ _ x _ (fun e => hn e)⟩ (fun b hb => by rw [hb]; exact Hgl.out), hchg.setCell ⟨gl, k, none⟩ (.inl (.inr (.inr (.inr rfl)))) _⟩
        intro j hj
        by_cases hjk : j = k
        · subst hjk
          rw [List.getElem?_set_self (by omega)]
        · rw [List.getElem?_set_ne (by omega)]
          exact Hys.out j (by omega)
      case measure => simp [intOf]; omega
    · have hkl : k = n := by omega
      have hM : Mk wr (g + 1) (.slice ao n cap) n m := by
        have e : ys = List.replicate n (.int .i64 m) := by
          apply List.ext_getElem?
          intro j
          by_cases hj : j < n
          · rw [hys j (by omega)]; simp [hj]
          · rw [List.getElem?_eq_none (by have := hrow.1; omega), List.getElem?_eq_none (by simp; omega)]
        rw [e] at hrow
        exact hrow
      have HM : Hid (Mk wr (g + 1) (.slice ao n cap) n m) := hM
      have HBk : Hid (Bk wr g free (.slice an NL.length cn) (.slice am ML.length cm) NL ML (nx + 1)) := hBk
      have Hchg : Hid (Chg (fun b => b = g ∨ (Value.slice an NL.length cn).ownBlock = some b ∨ (Value.slice am ML.length cm).ownBlock = some b ∨ (Value.slice ao n cap).ownBlock = some b) w wr) := hchg
      have hlt' : ¬ (k : Int) < n := by omega
      have hglt := hBk.lt
      clear hM hBk hchg hrow hys c6 fz
      have HV : Hid (∀ b, (Value.slice ao n cap).ownBlock = some b → free b) := hf
      clear hf Hrow0 hlt HB
      go_wp2_with (at_builtin; (
        refine wpList_append_marks rfl (.tmp 31) (.tmp 33) rfl (g + 1) i0 Hi.out (.slice ao n cap) n 1 m rfl (World.ownsRow.alloc HM.out _) _ 1 rfl (cells_new _ [.int .i64 m] _) (by omega) (by simp; omega) ?_
        intro v1 w1 h1 k1 g1 b1
        refine stop_here ?_))
      obtain ⟨a1, p1, rfl⟩ := h1.shape
      have A1 : Hid (Mk w1 (g + 1) (.slice a1 (n + 1) p1) (n + 1) m) := h1
      have A0 : Hid (Mk w1 (g + 1) (.slice ao n cap) n m) := k1 _ _ (by omega) (World.ownsRow.alloc HM.out _)
      have X1 : Hid (Chg (fun b => (Value.slice ao n cap).ownBlock = some b) wr w1) := ((Chg.refl _ _).alloc _).trans (Chg.ofGrown g1) (fun _ _ e => e)
      have D1 : Hid ((Value.slice a1 (n + 1) p1).ownBlock = (Value.slice ao n cap).ownBlock ∨ ∀ b, (Value.slice a1 (n + 1) p1).ownBlock = some b → wr.heap.size ≤ b) := b1.imp id (fun e b hb => by rw [e] at hb; simp at hb; omega)
      have s1 : g + 1 ≤ w1.heap.size := Nat.le_trans (Nat.succ_le_of_lt hglt) X1.out.size
      clear h1 k1 g1 b1
      refine hid_in ?_
      go_wp2_with (at_builtin; (
        refine wpList_append_marks rfl (.tmp 35) (.tmp 38) rfl (g + 1) i0 Hi.out (.slice ao n cap) n 2 m rfl (World.ownsRow.alloc A0.out _) _ 2 rfl (cells_new _ [.int .i64 m, .int .i64 m] _) (by omega) (by simp; omega) ?_
        intro v2 w2 h2 k2 g2 b2
        refine stop_here ?_))
      obtain ⟨a2, p2, rfl⟩ := h2.shape
      have B2 : Hid (Mk w2 (g + 1) (.slice a2 (n + 2) p2) (n + 2) m) := h2
      have B1 : Hid (Mk w2 (g + 1) (.slice a1 (n + 1) p1) (n + 1) m) := k2 _ _ (by omega) (World.ownsRow.alloc A1.out _)
      have B0 : Hid (Mk w2 (g + 1) (.slice ao n cap) n m) := k2 _ _ (by omega) (World.ownsRow.alloc A0.out _)
      have X2 : Hid (Chg (fun b => (Value.slice ao n cap).ownBlock = some b) wr w2) := (X1.out.alloc _).trans (Chg.ofGrown g2) (fun _ _ e => e)
      have D2 : Hid ((Value.slice a2 (n + 2) p2).ownBlock = (Value.slice ao n cap).ownBlock ∨ ∀ b, (Value.slice a2 (n + 2) p2).ownBlock = some b → wr.heap.size ≤ b) := b2.imp id (fun e b hb => by rw [e] at hb; have := X1.out.size; simp at hb; omega)
      have s2 : g + 1 ≤ w2.heap.size := Nat.le_trans (Nat.succ_le_of_lt hglt) X2.out.size
      clear h2 k2 g2 b2 A0 A1 X1
      refine hid_in ?_
      go_wp2_with (at_builtin; (
        refine wpList_append_marks rfl (.tmp 40) (.tmp 44) rfl (g + 1) i0 Hi.out (.slice ao n cap) n 3 m rfl (World.ownsRow.alloc B0.out _) _ 3 rfl (cells_new _ [.int .i64 m, .int .i64 m, .int .i64 m] _) (by omega) (by simp; omega) ?_
        intro v3 w3 h3 k3 g3 b3
        refine stop_here ?_))
      obtain ⟨a3, p3, rfl⟩ := h3.shape
      have C3 : Hid (Mk w3 (g + 1) (.slice a3 (n + 3) p3) (n + 3) m) := h3
      have C2 : Hid (Mk w3 (g + 1) (.slice a2 (n + 2) p2) (n + 2) m) := k3 _ _ (by omega) (World.ownsRow.alloc B2.out _)
      have C1 : Hid (Mk w3 (g + 1) (.slice a1 (n + 1) p1) (n + 1) m) := k3 _ _ (by omega) (World.ownsRow.alloc B1.out _)
      have C0 : Hid (Mk w3 (g + 1) (.slice ao n cap) n m) := k3 _ _ (by omega) (World.ownsRow.alloc B0.out _)
      have X3 : Hid (Chg (fun b => (Value.slice ao n cap).ownBlock = some b) wr w3) := (X2.out.alloc _).trans (Chg.ofGrown g3) (fun _ _ e => e)
      have D3 : Hid ((Value.slice a3 (n + 3) p3).ownBlock = (Value.slice ao n cap).ownBlock ∨ ∀ b, (Value.slice a3 (n + 3) p3).ownBlock = some b → wr.heap.size ≤ b) := b3.imp id (fun e b hb => by rw [e] at hb; have := X2.out.size; simp at hb; omega)
      have s3 : g + 1 ≤ w3.heap.size := Nat.le_trans (Nat.succ_le_of_lt hglt) X3.out.size
      have BK3 : Hid (Bk w3 g free (.slice an NL.length cn) (.slice am ML.length cm) NL ML (nx + 1)) := HBk.out.chg X3.out HV.out
      have c2 := BK3.out.c2
      clear h3 k3 g3 b3 B0 B1 B2 X2
      refine hid_in ?_
      go_wp2_with (at_builtin; (
        refine wpList_append_own_at _ rfl (.tmp 50) (.tmp 55) 26 rfl (g + 1) 27 i2 (.slice none 0 0) 1 24 Try.underlying26 Hj.out.1 Hj.out.2.1 Hj.out.2.2.1 Hj.out.2.2.2 rfl (by decide) (.slice an NL.length cn) NL.length NL rfl (World.ownsRow.alloc BK3.out.rn _) _ 4 4 [.slice ao n cap, .slice a1 (n + 1) p1, .slice a2 (n + 2) p2, .slice a3 (n + 3) p3] rfl rfl (cells_new _ [.slice ao n cap, .slice a1 (n + 1) p1, .slice a2 (n + 2) p2, .slice a3 (n + 3) p3] _) ?_ ?_ ?_ ?_ ?_
        · intro u hu
          simp only [List.mem_cons, List.not_mem_nil, or_false] at hu
          rcases hu with rfl | rfl | rfl | rfl <;> rfl
        · unfold maxLen; omega
        · omega
        · simp; omega
        intro v4 w4 h4 g4 _ b4
        refine stop_here ?_))
      obtain ⟨a4, p4, rfl⟩ := row_shape h4
      have H4 : Hid (w4.ownsRow (g + 1) 27 1 (.slice a4 (NL.length + 4) p4) (NL.length + 4) (NL ++ [.slice ao n cap, .slice a1 (n + 1) p1, .slice a2 (n + 2) p2, .slice a3 (n + 3) p3])) := h4
      have X4 : Hid (Chg (fun b => (Value.slice an NL.length cn).ownBlock = some b) w3 w4) := ((Chg.refl _ _).alloc _).trans (Chg.ofGrown g4) (fun _ _ e => e)
      have D4 : Hid ((Value.slice a4 (NL.length + 4) p4).ownBlock = (Value.slice an NL.length cn).ownBlock ∨ ∀ b, (Value.slice a4 (NL.length + 4) p4).ownBlock = some b → w3.heap.size ≤ b) := b4.imp id (fun e b hb => by rw [e] at hb; simp at hb; omega)
      have hng : ¬ (Value.slice an NL.length cn).ownBlock = some g := fun e => by have := (BK3.out.rn.lt g e).1; omega
      have d2 := X4.out.cell BK3.out.c2 hng
      have d3 := X4.out.cell BK3.out.c3 hng
      have f4 : ∀ o, w4.frozen? ⟨g, o, none⟩ = false := fun o => (X4.out.frozen (p := ⟨g, o, none⟩) (show g < w3.heap.size by omega) hng).trans (BK3.out.fz o)
      have s4 : g + 1 ≤ w4.heap.size := Nat.le_trans s3 X4.out.size
      have RM : Hid ((w4.setCell ⟨g, 2, none⟩ (.slice a4 (NL.length + 4) p4)).ownsRow (g + 1) 3 1 (.slice am ML.length cm) ML.length (ML.map (Value.int .i64))) := ownsRow_setCell_below (X4.out.row BK3.out.rm (fun x hx e => (BK3.out.fn x e).2 hx)) (Nat.lt_succ_self g) _
      have hML : ML.length ≤ 1000000000 := by rw [← BK3.out.len]; exact hN
      clear h4 g4 b4 hng c2
      refine hid_in ?_
      go_wp2_with (at_builtin; (
        refine wpList_append_own_at _ rfl (.tmp 63) (.tmp 68) 27 rfl (g + 1) 3 i0 (.int .i64 0) 1 8 Try.underlying27 Hi.out.1 Hi.out.2.1 Hi.out.2.2.1 Hi.out.2.2.2 rfl (by decide) (.slice am ML.length cm) ML.length (ML.map (Value.int .i64)) rfl (World.ownsRow.alloc RM.out _) _ 4 4 [.int .i64 m, .int .i64 m, .int .i64 m, .int .i64 m] rfl rfl (cells_newAt _ [.int .i64 m, .int .i64 m, .int .i64 m, .int .i64 m] _ _ (by simp)) ?_ ?_ ?_ ?_ ?_
        · intro u hu; simp at hu; subst hu; rfl
        · unfold maxLen; omega
        · omega
        · simp; omega
        intro v5 w5 h5 g5 _ b5
        refine stop_here ?_))
      obtain ⟨a5, p5, rfl⟩ := row_shape h5
      have H5 : Hid (w5.ownsRow (g + 1) 3 1 (.slice a5 (ML.length + 4) p5) (ML.length + 4) (ML.map (Value.int .i64) ++ [.int .i64 m, .int .i64 m, .int .i64 m, .int .i64 m])) := h5
      have X5 : Hid (Chg (fun b => (Value.slice am ML.length cm).ownBlock = some b) (w4.setCell ⟨g, 2, none⟩ (.slice a4 (NL.length + 4) p4)) w5) := ((Chg.refl _ _).alloc _).trans (Chg.ofGrown g5) (fun _ _ e => e)
      have D5 : Hid ((Value.slice a5 (ML.length + 4) p5).ownBlock = (Value.slice am ML.length cm).ownBlock ∨ ∀ b, (Value.slice a5 (ML.length + 4) p5).ownBlock = some b → w4.heap.size ≤ b) := b5.imp id (fun e b hb => by rw [e] at hb; simp at hb; omega)
      have hmg : ¬ (Value.slice am ML.length cm).ownBlock = some g := fun e => by have := (BK3.out.rm.lt g e).1; omega
      have e3 := X5.out.cell (p := ⟨g, 3, none⟩) ((World.cell?_setCell_other _ ⟨g, 2, none⟩ ⟨g, 3, none⟩ _ (by simp)).trans d3) hmg
      have f5 : ∀ o, w5.frozen? ⟨g, o, none⟩ = false := fun o => (X5.out.frozen (p := ⟨g, o, none⟩) (by simp; omega) hmg).trans ((World.frozen?_setCell _ _ _ _).trans (f4 o))
      clear h5 g5 b5 hmg
      refine hid_in ?_
      go_wp2
      refine bodyPost_end (v := .tuple #[]) (by simp [results, Try.results40, go_sem]) rfl ⟨rfl, .slice a4 (NL.length + 4) p4, .slice a5 (ML.length + 4) p5, [.slice ao n cap, .slice a1 (n + 1) p1, .slice a2 (n + 2) p2, .slice a3 (n + 3) p3], rfl, ?_, ?_⟩
      · rw [← Hm.out]
        exact bk_taken HBk.out BK3.out Hchg.out.size X3.out.size HV.out C0.out C1.out C2.out C3.out hl D1.out D2.out D3.out H4.out X4.out D4.out H5.out X5.out D5.out
      · refine (((Hchg.out.trans X3.out ?_).trans X4.out ?_).setCell ⟨g, 2, none⟩ (.inl (.inl rfl)) _ |>.trans X5.out ?_).setCell ⟨g, 3, none⟩ (.inl (.inl rfl)) _
        · exact fun _ _ e => .inr (.inr (.inr e))
        · exact fun _ _ e => .inr (.inl e)
        · exact fun _ _ e => .inr (.inr (.inl e))

end Go.Proofs.Ytdjhhnolcafkiaa
