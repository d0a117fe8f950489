/- The book with all its lists: one pair of them (lists that were handed in, and their marks). -/
import Derived.Test.YtdjhhnolcafkiaaBookN
namespace Go.Proofs.Ytdjhhnolcafkiaa
open Go.RowKit
namespace Pk

/-- a pair of the book's lists: what was handed in, and the mark of each; cells: what each element of a list holds, by its mark -/
structure Pr (W : World) (g : Nat) (ρ : Nat → Nat) (ra rm : Nat) (te tm : TypeId) (cells : Value → List Value) (lv mv : Value) (L M : List Value) : Prop where
  rl : W.ownsRow (g + 1) te 1 lv L.length L
  rk : W.ownsRow (g + 1) tm 1 mv M.length M
  fl : ∀ b, lv.ownBlock = some b → ρ b = ra
  fm : ∀ b, mv.ownBlock = some b → ρ b = rm
  len : L.length = M.length
  ent : ∀ (i : Nat) (u m : Value), L[i]? = some u → M[i]? = some m → ∃ n ao cap, u = .slice ao n cap ∧ n ≤ 10000 ∧ ∀ k, k < n → ∃ b, ao = some ⟨b, 0, none⟩ ∧ b < W.heap.size ∧ ρ b = 8 ∧ ∀ j, j < (cells m).length → W.cell? ⟨b, k * (cells m).length + j, none⟩ = (cells m)[j]?

theorem Pr.chg {W W' : World} {g : Nat} {ρ : Nat → Nat} {T : Nat → Prop} {ra rm : Nat} {te tm : TypeId} {cells : Value → List Value} {lv mv : Value} {L M : List Value} (h : Pr W g ρ ra rm te tm cells lv mv L M) (hc : Chg T W W')
    (h1 : ∀ b, T b → ρ b ≠ ra) (h2 : ∀ b, T b → ρ b ≠ rm) (h3 : ∀ b, T b → ρ b ≠ 8) : Pr W' g ρ ra rm te tm cells lv mv L M := by
  refine ⟨hc.row h.rl (fun x hx e => h1 x e (h.fl x hx)), hc.row h.rk (fun x hx e => h2 x e (h.fm x hx)), h.fl, h.fm, h.len, ?_⟩
  intro i u m hu hm
  obtain ⟨n, ao, cap, rfl, hn, hk⟩ := h.ent i u m hu hm
  refine ⟨n, ao, cap, rfl, hn, fun k hkn => ?_⟩
  obtain ⟨b, rfl, b0, b1, b2⟩ := hk k hkn
  refine ⟨b, rfl, Nat.lt_of_lt_of_le b0 hc.size, b1, fun j hj => ?_⟩
  rw [← b2 j hj]
  exact World.cell?_of_block (hc.block b b0 (fun e => h3 b e b1))

/-- another list of roles that is like it where it matters -/
theorem Pr.roles {W : World} {g : Nat} {ρ ρ' : Nat → Nat} {ra rm : Nat} {te tm : TypeId} {cells : Value → List Value} {lv mv : Value} {L M : List Value} (h : Pr W g ρ ra rm te tm cells lv mv L M)
    (hr : ∀ b, b < W.heap.size → ρ b ≠ 0 → ρ' b = ρ b) (h1 : ra ≠ 0) (h2 : rm ≠ 0) : Pr W g ρ' ra rm te tm cells lv mv L M := by
  refine ⟨h.rl, h.rk, fun b hb => (hr b (h.rl.lt b hb).2 (by rw [h.fl b hb]; exact h1)).trans (h.fl b hb), fun b hb => (hr b (h.rk.lt b hb).2 (by rw [h.fm b hb]; exact h2)).trans (h.fm b hb), h.len, ?_⟩
  intro i u m hu hm
  obtain ⟨n, ao, cap, rfl, hn, hk⟩ := h.ent i u m hu hm
  refine ⟨n, ao, cap, rfl, hn, fun k hkn => ?_⟩
  obtain ⟨b, rfl, b0, b1, b2⟩ := hk k hkn
  exact ⟨b, rfl, b0, (hr b b0 (by rw [b1]; decide)).trans b1, b2⟩

/-- four lists more, of one mark -/
theorem Pr.taken {W W1 W2 : World} {g : Nat} {ρ ρ' : Nat → Nat} {ra rm : Nat} {te tm e : TypeId} {cells : Value → List Value} {lv mv lv' mv' v0 v1 v2 v3 m : Value} {L M : List Value} {n : Nat}
    (h : Pr W g ρ ra rm te tm cells lv mv L M) (hra : ra ≠ 8) (hrm : rm ≠ 8) (h0a : ra ≠ 0) (h0m : rm ≠ 0) (ham : ra ≠ rm)
    -- the list itself first, then its marks
    (H1 : W1.ownsRow (g + 1) te 1 lv' (L.length + 4) (L ++ [v0, v1, v2, v3])) (X1 : Chg (fun b => lv.ownBlock = some b ∨ ρ b = 1) W W1) (D1 : lv'.ownBlock = lv.ownBlock ∨ ∀ b, lv'.ownBlock = some b → W.heap.size ≤ b)
    (H2 : W2.ownsRow (g + 1) tm 1 mv' (M.length + 4) (M ++ [m, m, m, m])) (X2 : Chg (fun b => mv.ownBlock = some b ∨ ρ b = 1) W1 W2) (D2 : mv'.ownBlock = mv.ownBlock ∨ ∀ b, mv'.ownBlock = some b → W1.heap.size ≤ b)
    (hr1 : ra ≠ 1) (_hr2 : rm ≠ 1) (hρ1 : ∀ b, ρ b = 1 → b < W.heap.size)
    (C0 : MkN W (g + 1) e v0 n (cells m)) (C1 : MkN W (g + 1) e v1 (n + 1) (cells m)) (C2 : MkN W (g + 1) e v2 (n + 2) (cells m)) (C3 : MkN W (g + 1) e v3 (n + 3) (cells m)) (hn : n + 3 ≤ 10000)
    (hv : ∀ b, v0.ownBlock = some b ∨ v1.ownBlock = some b ∨ v2.ownBlock = some b ∨ v3.ownBlock = some b → ρ b = 0 ∧ ρ' b = 8)
    (hρ : ∀ b, b < W.heap.size → ρ b ≠ 0 → ρ' b = ρ b) (hρa : ∀ b, W.heap.size ≤ b → lv'.ownBlock = some b → ρ' b = ra) (hρm : ∀ b, W1.heap.size ≤ b → mv'.ownBlock = some b → ρ' b = rm) :
    Pr W2 g ρ' ra rm te tm cells lv' mv' (L ++ [v0, v1, v2, v3]) (M ++ [m, m, m, m]) := by
  have s1 := X1.size
  have k1 : ∀ b, lv'.ownBlock = some b → lv.ownBlock = some b ∨ W.heap.size ≤ b := fun b hb => by
    rcases D1 with h | h
    · exact .inl (h ▸ hb)
    · exact .inr (h b hb)
  have k2 : ∀ b, mv'.ownBlock = some b → mv.ownBlock = some b ∨ W1.heap.size ≤ b := fun b hb => by
    rcases D2 with h | h
    · exact .inl (h ▸ hb)
    · exact .inr (h b hb)
  -- a cell of a block that is no list of the book's
  have far : ∀ b o u, ρ b ≠ ra → ρ b ≠ rm → ρ b ≠ 1 → W.cell? ⟨b, o, none⟩ = some u → W2.cell? ⟨b, o, none⟩ = some u := fun b o u g1 g2 g3 hu =>
    X2.cell (X1.cell hu (fun e => e.elim (fun e => g1 (h.fl b e)) g3)) (fun e => e.elim (fun e => g2 (h.fm b e)) g3)
  have new : ∀ (u : Value) (k : Nat), MkN W (g + 1) e u k (cells m) → k ≤ 10000 → (∀ b, u.ownBlock = some b → ρ b = 0 ∧ ρ' b = 8) →
      ∃ n ao cap, u = .slice ao n cap ∧ n ≤ 10000 ∧ ∀ k, k < n → ∃ b, ao = some ⟨b, 0, none⟩ ∧ b < W2.heap.size ∧ ρ' b = 8 ∧ ∀ j, j < (cells m).length → W2.cell? ⟨b, k * (cells m).length + j, none⟩ = (cells m)[j]? := by
    intro u k hM hk hu
    obtain ⟨ao, cap, rfl⟩ := hM.shape
    refine ⟨k, ao, cap, rfl, hk, fun i hi => ?_⟩
    obtain ⟨b, rfl, _, hb2, hc⟩ := hM.cell i hi
    obtain ⟨z1, z2⟩ := hu b rfl
    refine ⟨b, rfl, Nat.lt_of_lt_of_le (Nat.lt_of_lt_of_le hb2 s1) X2.size, z2, fun j hj => ?_⟩
    obtain ⟨c, hcj⟩ : ∃ c, (cells m)[j]? = some c := ⟨_, List.getElem?_eq_getElem hj⟩
    rw [hcj]
    exact far b _ _ (by rw [z1]; exact fun e => h0a e.symm) (by rw [z1]; exact fun e => h0m e.symm) (by rw [z1]; decide) ((hc j hj).trans hcj)
  refine ⟨?_, ?_, ?_, ?_, ?_, ?_⟩
  · rw [List.length_append]
    refine X2.row H1 ?_
    intro x hx
    rintro (e | e)
    · rcases k1 x hx with h' | h'
      · exact ham ((h.fl x h').symm.trans (h.fm x e))
      · have := (h.rk.lt x e).2; omega
    · rcases k1 x hx with h' | h'
      · rw [h.fl x h'] at e; exact hr1 e
      · have := hρ1 x e; omega
  · rw [List.length_append]
    exact H2
  · intro b hb
    rcases k1 b hb with h' | h'
    · exact (hρ b (h.rl.lt b h').2 (by rw [h.fl b h']; exact h0a)).trans (h.fl b h')
    · exact hρa b h' hb
  · intro b hb
    rcases k2 b hb with h' | h'
    · exact (hρ b (h.rk.lt b h').2 (by rw [h.fm b h']; exact h0m)).trans (h.fm b h')
    · exact hρm b h' hb
  · rw [List.length_append, List.length_append, h.len]
    rfl
  · intro i u x hu hx
    by_cases hi : i < L.length
    · rw [List.getElem?_append_left hi] at hu
      rw [List.getElem?_append_left (by rw [← h.len]; exact hi)] at hx
      obtain ⟨n', ao, cap, rfl, hn', hk⟩ := h.ent i u x hu hx
      refine ⟨n', ao, cap, rfl, hn', fun k hkn => ?_⟩
      obtain ⟨b, rfl, b0, b1, b2⟩ := hk k hkn
      refine ⟨b, rfl, Nat.lt_of_lt_of_le (Nat.lt_of_lt_of_le b0 s1) X2.size, (hρ b b0 (by rw [b1]; decide)).trans b1, fun j hj => ?_⟩
      obtain ⟨c, hcj⟩ : ∃ c, (cells x)[j]? = some c := ⟨_, List.getElem?_eq_getElem hj⟩
      rw [hcj]
      exact far b _ _ (by rw [b1]; exact fun e => hra e.symm) (by rw [b1]; exact fun e => hrm e.symm) (by rw [b1]; decide) ((b2 j hj).trans hcj)
    · rw [List.getElem?_append_right (by omega)] at hu
      rw [List.getElem?_append_right (by rw [← h.len]; omega), ← h.len] at hx
      have hj : i - L.length < 4 := by
        have := (List.getElem?_eq_some_iff.1 hu).1
        simpa using this
      obtain ⟨j, hjj⟩ : ∃ j, i - L.length = j := ⟨_, rfl⟩
      rw [hjj] at hu hj hx
      match j, hj, hu, hx with
      | 0, _, hu, hx => simp at hu hx; subst hu hx; exact new _ n C0 (by omega) (fun b hb => hv b (.inl hb))
      | 1, _, hu, hx => simp at hu hx; subst hu hx; exact new _ (n + 1) C1 (by omega) (fun b hb => hv b (.inr (.inl hb)))
      | 2, _, hu, hx => simp at hu hx; subst hu hx; exact new _ (n + 2) C2 (by omega) (fun b hb => hv b (.inr (.inr (.inl hb))))
      | 3, _, hu, hx => simp at hu hx; subst hu hx; exact new _ (n + 3) C3 (by omega) (fun b hb => hv b (.inr (.inr (.inr hb))))

end Pk
end Go.Proofs.Ytdjhhnolcafkiaa
