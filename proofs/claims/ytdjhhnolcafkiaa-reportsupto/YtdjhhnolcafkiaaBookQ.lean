/- The book with all its lists; it takes a list of numbers. -/
import Derived.Test.YtdjhhnolcafkiaaBookP
namespace Go.Proofs.Ytdjhhnolcafkiaa
open Go.RowKit
namespace Pk

structure BkN (W : World) (g : Nat) (ρ : Nat → Nat) (tv tk nv nk av ak : Value) (TL TM NL NM AL AM : List Value) (nx : Int) : Prop where
  c0 : W.cell? ⟨g, 0, none⟩ = some tv
  c1 : W.cell? ⟨g, 1, none⟩ = some tk
  c2 : W.cell? ⟨g, 2, none⟩ = some nv
  c3 : W.cell? ⟨g, 3, none⟩ = some nk
  c4 : W.cell? ⟨g, 4, none⟩ = some av
  c5 : W.cell? ⟨g, 5, none⟩ = some ak
  c6 : W.cell? ⟨g, 6, none⟩ = some (.int .i64 nx)
  fz : ∀ o, W.frozen? ⟨g, o, none⟩ = false
  rg : ∀ b, ρ b = 1 ↔ b = g
  hi : ∀ b, W.heap.size ≤ b → ρ b = 0
  tp : Pr W g ρ 2 3 22 9 (fun m => [m]) tv tk TL TM
  np : Pr W g ρ 4 5 27 3 (fun m => [m]) nv nk NL NM
  ap : Pr W g ρ 6 7 37 3 (fun m => [m, m, .slice none 0 0]) av ak AL AM

theorem BkN.lt {W : World} {g : Nat} {ρ : Nat → Nat} {tv tk nv nk av ak : Value} {TL TM NL NM AL AM : List Value} {nx : Int} (h : BkN W g ρ tv tk nv nk av ak TL TM NL NM AL AM nx) : g < W.heap.size := lt_of_cell h.c0

/-- what is nobody's may turn -/
theorem BkN.chg {W W' : World} {g : Nat} {ρ : Nat → Nat} {T : Nat → Prop} {tv tk nv nk av ak : Value} {TL TM NL NM AL AM : List Value} {nx : Int} (h : BkN W g ρ tv tk nv nk av ak TL TM NL NM AL AM nx) (hc : Chg T W W') (hT : ∀ b, T b → ρ b = 0) :
    BkN W' g ρ tv tk nv nk av ak TL TM NL NM AL AM nx := by
  have hng : ¬ T g := fun e => by have := hT g e; rw [(h.rg g).2 rfl] at this; cases this
  have q : ∀ r, r ≠ 0 → ∀ b, T b → ρ b ≠ r := fun r hr b hb e => hr (e.symm.trans (hT b hb))
  exact ⟨hc.cell h.c0 hng, hc.cell h.c1 hng, hc.cell h.c2 hng, hc.cell h.c3 hng, hc.cell h.c4 hng, hc.cell h.c5 hng, hc.cell h.c6 hng, fun o => (hc.frozen (p := ⟨g, o, none⟩) h.lt hng).trans (h.fz o), h.rg, fun b hb => h.hi b (Nat.le_trans hc.size hb),
    h.tp.chg hc (q 2 (by decide)) (q 3 (by decide)) (q 8 (by decide)), h.np.chg hc (q 4 (by decide)) (q 5 (by decide)) (q 8 (by decide)), h.ap.chg hc (q 6 (by decide)) (q 7 (by decide)) (q 8 (by decide))⟩

theorem BkN.set6 {W : World} {g : Nat} {ρ : Nat → Nat} {tv tk nv nk av ak : Value} {TL TM NL NM AL AM : List Value} {nx : Int} (h : BkN W g ρ tv tk nv nk av ak TL TM NL NM AL AM nx) (ny : Int) :
    BkN (W.setCell ⟨g, 6, none⟩ (.int .i64 ny)) g ρ tv tk nv nk av ak TL TM NL NM AL AM ny := by
  have o : ∀ i u, i ≠ 6 → W.cell? ⟨g, i, none⟩ = some u → (W.setCell ⟨g, 6, none⟩ (.int .i64 ny)).cell? ⟨g, i, none⟩ = some u := fun i u hi hu => (World.cell?_setCell_other _ ⟨g, 6, none⟩ ⟨g, i, none⟩ _ (fun e => hi (by injection e with _ e2 _; exact e2.symm))).trans hu
  have hc : Chg (fun b => ρ b = 1) W (W.setCell ⟨g, 6, none⟩ (.int .i64 ny)) := (Chg.refl _ _).setCell ⟨g, 6, none⟩ (.inl ((h.rg g).2 rfl)) _
  have q : ∀ r, r ≠ 1 → ∀ b, ρ b = 1 → ρ b ≠ r := fun r hr b hb e => hr (e.symm.trans hb)
  exact ⟨o _ _ (by omega) h.c0, o _ _ (by omega) h.c1, o _ _ (by omega) h.c2, o _ _ (by omega) h.c3, o _ _ (by omega) h.c4, o _ _ (by omega) h.c5, World.cell?_setCell_same _ _ _ h.c6, fun o => by rw [World.frozen?_setCell]; exact h.fz o, h.rg, fun b hb => h.hi b (by simpa using hb),
    h.tp.chg hc (q 2 (by decide)) (q 3 (by decide)) (q 8 (by decide)), h.np.chg hc (q 4 (by decide)) (q 5 (by decide)) (q 8 (by decide)), h.ap.chg hc (q 6 (by decide)) (q 7 (by decide)) (q 8 (by decide))⟩

/-- other roles, alike where the book is -/
theorem BkN.roles {W : World} {g : Nat} {ρ ρ' : Nat → Nat} {tv tk nv nk av ak : Value} {TL TM NL NM AL AM : List Value} {nx : Int} (h : BkN W g ρ tv tk nv nk av ak TL TM NL NM AL AM nx)
    (hr : ∀ b, b < W.heap.size → ρ b ≠ 0 → ρ' b = ρ b) (h1 : ∀ b, ρ' b = 1 → ρ b = 1) (h2 : ∀ b, W.heap.size ≤ b → ρ' b = 0) : BkN W g ρ' tv tk nv nk av ak TL TM NL NM AL AM nx :=
  ⟨h.c0, h.c1, h.c2, h.c3, h.c4, h.c5, h.c6, h.fz, fun b => ⟨fun e => (h.rg b).1 (h1 b e), fun e => by subst e; exact (hr b h.lt (by rw [(h.rg b).2 rfl]; decide)).trans ((h.rg b).2 rfl)⟩, h2,
    h.tp.roles hr (by decide) (by decide), h.np.roles hr (by decide) (by decide), h.ap.roles hr (by decide) (by decide)⟩

/-- the roles behind a taking -/
def roleOf (w : World) (ρ : Nat → Nat) (ra rm : Nat) (lv mv v0 v1 v2 v3 : Value) (b : Nat) : Nat :=
  if lv.ownBlock = some b then ra else if mv.ownBlock = some b then rm
  else if v0.ownBlock = some b ∨ v1.ownBlock = some b ∨ v2.ownBlock = some b ∨ v3.ownBlock = some b then 8
  else if b < w.heap.size then ρ b else 0

/-- the roles are what they must be -/
theorem role_facts {w W W1 W2 : World} {g : Nat} {ρ : Nat → Nat} {ra rm : Nat} {te tm e : TypeId} {cells : Value → List Value} {lv mv lv' mv' v0 v1 v2 v3 m : Value} {L M : List Value} {n : Nat}
    (h : Pr W g ρ ra rm te tm cells lv mv L M) (hw : w.heap.size ≤ W.heap.size) (hi : ∀ b, w.heap.size ≤ b → ρ b = 0) (hra : 1 < ra) (hrm : 1 < rm)
    (H1 : W1.ownsRow (g + 1) te 1 lv' (L.length + 4) (L ++ [v0, v1, v2, v3])) (s1 : W.heap.size ≤ W1.heap.size) (D1 : lv'.ownBlock = lv.ownBlock ∨ ∀ b, lv'.ownBlock = some b → W.heap.size ≤ b)
    (H2 : W2.ownsRow (g + 1) tm 1 mv' (M.length + 4) (M ++ [m, m, m, m])) (s2 : W1.heap.size ≤ W2.heap.size) (D2 : mv'.ownBlock = mv.ownBlock ∨ ∀ b, mv'.ownBlock = some b → W1.heap.size ≤ b)
    (C0 : MkN W (g + 1) e v0 n (cells m)) (C1 : MkN W (g + 1) e v1 (n + 1) (cells m)) (C2 : MkN W (g + 1) e v2 (n + 2) (cells m)) (C3 : MkN W (g + 1) e v3 (n + 3) (cells m))
    (hv0 : ∀ b, v0.ownBlock = some b → ρ b = 0) (E1 : v1.ownBlock = v0.ownBlock ∨ ∀ b, v1.ownBlock = some b → w.heap.size ≤ b) (E2 : v2.ownBlock = v0.ownBlock ∨ ∀ b, v2.ownBlock = some b → w.heap.size ≤ b) (E3 : v3.ownBlock = v0.ownBlock ∨ ∀ b, v3.ownBlock = some b → w.heap.size ≤ b) (hg : ∀ b, ρ b = 1 ↔ b = g) (hgw : g < w.heap.size) :
    (∀ b, v0.ownBlock = some b ∨ v1.ownBlock = some b ∨ v2.ownBlock = some b ∨ v3.ownBlock = some b → ρ b = 0 ∧ roleOf w ρ ra rm lv' mv' v0 v1 v2 v3 b = 8) ∧
    (∀ b, b < W.heap.size → ρ b ≠ 0 → roleOf w ρ ra rm lv' mv' v0 v1 v2 v3 b = ρ b) ∧
    (∀ b, W.heap.size ≤ b → lv'.ownBlock = some b → roleOf w ρ ra rm lv' mv' v0 v1 v2 v3 b = ra) ∧ (∀ b, W1.heap.size ≤ b → mv'.ownBlock = some b → roleOf w ρ ra rm lv' mv' v0 v1 v2 v3 b = rm) ∧
    (∀ b, roleOf w ρ ra rm lv' mv' v0 v1 v2 v3 b = 1 ↔ b = g) ∧ (∀ b, W2.heap.size ≤ b → roleOf w ρ ra rm lv' mv' v0 v1 v2 v3 b = 0) ∧
    (∀ b, b < w.heap.size → v0.ownBlock ≠ some b → ρ b = 0 → roleOf w ρ ra rm lv' mv' v0 v1 v2 v3 b = 0) := by
  have k1 : ∀ b, lv'.ownBlock = some b → (lv.ownBlock = some b ∧ ρ b = ra) ∨ W.heap.size ≤ b := fun b hb => by
    rcases D1 with h' | h'
    · exact .inl ⟨h' ▸ hb, h.fl b (h' ▸ hb)⟩
    · exact .inr (h' b hb)
  have k2 : ∀ b, mv'.ownBlock = some b → (mv.ownBlock = some b ∧ ρ b = rm) ∨ W1.heap.size ≤ b := fun b hb => by
    rcases D2 with h' | h'
    · exact .inl ⟨h' ▸ hb, h.fm b (h' ▸ hb)⟩
    · exact .inr (h' b hb)
  have kv : ∀ b, v0.ownBlock = some b ∨ v1.ownBlock = some b ∨ v2.ownBlock = some b ∨ v3.ownBlock = some b → ρ b = 0 ∧ b < W.heap.size ∧ g + 1 ≤ b ∧ (v0.ownBlock = some b ∨ w.heap.size ≤ b) := by
    have one : ∀ u : Value, (u.ownBlock = v0.ownBlock ∨ ∀ b, u.ownBlock = some b → w.heap.size ≤ b) → ∀ b, u.ownBlock = some b → ρ b = 0 ∧ (v0.ownBlock = some b ∨ w.heap.size ≤ b) := fun u hu b hb => by
      rcases hu with h' | h'
      · exact ⟨hv0 b (h' ▸ hb), .inl (h' ▸ hb)⟩
      · exact ⟨hi b (h' b hb), .inr (h' b hb)⟩
    rintro b (hb | hb | hb | hb)
    · exact ⟨hv0 b hb, (World.ownsRow.lt C0 b hb).2, (World.ownsRow.lt C0 b hb).1, .inl hb⟩
    · exact ⟨(one v1 E1 b hb).1, (World.ownsRow.lt C1 b hb).2, (World.ownsRow.lt C1 b hb).1, (one v1 E1 b hb).2⟩
    · exact ⟨(one v2 E2 b hb).1, (World.ownsRow.lt C2 b hb).2, (World.ownsRow.lt C2 b hb).1, (one v2 E2 b hb).2⟩
    · exact ⟨(one v3 E3 b hb).1, (World.ownsRow.lt C3 b hb).2, (World.ownsRow.lt C3 b hb).1, (one v3 E3 b hb).2⟩
  have n1 : ∀ b, ρ b = 0 → b < W.heap.size → lv'.ownBlock ≠ some b := fun b h0 hb e => by
    rcases k1 b e with h' | h'
    · omega
    · omega
  have n2 : ∀ b, ρ b = 0 → b < W1.heap.size → mv'.ownBlock ≠ some b := fun b h0 hb e => by
    rcases k2 b e with h' | h'
    · omega
    · omega
  refine ⟨?_, ?_, ?_, ?_, ?_, ?_, ?_⟩
  · intro b hb
    obtain ⟨z1, z2, _⟩ := kv b hb
    refine ⟨z1, ?_⟩
    unfold roleOf
    rw [if_neg (n1 b z1 z2), if_neg (n2 b z1 (by omega)), if_pos hb]
  · intro b hb hne
    unfold roleOf
    by_cases e1 : lv'.ownBlock = some b
    · rw [if_pos e1]
      rcases k1 b e1 with h' | h'
      · exact h'.2.symm
      · omega
    · rw [if_neg e1]
      by_cases e2 : mv'.ownBlock = some b
      · rw [if_pos e2]
        rcases k2 b e2 with h' | h'
        · exact h'.2.symm
        · omega
      · rw [if_neg e2, if_neg (fun e => hne (kv b e).1)]
        by_cases e3 : b < w.heap.size
        · rw [if_pos e3]
        · exact absurd (hi b (by omega)) hne
  · intro b _ hb
    unfold roleOf
    rw [if_pos hb]
  · intro b hb1 hb
    unfold roleOf
    rw [if_neg (fun e => by have := (H1.lt b e).2; omega), if_pos hb]
  · intro b
    constructor
    · intro e
      unfold roleOf at e
      split at e
      · omega
      · split at e
        · omega
        · split at e
          · cases e
          · split at e
            · exact (hg b).1 e
            · cases e
    · intro e
      subst e
      unfold roleOf
      rw [if_neg (fun e => by have := (H1.lt b e).1; omega), if_neg (fun e => by have := (H2.lt b e).1; omega), if_neg (fun e => by have := (kv b e).2.2.1; omega), if_pos hgw]
      exact (hg b).2 rfl
  · intro b hb
    unfold roleOf
    rw [if_neg (fun e => by have := (H1.lt b e).2; omega), if_neg (fun e => by have := (H2.lt b e).2; omega), if_neg (fun e => by have := (kv b e).2.1; omega), if_neg (by omega)]
  · intro b hb hne h0
    unfold roleOf
    rw [if_neg (n1 b h0 (by omega)), if_neg (n2 b h0 (by omega)), if_neg (fun e => by rcases (kv b e).2.2.2 with h' | h'; exact hne h'; omega), if_pos hb]
    exact h0

end Pk
end Go.Proofs.Ytdjhhnolcafkiaa
