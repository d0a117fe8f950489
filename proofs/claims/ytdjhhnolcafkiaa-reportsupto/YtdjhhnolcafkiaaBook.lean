/- The book of lists that came out: plain facts on what it holds. -/
import Derived.Test.YtdjhhnolcafkiaaOwnI
import Derived.Test.YtdjhhnolcafkiaaChecked
import Derived.WalkSpells
import Derived.WalkLawsBesides
import Derived.WalkKit
import Derived.Lib.AppendStr
import Derived.Laws.BytesString
import Derived.Maps.AppendAt
import Derived.Laws.OwnMore
namespace Go.Proofs.Ytdjhhnolcafkiaa
open Go.RowKit
namespace Pk

/-- only the blocks T, and new ones, have turned -/
structure Chg (T : Nat → Prop) (W W' : World) : Prop where
  os : W'.os = W.os
  tape : W'.tape = W.tape
  output : W'.output = W.output
  size : W.heap.size ≤ W'.heap.size
  block : ∀ k, k < W.heap.size → ¬ T k → W'.heap[k]? = W.heap[k]?

theorem Chg.refl (T : Nat → Prop) (W : World) : Chg T W W := ⟨rfl, rfl, rfl, Nat.le_refl _, fun _ _ _ => rfl⟩
theorem Chg.trans {T T' : Nat → Prop} {a b c : World} (h : Chg T a b) (k : Chg T' b c) (hT : ∀ x, x < a.heap.size → T' x → T x) : Chg T a c :=
  ⟨k.os.trans h.os, k.tape.trans h.tape, k.output.trans h.output, Nat.le_trans h.size k.size, fun x hx hn => (k.block x (Nat.lt_of_lt_of_le hx h.size) (fun e => hn (hT x hx e))).trans (h.block x hx hn)⟩
theorem Chg.mono {T T' : Nat → Prop} {a b : World} (h : Chg T a b) (hT : ∀ x, x < a.heap.size → T x → T' x) : Chg T' a b :=
  ⟨h.os, h.tape, h.output, h.size, fun x hx hn => h.block x hx (fun e => hn (hT x hx e))⟩
theorem Chg.ofBelow {T : Nat → Prop} {a b : World} (h : Below a.heap.size a b) : Chg T a b := ⟨h.os, h.tape, h.output, h.size, fun x hx _ => h.block x hx⟩
theorem Chg.ofGrown {a b : World} {row : Option Nat} (h : a.grownBy b row) : Chg (fun x => row = some x) a b := ⟨h.os, h.tape, h.output, h.size, fun x hx hn => h.block x hx (fun e => hn e.symm)⟩
theorem Chg.below {T : Nat → Prop} {a b : World} {B : Nat} (h : Chg T a b) (hB : B ≤ a.heap.size) (hT : ∀ x, T x → B ≤ x) : Below B a b :=
  ⟨h.os, h.tape, h.output, h.size, fun x hx => h.block x (by omega) (fun e => by have := hT x e; omega)⟩
theorem Chg.alloc {T : Nat → Prop} {a b : World} (h : Chg T a b) (o : Obj) : Chg T a (b.alloc o) :=
  h.trans (Chg.ofBelow (T := T) ((Below.refl _ _).alloc (Nat.le_refl _) o)) (fun _ _ e => e)
theorem Chg.setCell {T : Nat → Prop} {a b : World} (h : Chg T a b) (p : Addr) (hp : T p.block ∨ a.heap.size ≤ p.block) (u : Value) : Chg T a (b.setCell p u) :=
  h.trans (T' := fun x => x = p.block) ⟨rfl, rfl, rfl, by simp, fun x _ hn => heap_setCell_other b p x u (fun e => hn e)⟩ (fun x hx e => by subst e; rcases hp with h | h; exact h; omega)
theorem Chg.drew {T : Nat → Prop} {a b : World} (h : Chg T a b) : Chg T a b.drew := ⟨h.os, h.tape, h.output, h.size, h.block⟩
theorem Chg.cell {T : Nat → Prop} {a b : World} (h : Chg T a b) {p : Addr} {u : Value} (hp : a.cell? p = some u) (hn : ¬ T p.block) : b.cell? p = some u :=
  (World.cell?_of_block (h.block p.block (lt_of_cell hp) hn)).trans hp
theorem Chg.frozen {T : Nat → Prop} {a b : World} (h : Chg T a b) {p : Addr} (hl : p.block < a.heap.size) (hn : ¬ T p.block) : b.frozen? p = a.frozen? p :=
  World.frozen?_of_block (h.block p.block hl hn)
theorem Chg.row {T : Nat → Prop} {a b : World} {base e n : Nat} {v : Value} {xs : List Value} (h : Chg T a b) (ho : a.ownsRow base e 1 v n xs) (hn : ∀ x, v.ownBlock = some x → ¬ T x) : b.ownsRow base e 1 v n xs := by
  have hl := ho.lt
  obtain ⟨h1, h2 | ⟨g, cap, cur, rfl, hb, hh, r⟩⟩ := ho
  · exact ⟨h1, .inl h2⟩
  · exact ⟨h1, .inr ⟨g, cap, cur, rfl, hb, (h.block g (hl g rfl).2 (hn g rfl)).trans hh, r⟩⟩

/-- a list of the caller's, all of one mark -/
def Mk (W : World) (base : Nat) (v : Value) (n : Nat) (m : Int) : Prop := W.ownsRow base 3 1 v n (List.replicate n (.int .i64 m))

theorem Mk.chg {T : Nat → Prop} {a b : World} {base n : Nat} {v : Value} {m : Int} (h : Mk a base v n m) (hc : Chg T a b) (hn : ∀ x, v.ownBlock = some x → ¬ T x) : Mk b base v n m := hc.row h hn
theorem Mk.shape {W : World} {base n : Nat} {v : Value} {m : Int} (h : Mk W base v n m) : ∃ ao cap, v = .slice ao n cap := by
  obtain ⟨_, h2 | ⟨g, cap, cur, rfl, _⟩⟩ := h
  · exact ⟨none, 0, by rw [h2.1, h2.2]⟩
  · exact ⟨_, _, rfl⟩
theorem Mk.cell {W : World} {base n cap : Nat} {ao : Option Addr} {m : Int} (h : Mk W base (.slice ao n cap) n m) (k : Nat) (hk : k < n) : ∃ b, ao = some ⟨b, 0, none⟩ ∧ base ≤ b ∧ b < W.heap.size ∧ W.cell? ⟨b, 0 + k, none⟩ = some (.int .i64 m) := by
  obtain ⟨h1, h2 | ⟨g, cap', cur, e, hb, hg, hn, hc, hs, ht⟩⟩ := h
  · obtain ⟨_, h0⟩ := h2; omega
  · simp only [Value.slice.injEq] at e
    obtain ⟨rfl, _, rfl⟩ := e
    have hM : Mk W base (.slice (some ⟨g, 0, none⟩) n cap) n m := ⟨h1, .inr ⟨g, cap, cur, rfl, hb, hg, hn, hc, hs, ht⟩⟩
    have h3 := World.ownsRow.cellAt hM k (by omega)
    refine ⟨g, rfl, hb, (World.ownsRow.lt hM g rfl).2, ?_⟩
    rw [Nat.zero_add, h3]
    simp [hk]

/-- append of marks: whatever lists of that mark there were, they are still -/
theorem append_marks (w : World) (base : Nat) (ty : TypeId) (i : TypeInfo) (hi : Try.prog.info? 3 = some i) (hz : i.zero = some (.int .i64 0)) (hsize : i.size = 1) (hby : i.bytes = 8)
    (v : Value) (n j : Nat) (m : Int) (hown : Mk w base v n m) (ad : Addr) (c : Nat) (hnews : ∀ k u, (List.replicate j (Value.int .i64 m))[k]? = some u → w.cell? (ad.add k) = some u)
    (hn : n + j ≤ 100) (hbase : base ≤ w.heap.size) :
    ∃ v' w', (Builtin.append_ #[27, 27] ty #[v, .slice (some ad) j c]).run Try.prog w = .ok v' w' ∧ Mk w' base v' (n + j) m ∧ (∀ u k, k ≤ n + j → Mk w base u k m → Mk w' base u k m) ∧ w.grownBy w' v.ownBlock ∧
      (v'.ownBlock = v.ownBlock ∨ v'.ownBlock = some w.heap.size) := by
  obtain ⟨v', w', hr, h2, h3, h4, h5⟩ := run_append_own_at (P := Try.prog) w base 27 ty 3 i (.int .i64 0) 1 8 Try.underlying27 hi hz hsize hby rfl (by decide) v n (List.replicate n (.int .i64 m)) hown ad j c (List.replicate j (.int .i64 m))
    (by simp) hnews (by intro u hu; rw [List.mem_replicate] at hu; rw [hu.2]; rfl) (by unfold maxLen; omega) (by omega) hbase
  have h2' : Mk w' base v' (n + j) m := by
    unfold Mk
    rw [← List.replicate_append_replicate]
    exact h2
  refine ⟨v', w', hr, h2', ?_, h3, h5⟩
  intro u k hk hu
  by_cases hb : u.ownBlock = none ∨ u.ownBlock ≠ v.ownBlock
  · exact World.ownsRow.kept hu h3 hb
  · have hb1 : u.ownBlock = v.ownBlock := by
      rcases Decidable.em (u.ownBlock = v.ownBlock) with h | h
      · exact h
      · exact absurd (.inr h) hb
    have hb2 : u.ownBlock ≠ none := fun e => hb (.inl e)
    obtain ⟨hu1, hu2 | ⟨g, cap, cur, rfl, hbg, hg, hnc, hcm, hcs, hct⟩⟩ := hu
    · rw [hu2.1] at hb2; exact absurd rfl hb2
    · have hvg : v.ownBlock = some g := hb1.symm
      have hglt : g < w.heap.size := (World.ownsRow.lt hown g hvg).2
      obtain ⟨_, hv2 | ⟨g', capv, curv, rfl, hbv, hgv, hncv, hcmv, hcsv, hctv⟩⟩ := hown
      · rw [hv2.1] at hvg; cases hvg
      · have eg : g' = g := by simpa [Value.ownBlock] using hvg
        subst eg
        rw [hg] at hgv
        simp only [Option.some.injEq, Obj.cells.injEq, and_true] at hgv
        obtain ⟨rfl, _⟩ := hgv
        rcases h5 with h5 | h5
        · obtain ⟨_, hw2 | ⟨g2, cap2, cur2, rfl, hb2', hg2, hnc2, hcm2, hcs2, hct2⟩⟩ := h2'
          · rw [hw2.1] at h5; cases h5
          · have eg2 : g2 = g' := by simpa [Value.ownBlock] using h5
            subst eg2
            by_cases hroom : n + j ≤ capv
            · have hr2 := run_append_room (P := Try.prog) w 27 ty 3 i Try.underlying27 hi g2 n capv cur hg ad j c (List.replicate j (.int .i64 m)) (by rw [hsize]; simp) hnews (by intro u hu; rw [List.mem_replicate] at hu; rw [hu.2]; rfl) hroom (by rw [hsize, List.length_replicate]; omega)
              rw [hr] at hr2
              simp only [Result.ok.injEq, Value.slice.injEq] at hr2
              have hcc : cap2 = capv := hr2.1.2.2
              refine ⟨hu1, .inr ⟨g2, cap, cur2, rfl, hbg, hg2, hnc, hcm, by omega, ?_⟩⟩
              rw [Nat.mul_one] at hct2 ⊢
              have := congrArg (List.take k) hct2
              rw [List.take_take, Nat.min_eq_left hk] at this
              rw [this, List.take_replicate, Nat.min_eq_left hk]
            · exfalso
              have hr2 := run_append_grow (P := Try.prog) w 27 ty 3 i (.int .i64 0) Try.underlying27 hi hz ⟨g2, 0, none⟩ n capv (List.replicate n (.int .i64 m)) (by rw [hsize]; simp) (World.ownsRow.cells (e := 3) (size := 1) (base := base) (v := .slice (some ⟨g2, 0, none⟩) n capv) (n := n) ⟨by simp, .inr ⟨g2, capv, cur, rfl, hbv, hg, hncv, hcmv, hcsv, hctv⟩⟩ rfl) ad j c (List.replicate j (.int .i64 m)) (by rw [hsize]; simp) hnews (by omega) (by omega) (by rw [hby]; exact growslice_fits (by omega) (by omega))
              rw [hr] at hr2
              simp only [Result.ok.injEq, Value.slice.injEq, Option.some.injEq, Addr.mk.injEq] at hr2
              omega
        · by_cases hroom : n + j ≤ capv
          · exfalso
            have hr2 := run_append_room (P := Try.prog) w 27 ty 3 i Try.underlying27 hi g' n capv cur hg ad j c (List.replicate j (.int .i64 m)) (by rw [hsize]; simp) hnews (by intro u hu; rw [List.mem_replicate] at hu; rw [hu.2]; rfl) hroom (by rw [hsize, List.length_replicate]; omega)
            rw [hr] at hr2
            simp only [Result.ok.injEq] at hr2
            rw [hr2.1] at h5
            simp [Value.ownBlock] at h5
            omega
          · have hr2 := run_append_grow (P := Try.prog) w 27 ty 3 i (.int .i64 0) Try.underlying27 hi hz ⟨g', 0, none⟩ n capv (List.replicate n (.int .i64 m)) (by rw [hsize]; simp) (World.ownsRow.cells (e := 3) (size := 1) (base := base) (v := .slice (some ⟨g', 0, none⟩) n capv) (n := n) ⟨by simp, .inr ⟨g', capv, cur, rfl, hbv, hg, hncv, hcmv, hcsv, hctv⟩⟩ rfl) ad j c (List.replicate j (.int .i64 m)) (by rw [hsize]; simp) hnews (by omega) (by omega) (by rw [hby]; exact growslice_fits (by omega) (by omega))
            rw [hr] at hr2
            simp only [Result.ok.injEq] at hr2
            rw [hr2.2]
            exact World.ownsRow.alloc (World.ownsRow.drew ⟨hu1, .inr ⟨g', cap, cur, rfl, hbg, hg, hnc, hcm, hcs, hct⟩⟩) _

end Pk
end Go.Proofs.Ytdjhhnolcafkiaa
