/- The book with all its lists: texts, numbers, askings: plain facts. Each block has a role: 0 nobody's, 1 the book, 2 to 7 its own lists, 8 a list that it was handed. -/
import Derived.Test.YtdjhhnolcafkiaaOwns
namespace Go.Proofs.Ytdjhhnolcafkiaa
open Go.RowKit
namespace Pk

/-- n elements, each of the cells cs -/
def rep (n : Nat) (cs : List Value) : List Value := (List.replicate n cs).flatten
theorem rep_length (n : Nat) (cs : List Value) : (rep n cs).length = n * cs.length := by
  unfold rep
  induction n with
  | zero => simp
  | succ n ih => rw [List.replicate_succ, List.flatten_cons, List.length_append, ih, Nat.succ_mul]; omega
theorem rep_add (n m : Nat) (cs : List Value) : rep (n + m) cs = rep n cs ++ rep m cs := by
  unfold rep
  rw [← List.replicate_append_replicate, List.flatten_append]
theorem rep_take (n k : Nat) (cs : List Value) (h : k ≤ n) : (rep n cs).take (k * cs.length) = rep k cs := by
  obtain ⟨m, rfl⟩ : ∃ m, n = k + m := ⟨n - k, by omega⟩
  rw [rep_add, List.take_left' (rep_length k cs)]
theorem rep_at (n : Nat) (cs : List Value) : ∀ k j, k < n → j < cs.length → (rep n cs)[k * cs.length + j]? = cs[j]? := by
  induction n with
  | zero => intro k j h; omega
  | succ n ih =>
    intro k j hk hj
    rw [show rep (n + 1) cs = cs ++ rep n cs by unfold rep; rw [List.replicate_succ, List.flatten_cons]]
    cases k with
    | zero => rw [Nat.zero_mul, Nat.zero_add, List.getElem?_append_left hj]
    | succ k =>
      rw [List.getElem?_append_right (by rw [Nat.succ_mul]; omega), show (k + 1) * cs.length + j - cs.length = k * cs.length + j by rw [Nat.succ_mul]; omega]
      exact ih k j (by omega) hj

def MkN (W : World) (base e : Nat) (v : Value) (n : Nat) (cs : List Value) : Prop := W.ownsRow base e cs.length v n (rep n cs)

theorem MkN.shape {W : World} {base e n : Nat} {v : Value} {cs : List Value} (h : MkN W base e v n cs) : ∃ ao cap, v = .slice ao n cap := by
  obtain ⟨_, h2 | ⟨g, cap, cur, rfl, _⟩⟩ := h
  · exact ⟨none, 0, by rw [h2.1, h2.2]⟩
  · exact ⟨_, _, rfl⟩
theorem MkN.cell {W : World} {base e n cap : Nat} {ao : Option Addr} {cs : List Value} (h : MkN W base e (.slice ao n cap) n cs) (k : Nat) (hk : k < n) :
    ∃ b, ao = some ⟨b, 0, none⟩ ∧ base ≤ b ∧ b < W.heap.size ∧ ∀ j, j < cs.length → W.cell? ⟨b, k * cs.length + j, none⟩ = cs[j]? := by
  have h' := h
  obtain ⟨h1, h2 | ⟨g, cap', cur, e', hb, hg, r⟩⟩ := h
  · obtain ⟨_, h0⟩ := h2; omega
  · simp only [Value.slice.injEq] at e'
    obtain ⟨rfl, _, rfl⟩ := e'
    refine ⟨g, rfl, hb, (World.ownsRow.lt h' g rfl).2, fun j hj => ?_⟩
    rw [World.ownsRow.cellAt h' (k * cs.length + j) (by have := Nat.mul_le_mul_right cs.length (show k + 1 ≤ n from hk); rw [Nat.succ_mul] at this; omega), rep_at n cs k j hk hj]
theorem MkN.chg {T : Nat → Prop} {a b : World} {base e n : Nat} {v : Value} {cs : List Value} (h : MkN a base e v n cs) (hc : Chg T a b) (hn : ∀ x, v.ownBlock = some x → ¬ T x) : MkN b base e v n cs := by
  have hl := World.ownsRow.lt h
  obtain ⟨h1, h2 | ⟨g, cap, cur, rfl, hb, hh, r⟩⟩ := h
  · exact ⟨h1, .inl h2⟩
  · exact ⟨h1, .inr ⟨g, cap, cur, rfl, hb, (hc.block g (hl g rfl).2 (hn g rfl)).trans hh, r⟩⟩

/-- append of like elements: whatever lists of that kind there were, they are still -/
theorem append_like (w : World) (base : Nat) (t e ty : TypeId) (ht : Try.prog.underlying t = some (.slice e)) (i : TypeInfo) (z : Value) (bytes : Nat) (hi : Try.prog.info? e = some i) (hz : i.zero = some z) (cs : List Value) (hsize : i.size = cs.length) (hby : i.bytes = bytes) (hbb : bytes ≤ 100) (hzs : z.cells.size = cs.length) (hpos : 0 < cs.length)
    (h1 : ∀ u ∈ cs, u.oneCell' = true) (v : Value) (n j : Nat) (hown : MkN w base e v n cs) (ad : Addr) (c : Nat) (hnews : ∀ k u, (rep j cs)[k]? = some u → w.cell? (ad.add k) = some u)
    (hn : n + j ≤ 10000) (hbase : base ≤ w.heap.size) :
    ∃ v' w', (Builtin.append_ #[t, t] ty #[v, .slice (some ad) j c]).run Try.prog w = .ok v' w' ∧ MkN w' base e v' (n + j) cs ∧ (∀ u k, k ≤ n + j → MkN w base e u k cs → MkN w' base e u k cs) ∧ w.grownBy w' v.ownBlock ∧
      (v'.ownBlock = v.ownBlock ∨ v'.ownBlock = some w.heap.size) := by
  have hone : ∀ u ∈ rep j cs, u.oneCell' = true := fun u hu => by
    unfold rep at hu
    obtain ⟨l, hl, hul⟩ := List.mem_flatten.1 hu
    rw [List.mem_replicate] at hl
    rw [hl.2] at hul
    exact h1 u hul
  have hnb : (n + j) * bytes ≤ 10000 * 100 := Nat.mul_le_mul hn hbb
  obtain ⟨v', w', hr, h2, h3, h4, h5⟩ := run_append_own_at (P := Try.prog) w base t ty e i z cs.length bytes ht hi hz hsize hby hzs hpos v n (rep n cs) hown ad j c (rep j cs)
    (rep_length j cs) hnews hone (by unfold maxLen; omega) (by omega) hbase
  have h2' : MkN w' base e v' (n + j) cs := by
    unfold MkN
    rw [rep_add]
    exact h2
  refine ⟨v', w', hr, h2', ?_, h3, h5⟩
  intro u k hk hu
  by_cases hb : u.ownBlock = none ∨ u.ownBlock ≠ v.ownBlock
  · exact World.ownsRow.kept hu h3 hb
  · have hb1 : u.ownBlock = v.ownBlock := by
      rcases Decidable.em (u.ownBlock = v.ownBlock) with h | h
      · exact h
      · exact absurd (.inr h) hb
    have hb2 : u.ownBlock ≠ none := fun e => hb (.inl e)
    obtain ⟨hu1, hu2 | ⟨g, cap, cur, rfl, hbg, hg, hnc, hcm, hcs, hct⟩⟩ := hu
    · rw [hu2.1] at hb2; exact absurd rfl hb2
    · have hvg : v.ownBlock = some g := hb1.symm
      have hglt : g < w.heap.size := (World.ownsRow.lt hown g hvg).2
      obtain ⟨_, hv2 | ⟨g', capv, curv, rfl, hbv, hgv, hncv, hcmv, hcsv, hctv⟩⟩ := hown
      · rw [hv2.1] at hvg; cases hvg
      · have eg : g' = g := by simpa [Value.ownBlock] using hvg
        subst eg
        rw [hg] at hgv
        simp only [Option.some.injEq, Obj.cells.injEq, and_true] at hgv
        obtain ⟨rfl, _⟩ := hgv
        have hcap : cap = capv := by
          have : cap * cs.length = capv * cs.length := by rw [← hcs, ← hcsv]
          exact Nat.eq_of_mul_eq_mul_right hpos this
        rcases h5 with h5 | h5
        · obtain ⟨_, hw2 | ⟨g2, cap2, cur2, rfl, hb2', hg2, hnc2, hcm2, hcs2, hct2⟩⟩ := h2'
          · rw [hw2.1] at h5; cases h5
          · have eg2 : g2 = g' := by simpa [Value.ownBlock] using h5
            subst eg2
            by_cases hroom : n + j ≤ capv
            · have hr2 := run_append_room (P := Try.prog) w t ty e i ht hi g2 n capv cur hg ad j c (rep j cs) (by rw [hsize, rep_length]) hnews hone hroom (by rw [hsize, rep_length, hcsv, ← Nat.add_mul]; exact Nat.mul_le_mul_right _ hroom)
              rw [hr] at hr2
              simp only [Result.ok.injEq, Value.slice.injEq] at hr2
              have hcc : cap2 = capv := hr2.1.2.2
              refine ⟨hu1, .inr ⟨g2, cap, cur2, rfl, hbg, hg2, hnc, hcm, by rw [hcs2, hcc, hcap], ?_⟩⟩
              have := congrArg (List.take (k * cs.length)) hct2
              rw [List.take_take, Nat.min_eq_left (Nat.mul_le_mul_right _ hk)] at this
              rw [this, rep_take _ _ _ hk]
            · exfalso
              have hr2 := run_append_grow (P := Try.prog) w t ty e i z ht hi hz ⟨g2, 0, none⟩ n capv (rep n cs) (by rw [hsize, rep_length]) (World.ownsRow.cells (e := e) (size := cs.length) (base := base) (v := .slice (some ⟨g2, 0, none⟩) n capv) (n := n) ⟨rep_length n cs, .inr ⟨g2, capv, cur, rfl, hbv, hg, hncv, hcmv, hcsv, hctv⟩⟩ rfl) ad j c (rep j cs) (by rw [hsize, rep_length]) hnews (by omega) (by omega) (by rw [hby]; exact growslice_fits (by omega) (by omega))
              rw [hr] at hr2
              simp only [Result.ok.injEq, Value.slice.injEq, Option.some.injEq, Addr.mk.injEq] at hr2
              omega
        · by_cases hroom : n + j ≤ capv
          · exfalso
            have hr2 := run_append_room (P := Try.prog) w t ty e i ht hi g' n capv cur hg ad j c (rep j cs) (by rw [hsize, rep_length]) hnews hone hroom (by rw [hsize, rep_length, hcsv, ← Nat.add_mul]; exact Nat.mul_le_mul_right _ hroom)
            rw [hr] at hr2
            simp only [Result.ok.injEq] at hr2
            rw [hr2.1] at h5
            simp [Value.ownBlock] at h5
            omega
          · have hr2 := run_append_grow (P := Try.prog) w t ty e i z ht hi hz ⟨g', 0, none⟩ n capv (rep n cs) (by rw [hsize, rep_length]) (World.ownsRow.cells (e := e) (size := cs.length) (base := base) (v := .slice (some ⟨g', 0, none⟩) n capv) (n := n) ⟨rep_length n cs, .inr ⟨g', capv, cur, rfl, hbv, hg, hncv, hcmv, hcsv, hctv⟩⟩ rfl) ad j c (rep j cs) (by rw [hsize, rep_length]) hnews (by omega) (by omega) (by rw [hby]; exact growslice_fits (by omega) (by omega))
            rw [hr] at hr2
            simp only [Result.ok.injEq] at hr2
            rw [hr2.2]
            exact World.ownsRow.alloc (World.ownsRow.drew ⟨hu1, .inr ⟨g', cap, cur, rfl, hbg, hg, hnc, hcm, hcs, hct⟩⟩) _

end Pk
end Go.Proofs.Ytdjhhnolcafkiaa
