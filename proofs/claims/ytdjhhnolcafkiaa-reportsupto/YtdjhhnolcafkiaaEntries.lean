/- wire.makeEntries: the entries of an asking. -/
import Derived.Test.YtdjhhnolcafkiaaTake
import Derived.Test.YtdjhhnolcafkiaaReadStem
import Derived.Test.YtdjhhnolcafkiaaOwns
namespace Go.Proofs.Ytdjhhnolcafkiaa
open Go.RowKit
namespace Pk

/-- one more number -/
def pushE (E : List (Nat × Nat)) (n : Nat) : List (Nat × Nat) :=
  match E.getLast? with
  | some (f, a) => if 1 ≤ stepsTo n f ∧ stepsTo n f ≤ 16 then E.dropLast ++ [(f, a ||| 2 ^ (stepsTo n f - 1))] else E ++ [(n, 0)]
  | none => [(n, 0)]
def entriesF (l : List Int) : List (Nat × Nat) := l.foldl (fun E n => pushE E n.toNat) []
def flatE (E : List (Nat × Nat)) : List Value := E.flatMap fun p => [.int .u16 p.1, .int .u16 p.2]

theorem flatE_length (E : List (Nat × Nat)) : (flatE E).length = E.length * 2 := by
  induction E with
  | nil => rfl
  | cons p E ih => rw [show flatE (p :: E) = .int .u16 p.1 :: .int .u16 p.2 :: flatE E from rfl, List.length_cons, List.length_cons, ih, List.length_cons]; omega
theorem flatE_snoc (E : List (Nat × Nat)) (p : Nat × Nat) : flatE (E ++ [p]) = flatE E ++ [.int .u16 p.1, .int .u16 p.2] := by simp [flatE]
theorem flatE_set (E : List (Nat × Nat)) (f a c : Nat) : (flatE (E ++ [(f, a)])).set (E.length * 2 + 1) (.int .u16 c) = flatE (E ++ [(f, c)]) := by
  rw [flatE_snoc, flatE_snoc, List.set_append_right _ _ (by rw [flatE_length]; omega), flatE_length]
  congr 1
  rw [show E.length * 2 + 1 - E.length * 2 = 1 by omega]
  rfl
theorem flatE_fst (E : List (Nat × Nat)) (f a : Nat) : (flatE (E ++ [(f, a)]))[E.length * 2]? = some (.int .u16 f) := by
  rw [flatE_snoc, List.getElem?_append_right (by rw [flatE_length]; omega), flatE_length, Nat.sub_self]
  rfl
theorem flatE_snd (E : List (Nat × Nat)) (f a : Nat) : (flatE (E ++ [(f, a)]))[E.length * 2 + 1]? = some (.int .u16 a) := by
  rw [flatE_snoc, List.getElem?_append_right (by rw [flatE_length]; omega), flatE_length, show E.length * 2 + 1 - E.length * 2 = 1 by omega]
  rfl
theorem pushE_yes (E : List (Nat × Nat)) (f a n : Nat) (h1 : 1 ≤ stepsTo n f) (h2 : stepsTo n f ≤ 16) : pushE (E ++ [(f, a)]) n = E ++ [(f, a ||| 2 ^ (stepsTo n f - 1))] := by
  unfold pushE
  rw [List.getLast?_concat]
  simp only
  rw [if_pos ⟨h1, h2⟩, List.dropLast_concat]
theorem pushE_no (E : List (Nat × Nat)) (f a n : Nat) (h : ¬ (1 ≤ stepsTo n f ∧ stepsTo n f ≤ 16)) : pushE (E ++ [(f, a)]) n = E ++ [(f, a)] ++ [(n, 0)] := by
  unfold pushE
  rw [List.getLast?_concat]
  simp only
  rw [if_neg h]
theorem pushE_nil (n : Nat) : pushE [] n = [] ++ [(n, 0)] := rfl
theorem entriesF_succ (l : List Int) (k : Nat) (h : k < l.length) : entriesF (l.take (k + 1)) = pushE (entriesF (l.take k)) (l.getD k 0).toNat := by
  unfold entriesF
  rw [List.take_succ_eq_append_getElem h, List.foldl_append]
  simp [List.getD, h]
theorem snoc_cases {α : Type} (E : List α) : E = [] ∨ ∃ I p, E = I ++ [p] := by
  rcases List.eq_nil_or_concat E with h | ⟨I, p, h⟩
  · exact .inl h
  · exact .inr ⟨I, p, by simpa using h⟩

theorem row_shapeN {W : World} {base e size n : Nat} {v : Value} {xs : List Value} (h : W.ownsRow base e size v n xs) : ∃ ao cap, v = .slice ao n cap := by
  obtain ⟨_, h2 | ⟨g, cap, cur, rfl, _⟩⟩ := h
  · exact ⟨none, 0, by rw [h2.1, h2.2]⟩
  · exact ⟨_, _, rfl⟩
theorem row_some {W : World} {base e size n cap : Nat} {ao : Option Addr} {xs : List Value} (h : W.ownsRow base e size (.slice ao n cap) n xs) (hn : 0 < n) : ∃ g, ao = some ⟨g, 0, none⟩ := by
  obtain ⟨_, h2 | ⟨g, cap', cur, e', _⟩⟩ := h
  · omega
  · simp only [Value.slice.injEq] at e'
    exact ⟨g, e'.1⟩

/-- the entries are numbers of two bytes, and no more than the numbers -/
def OkE (E : List (Nat × Nat)) : Prop := ∀ p ∈ E, p.1 < 65536 ∧ p.2 < 65536
theorem or_lt (a d : Nat) (ha : a < 65536) (h2 : d ≤ 16) (h1 : 1 ≤ d) : a ||| 2 ^ (d - 1) < 65536 := by
  have h := pow_lt (d - 1) (by omega)
  exact Nat.or_lt_two_pow (n := 16) (by omega) (by omega)
theorem OkE.push {E : List (Nat × Nat)} (h : OkE E) (n : Nat) (hn : n < 65536) : OkE (pushE E n) := by
  rcases snoc_cases E with rfl | ⟨I, ⟨f, a⟩, rfl⟩
  · intro p hp
    simp [pushE_nil] at hp
    subst hp
    exact ⟨hn, show 0 < 65536 by omega⟩
  · have hl := h (f, a) (by simp)
    by_cases hc : 1 ≤ stepsTo n f ∧ stepsTo n f ≤ 16
    · rw [pushE_yes I f a n hc.1 hc.2]
      intro p hp
      rcases List.mem_append.1 hp with hp | hp
      · exact h p (by simp [hp])
      · simp at hp
        subst hp
        exact ⟨hl.1, or_lt a _ hl.2 hc.2 hc.1⟩
    · rw [pushE_no I f a n hc]
      intro p hp
      rcases List.mem_append.1 hp with hp | hp
      · exact h p hp
      · simp at hp
        subst hp
        exact ⟨hn, show 0 < 65536 by omega⟩
theorem pushE_len (E : List (Nat × Nat)) (n : Nat) : (pushE E n).length ≤ E.length + 1 ∧ 1 ≤ (pushE E n).length := by
  rcases snoc_cases E with rfl | ⟨I, ⟨f, a⟩, rfl⟩
  · exact ⟨Nat.le_refl _, Nat.le_refl _⟩
  · by_cases hc : 1 ≤ stepsTo n f ∧ stepsTo n f ≤ 16
    · rw [pushE_yes I f a n hc.1 hc.2]; simp
    · rw [pushE_no I f a n hc]; simp

end Pk
open Pk

set_option maxRecDepth 20000 in
set_option maxHeartbeats 2000000 in
theorem makeEntries_any (v : Value) (l : List Int) (w : World) (hv : IsInts w.heap.size w v l) (hl : l.length ≤ 300) (hin : ∀ n ∈ l, 0 ≤ n ∧ n ≤ 65535) :
    Calls Try.prog 80 #[v] w fun e w' => ∃ v', e = .returned v' ∧ w'.ownsRow w.heap.size 135 2 v' (entriesF l).length (flatE (entriesF l)) ∧ Below w.heap.size w w' ∧ OkE (entriesF l) ∧ (entriesF l).length ≤ l.length := by
  obtain ⟨ao, cap, rfl, hc⟩ := hv
  have Hc : Hid (∀ j, j < l.length → ∃ b off, ao = some ⟨b, off, none⟩ ∧ b < w.heap.size ∧ w.cell? ⟨b, off + j, none⟩ = some (.int .i64 (l.getD j 0))) := hc
  have Hin : Hid (∀ n ∈ l, 0 ≤ n ∧ n ≤ 65535) := hin
  clear hc hin
  have hinfo : (Try.prog.info? 135).map (fun i => (i.zero, i.size, i.bytes)) = some (some (.agg #[.int .u16 0, .int .u16 0]), 2, 4) := by kernel_rfl
  obtain ⟨i0, hi, hz0, hz1, hz2⟩ := info_parts hinfo
  have Hi : Hid (Try.prog.info? 135 = some i0 ∧ i0.zero = some (.agg #[.int .u16 0, .int .u16 0]) ∧ i0.size = 2 ∧ i0.bytes = 4) := ⟨hi, hz0, hz1, hz2⟩
  clear hi hz0 hz1 hz2 hinfo
  go_enter Try.func80, Try.ntmps80
  go_wp2
  go_loopw [3, 9] (fun s3 s9 wr => ∃ k : Nat, k ≤ l.length ∧ s9 = .int .i64 k ∧ wr.ownsRow w.heap.size 135 2 s3 (entriesF (l.take k)).length (flatE (entriesF (l.take k))) ∧ Below w.heap.size w wr ∧ OkE (entriesF (l.take k)) ∧ (entriesF (l.take k)).length ≤ k) (fun _ s9 _ => l.length - (intOf s9).toNat)
  case atStart => exact ⟨0, Nat.zero_le _, rfl, World.ownsRow_nil _ _ _ _, Below.refl _ _, (by intro p hp; simp [entriesF] at hp), Nat.le_refl _⟩
  case round =>
    obtain ⟨k, hk, rfl, hrow, hb, hok, hEk⟩ := hrel
    by_cases hlt : k < l.length
    · obtain ⟨b, off, rfl, hbb, hcell⟩ := Hc.out k hlt
      have hcr : wr.cell? ⟨b, off + k, none⟩ = some (.int .i64 (l.getD k 0)) := (hb.cell (p := ⟨b, off + k, none⟩) hbb).trans hcell
      have hq := Hin.out (l.getD k 0) (by simp [List.getD, hlt])
      have Hsc : Hid (entriesF (l.take (k + 1)) = pushE (entriesF (l.take k)) (l.getD k 0).toNat) := entriesF_succ l k hlt
      obtain ⟨q, hqq⟩ : ∃ q : Nat, l.getD k 0 = (q : Int) := ⟨(l.getD k 0).toNat, by omega⟩
      rw [hqq] at hcr hq Hsc
      rw [Int.toNat_natCast] at Hsc
      have hq2 : q < 65536 := by omega
      have hwq : IntKind.u16.wrap (q : Int) = (q : Int) := by simp [IntKind.wrap, IntKind.signed, IntKind.bits]; omega
      clear hcell hqq hq
      have Hok1 := hok.push q hq2
      have Hlen1 := pushE_len (entriesF (l.take k)) q
      rw [← Hsc.out] at Hok1 Hlen1
      have HOK : Hid (OkE (entriesF (l.take (k + 1)))) := Hok1
      have HLN : Hid ((entriesF (l.take (k + 1))).length ≤ k + 1) := by show _ ≤ _; omega
      clear Hok1 Hlen1
      generalize hE1 : entriesF (l.take (k + 1)) = E1 at *
      have HEQ : Hid (entriesF (l.take (k + 1)) = E1) := hE1
      clear hE1
      have hlt' : (k : Int) < l.length := by omega
      rcases snoc_cases (entriesF (l.take k)) with hE | ⟨I, ⟨f, a⟩, hE⟩
      · rw [hE] at hrow
        obtain ⟨a1, c1, rfl⟩ := row_shapeN hrow
        have Hrow : Hid (wr.ownsRow w.heap.size 135 2 (.slice a1 0 c1) 0 []) := hrow
        have HE1 : Hid (E1 = [] ++ [(q, 0)]) := by show _ = _; rw [Hsc.out, hE, pushE_nil]
        clear hrow hok hE Hsc hEk
        go_wp2_with (at_builtin; (
          refine wpList_append_own _ rfl (.tmp 27) (.tmp 31) 131 rfl w.heap.size 135 i0 (.agg #[.int .u16 0, .int .u16 0]) 2 4 Try.underlying131 Hi.out.1 Hi.out.2.1 Hi.out.2.2.1 Hi.out.2.2.2 rfl (by decide) _ 0 [] rfl (World.ownsRow.alloc Hrow.out _) _ 1 1 [.int .u16 q, .int .u16 0] rfl rfl (cells_new _ [.int .u16 q, .int .u16 0] _) ?_ ?_ ?_ ?_ ?_
          · intro u hu; simp at hu; rcases hu with rfl | rfl <;> rfl
          · unfold maxLen; omega
          · omega
          · have := hb.size; simp; omega
          intro v' w1 hown' hgrow _
          refine stop_here ?_))
        have R1 : Hid (w1.ownsRow w.heap.size 135 2 v' E1.length (flatE E1)) := by show World.ownsRow _ _ _ _ _ _ _; rw [HE1.out]; exact hown'
        have R2 : Hid (Below w.heap.size w w1) := (hb.alloc hb.size _).grown hgrow (by have := hb.size; simp; omega) (fun g hg => (World.ownsRow.lt Hrow.out g hg).1)
        clear hown' hgrow
        refine hid_in ?_
        go_wp2
        go_roundw
        case rel => exact ⟨k + 1, by omega, by go_num, by rw [HEQ.out]; exact R1.out, R2.out, by rw [HEQ.out]; exact HOK.out, by rw [HEQ.out]; exact HLN.out⟩
        case measure => simp [intOf]; omega
      · rw [hE] at hrow hok hEk
        rw [List.length_append, List.length_singleton] at hrow hEk
        obtain ⟨a1, c1, rfl⟩ := row_shapeN hrow
        obtain ⟨g, rfl⟩ := row_some hrow (by omega)
        have d0 : wr.cell? ⟨g, I.length * 2, none⟩ = some (.int .u16 f) := (hrow.cellAt (I.length * 2) (by omega)).trans (flatE_fst I f a)
        have d1 : wr.cell? ⟨g, I.length * 2 + 1, none⟩ = some (.int .u16 a) := (hrow.cellAt (I.length * 2 + 1) (by omega)).trans (flatE_snd I f a)
        have fz : ∀ j, wr.frozen? ⟨g, j, none⟩ = false := fun j => hrow.frozenAt j
        have hfa := hok (f, a) (by simp)
        have Hrow : Hid (wr.ownsRow w.heap.size 135 2 (.slice (some ⟨g, 0, none⟩) (I.length + 1) c1) (I.length + 1) (flatE (I ++ [(f, a)]))) := hrow
        have hlast : ((I.length + 1 : Nat) : Int) - 1 = (I.length : Int) := by omega
        have hge : ¬ (I.length : Int) < 0 := by omega
        have hgb : w.heap.size ≤ g := (hrow.lt g rfl).1
        clear hrow hok
        by_cases hst : 1 ≤ stepsTo q f ∧ stepsTo q f ≤ 16
        · have HE1 : Hid (E1 = I ++ [(f, a ||| 2 ^ (stepsTo q f - 1))]) := by show _ = _; rw [Hsc.out, hE, pushE_yes I f a q hst.1 hst.2]
          clear Hsc hE
          go_wp2_with fail
          refine (take_yes g (I.length * 2) f a q _ d0 d1 fz hfa.1 hfa.2 hq2 hst.1 hst.2).mono ?_
          rintro e w1 ⟨rfl, rfl⟩
          have R1 : Hid ((wr.setCell ⟨g, I.length * 2 + 1, none⟩ (.int .u16 ((a ||| 2 ^ (stepsTo q f - 1) : Nat) : Int))).ownsRow w.heap.size 135 2 (.slice (some ⟨g, 0, none⟩) (I.length + 1) c1) E1.length (flatE E1)) := by
            show World.ownsRow _ _ _ _ _ _ _
            rw [HE1.out, ← flatE_set I f a]
            have h := (Hrow.out.stored (I.length * 2 + 1) (.int .u16 ((a ||| 2 ^ (stepsTo q f - 1) : Nat) : Int))).1
            simpa using h
          have R2 : Hid (Below w.heap.size w (wr.setCell ⟨g, I.length * 2 + 1, none⟩ (.int .u16 ((a ||| 2 ^ (stepsTo q f - 1) : Nat) : Int)))) := hb.setCell (p := ⟨g, I.length * 2 + 1, none⟩) hgb _
          have R3 : Hid (E1.length = I.length + 1) := by show _ = _; rw [HE1.out]; simp
          go_wp2
          go_roundw
          case rel => exact ⟨k + 1, by omega, by go_num, by rw [HEQ.out]; exact R1.out, R2.out, by rw [HEQ.out]; exact HOK.out, by rw [HEQ.out]; exact HLN.out⟩
          case measure => simp [intOf]; omega
        · have HE1 : Hid (E1 = I ++ [(f, a)] ++ [(q, 0)]) := by show _ = _; rw [Hsc.out, hE, pushE_no I f a q hst]
          clear Hsc hE
          go_wp2_with fail
          refine (take_no g (I.length * 2) f q _ d0 hfa.1 hq2 hst).mono ?_
          rintro e w1 ⟨rfl, rfl⟩
          go_wp2_with (at_builtin; (
            refine wpList_append_own _ rfl (.tmp 27) (.tmp 31) 131 rfl w.heap.size 135 i0 (.agg #[.int .u16 0, .int .u16 0]) 2 4 Try.underlying131 Hi.out.1 Hi.out.2.1 Hi.out.2.2.1 Hi.out.2.2.2 rfl (by decide) _ (I.length + 1) (flatE (I ++ [(f, a)])) rfl (World.ownsRow.alloc Hrow.out _) _ 1 1 [.int .u16 q, .int .u16 0] rfl rfl (cells_new _ [.int .u16 q, .int .u16 0] _) ?_ ?_ ?_ ?_ ?_
            · intro u hu; simp at hu; rcases hu with rfl | rfl <;> rfl
            · unfold maxLen; omega
            · omega
            · have := hb.size; simp; omega
            intro v' w2 hown' hgrow _
            refine stop_here ?_))
          have R1 : Hid (w2.ownsRow w.heap.size 135 2 v' E1.length (flatE E1)) := by
            show World.ownsRow _ _ _ _ _ _ _
            rw [HE1.out, flatE_snoc, List.length_append, List.length_append]
            exact hown'
          have R2 : Hid (Below w.heap.size w w2) := (hb.alloc hb.size _).grown hgrow (by have := hb.size; simp; omega) (fun g hg => (World.ownsRow.lt Hrow.out g hg).1)
          clear hown' hgrow
          refine hid_in ?_
          go_wp2
          go_roundw
          case rel => exact ⟨k + 1, by omega, by go_num, by rw [HEQ.out]; exact R1.out, R2.out, by rw [HEQ.out]; exact HOK.out, by rw [HEQ.out]; exact HLN.out⟩
          case measure => simp [intOf]; omega
    · have hke : k = l.length := by omega
      have hlt' : ¬ (k : Int) < l.length := by omega
      rw [hke, List.take_of_length_le (Nat.le_refl _)] at hrow hok hEk
      have G1 : Hid (OkE (entriesF l)) := hok
      have G2 : Hid ((entriesF l).length ≤ l.length) := hEk
      clear hok hEk
      go_wp2
      go_ret
      exact ⟨_, rfl, hrow, hb, G1.out, G2.out⟩

end Go.Proofs.Ytdjhhnolcafkiaa
