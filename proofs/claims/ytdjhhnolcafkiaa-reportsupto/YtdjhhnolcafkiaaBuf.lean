/- A row of bytes that the call itself makes and fills within its capacity: laws for the walk. -/
import Derived.Test.YtdjhhnolcafkiaaNum
import Derived.Test.YtdjhhnolcafkiaaProg
import Derived.WalkSpells
import Derived.WalkLawsBesides
import Derived.Lib.AppendStr
import Derived.Laws.BytesString
namespace Go.Proofs.Ytdjhhnolcafkiaa
open Go.RowKit
namespace Pk

/-- the cells of bytes -/
def bc (l : List UInt8) : List Value := l.map fun b => Value.int .u8 b.toNat
theorem ret_slice {ao : Option Addr} {n m c : Nat} (h : n = m) : Ending.returned (.slice ao n c) = .returned (.slice ao m c) := by rw [h]
theorem bc_length (l : List UInt8) : (bc l).length = l.length := by simp [bc]
theorem bc_append (a b : List UInt8) : bc (a ++ b) = bc a ++ bc b := by simp [bc]
theorem bc_one (l : List UInt8) : ∀ u ∈ bc l, u.oneCell' = true := by
  intro u hu
  simp only [bc, List.mem_map] at hu
  obtain ⟨b, _, rfl⟩ := hu
  rfl

theorem grown_trans {w w1 w2 : World} {row : Option Nat} (h : w.grownBy w1 row) (k : w1.grownBy w2 row) : w.grownBy w2 row :=
  ⟨k.os.trans h.os, k.tape.trans h.tape, k.output.trans h.output, Nat.le_trans h.size k.size,
    fun j hj hr => (k.block j (Nat.lt_of_lt_of_le hj h.size) hr).trans (h.block j hj hr)⟩

/-- the slice at the head of row g, of n bytes, with room for cap, holds l -/
def Buf (w : World) (base g n cap : Nat) (l : List UInt8) : Prop :=
  l.length = n ∧ w.ownsRow base 5 1 (.slice (some ⟨g, 0, none⟩) n cap) n (bc l)

theorem Buf.at {w : World} {base g n cap : Nat} {l : List UInt8} (h : Buf w base g n cap l) :
    l.length = n ∧ base ≤ g ∧ n ≤ cap ∧ cap ≤ maxLen ∧ ∃ cur, w.heap[g]? = some (.cells cur 5 (0, 0)) ∧ cur.size = cap ∧ cur.toList.take n = bc l := by
  obtain ⟨hl, hx, h | ⟨g', cap', cur, h, hbg, hg, hnc, hcm, hcs, ht⟩⟩ := h
  · simp at h
  · simp only [Value.slice.injEq, Option.some.injEq, Addr.mk.injEq, and_true, true_and] at h
    obtain ⟨rfl, rfl⟩ := h
    exact ⟨hl, hbg, hnc, hcm, cur, hg, by simpa using hcs, by simpa using ht⟩

theorem Buf.mk' {w : World} {base g n cap : Nat} {l : List UInt8} {cur : Array Value} (hl : l.length = n) (hb : base ≤ g) (hn : n ≤ cap) (hc : cap ≤ maxLen)
    (hg : w.heap[g]? = some (.cells cur 5 (0, 0))) (hs : cur.size = cap) (ht : cur.toList.take n = bc l) : Buf w base g n cap l :=
  ⟨hl, by rw [bc_length]; omega, .inr ⟨g, cap, cur, rfl, hb, hg, hn, hc, by omega, by simpa using ht⟩⟩

theorem Buf.lt {w : World} {base g n cap : Nat} {l : List UInt8} (h : Buf w base g n cap l) : g < w.heap.size := by
  obtain ⟨_, _, _, _, cur, hg, _⟩ := h.at
  rcases Nat.lt_or_ge g w.heap.size with h' | h'
  · exact h'
  · rw [Array.getElem?_eq_none h'] at hg; cases hg

theorem Buf.alloc {w : World} {base g n cap : Nat} {l : List UInt8} (h : Buf w base g n cap l) (o : Obj) : Buf (w.alloc o) base g n cap l := ⟨h.1, h.2.alloc o⟩

theorem Buf.drew {w : World} {base g n cap : Nat} {l : List UInt8} (h : Buf w base g n cap l) : Buf w.drew base g n cap l := h

theorem Buf.carry {w w' : World} {base g n cap : Nat} {l : List UInt8} (h : Buf w base g n cap l) (hb : Below w.heap.size w w') : Buf w' base g n cap l := by
  have hlt := h.lt
  obtain ⟨h1, h2, h3, h4, cur, hg, h5, h6⟩ := h.at
  exact Buf.mk' h1 h2 h3 h4 ((hb.block g hlt).trans hg) h5 h6

section
variable {w : World} {ops : Array Oper} {rest : List Oper} {o : Oper} {a : Act} {Q : Exit → Act → World → Prop}

/-- 'append(out, bytes...)', where they lie at an address -/
theorem wl_bytes (hgd : o.guard = none) (s x : Operand) (ho : o.op = Op.call { callee := Callee.builtin Builtin.append, args := #[s, x], argTypes := #[56, 56] })
    {base g n cap : Nat} {l : List UInt8} (hs : a.eval s = .slice (some ⟨g, 0, none⟩) n cap) (hB : Buf w base g n cap l)
    (ad : Addr) (m c : Nat) (nb : List UInt8) (hx : a.eval x = .slice (some ad) m c) (hm : nb.length = m) (hc : ∀ j u, (bc nb)[j]? = some u → w.cell? (ad.add j) = some u) (hroom : n + m ≤ cap)
    (hK : ∀ w', Buf w' base g (n + m) cap (l ++ nb) → w.grownBy w' (some g) → wpList Try.prog ops Q rest (a.put o.dst (.slice (some ⟨g, 0, none⟩) (n + m) cap)) w') :
    wpList Try.prog ops Q (o :: rest) a w := by
  have hinfo : (Try.prog.info? 5).map (fun i => (i.zero, i.size, i.bytes)) = some (some (.int .u8 0), 1, 1) := by kernel_rfl
  obtain ⟨i0, hi, hz0, hz1, hz2⟩ := info_parts hinfo
  refine wpList_append_fits w hgd s x 56 ho base 5 i0 1 Try.underlying56 hi hz1 g n cap (bc l) hs hB.2 ad m c (bc nb) hx (by rw [bc_length]; omega) hc (bc_one nb) hroom ?_
  intro w' h1 h2
  refine hK w' ⟨by rw [List.length_append, hB.1, hm], ?_⟩ h2
  rw [bc_append]
  exact h1

/-- 'append(out, text...)' -/
theorem wl_string (hgd : o.guard = none) (s x : Operand) (ho : o.op = Op.call { callee := Callee.builtin Builtin.append, args := #[s, x], argTypes := #[56, 9] })
    {base g n cap : Nat} {l : List UInt8} (hs : a.eval s = .slice (some ⟨g, 0, none⟩) n cap) (hB : Buf w base g n cap l)
    (t : ByteArray) (hx : a.eval x = .string t) (hroom : n + t.size ≤ cap)
    (hK : ∀ w', Buf w' base g (n + t.size) cap (l ++ t.data.toList) → w.grownBy w' (some g) → wpList Try.prog ops Q rest (a.put o.dst (.slice (some ⟨g, 0, none⟩) (n + t.size) cap)) w') :
    wpList Try.prog ops Q (o :: rest) a w := by
  have hinfo : (Try.prog.info? 5).map (fun i => (i.zero, i.size, i.bytes)) = some (some (.int .u8 0), 1, 1) := by kernel_rfl
  obtain ⟨i0, hi, hz0, hz1, hz2⟩ := info_parts hinfo
  obtain ⟨h1, h2, h3, h4, cur, hg, h5, h6⟩ := hB.at
  have hr := Lib.run_append_room_string (P := Try.prog) w 56 9 o.type 5 i0 Try.underlying56 Try.underlying9 hi hz1 g n cap cur hg t hroom (by omega)
  refine wpList_plain hgd fun K hK' => ?_
  unfold Oper.wp
  simp [execOp, ho, resolve, invoke, builtin, hs, hx, hr, Result.andThen]
  refine hK' _ _ (hK _ (Buf.mk' (by rw [List.length_append, h1, ← Lib.size_eq]) h2 hroom h4 (setRow_heap w g cur _ 5 _ hg) ?_ ?_) ⟨rfl, rfl, rfl, by simp, fun k _ hk => setRow_other w g k _ (fun e => hk (by simp [e]))⟩)
  · simp only [List.size_toArray, List.length_append, List.length_take, List.length_drop, Array.length_toList, Lib.strCells_length]
    omega
  · rw [h6, bc_append]
    have e : Lib.strCells t = bc t.data.toList := rfl
    rw [e, List.toList_toArray, ← List.append_assoc]
    exact List.take_left' (by rw [List.length_append, bc_length, bc_length, h1, ← Lib.size_eq])

/-- 'append(out, make([]byte, m)...)' -/
theorem wl_zeros (hgd : o.guard = none) (s x : Operand) (ho : o.op = Op.call { callee := Callee.builtin Builtin.append, args := #[s, x], argTypes := #[56, 3] })
    {base g n cap : Nat} {l : List UInt8} (hs : a.eval s = .slice (some ⟨g, 0, none⟩) n cap) (hB : Buf w base g n cap l)
    (z : Int) (m : Nat) (hz : z = (m : Int)) (hm : m ≤ 1000000) (hx : a.eval x = .int .i64 z) (hroom : n + m ≤ cap)
    (hK : ∀ w', Buf w' base g (n + m) cap (l ++ List.replicate m 0) → w.grownBy w' (some g) → wpList Try.prog ops Q rest (a.put o.dst (.slice (some ⟨g, 0, none⟩) (n + m) cap)) w') :
    wpList Try.prog ops Q (o :: rest) a w := by
  subst hz
  have hinfo : (Try.prog.info? 5).map (fun i => (i.zero, i.size, i.bytes)) = some (some (.int .u8 0), 1, 1) := by kernel_rfl
  obtain ⟨i0, hi, hz0, hz1, hz2⟩ := info_parts hinfo
  obtain ⟨h1, h2, h3, h4, cur, hg, h5, h6⟩ := hB.at
  have hzc : Builtin.zeroCells (Value.int .u8 0).cells m = (bc (List.replicate m 0)).toArray := by
    apply Array.ext'
    simp [Builtin.zeroCells, bc, Value.cells]
    apply List.ext_getElem
    · simp
    · intro j hj1 hj2
      simp [Nat.mod_one]
  have hst := run_storeCells_at Try.prog g n 5 (bc (List.replicate m 0)) 0 cur w hg (by rw [bc_length, List.length_replicate]; omega) (bc_one _)
  simp only [Nat.add_zero, bc_length, List.length_replicate] at hst
  have hw : IntKind.i64.wrap (m : Int) = m := wrapI64 _ (by omega) (by omega)
  have hneg : ¬ ((m : Int) < 0) := by omega
  have h48 : ¬ (281474976710656 < (m : Int)) := by omega
  by_cases h0 : m = 0
  · subst h0
    have hr : (Builtin.append_ #[56, 3] o.type #[.slice (some ⟨g, 0, none⟩) n cap, .int .i64 0]).run Try.prog w = .ok (.slice (some ⟨g, 0, none⟩) n cap) w := by
      have hw0 : IntKind.i64.wrap 0 = 0 := wrapI64 _ (by omega) (by omega)
      simp [Builtin.append_, run_underlying Try.underlying56, run_underlying Try.underlying3, sizeOf, typeInfo, hi, asInt, asIntOf, hw0, h3, Addr.add_lit, storeCells]
    refine wpList_plain hgd fun K hK' => ?_
    unfold Oper.wp
    simp [execOp, ho, resolve, invoke, builtin, hs, hx, hr, Result.andThen]
    exact hK' _ _ (hK w (by simpa using hB) (World.grownBy.refl _ _))
  have hr : (Builtin.append_ #[56, 3] o.type #[.slice (some ⟨g, 0, none⟩) n cap, .int .i64 m]).run Try.prog w =
      .ok (.slice (some ⟨g, 0, none⟩) (n + m) cap) (w.setRow g (cur.toList.take n ++ bc (List.replicate m 0) ++ cur.toList.drop (n + m)).toArray) := by
    simp [Builtin.append_, run_underlying Try.underlying56, run_underlying Try.underlying3, sizeOf, typeInfo, zeroValue, hi, hz0, hz1, hz2, asInt, asIntOf, hw, hneg, h48, h0, hroom, hzc, Addr.add_lit, hst]
  refine wpList_plain hgd fun K hK' => ?_
  unfold Oper.wp
  simp [execOp, ho, resolve, invoke, builtin, hs, hx, hr, Result.andThen]
  refine hK' _ _ (hK _ (Buf.mk' (by rw [List.length_append, h1, List.length_replicate]) h2 hroom h4 (setRow_heap w g cur _ 5 _ hg) ?_ ?_) ⟨rfl, rfl, rfl, by simp, fun k _ hk => setRow_other w g k _ (fun e => hk (by simp [e]))⟩)
  · simp only [List.size_toArray, List.length_append, List.length_take, List.length_drop, Array.length_toList, bc_length, List.length_replicate]
    omega
  · rw [h6, bc_append, List.toList_toArray, ← List.append_assoc]
    exact List.take_left' (by rw [List.length_append, bc_length, bc_length, h1, List.length_replicate])

end

/-- the cells of a new block of one byte, of two -/
theorem new_one (B : Nat) (w : World) (hB : B = w.heap.size) (v : Value) (t : TypeId) (b : UInt8) (h : v = .int .u8 b.toNat) :
    ∀ j u, (bc [b])[j]? = some u → (w.alloc (.cells #[v] t)).cell? ((⟨B, 0, none⟩ : Addr).add j) = some u := by
  subst h hB
  intro j u hj
  match j, hj with
  | 0, hj => simp [bc] at hj; subst hj; simp [Addr.add]
theorem new_two (B : Nat) (w : World) (hB : B = w.heap.size) (v v' : Value) (t : TypeId) (b b' : UInt8) (h : v = .int .u8 b.toNat) (h' : v' = .int .u8 b'.toNat) :
    ∀ j u, (bc [b, b'])[j]? = some u → (w.alloc (.cells #[v, v'] t)).cell? ((⟨B, 0, none⟩ : Addr).add j) = some u := by
  subst h h' hB
  intro j u hj
  match j, hj with
  | 0, hj => simp [bc] at hj; subst hj; simp [Addr.add]
  | 1, hj => simp [bc] at hj; subst hj; simp [Addr.add]

theorem push_fold (ns : List Int) : ∀ s : ByteArray, (ns.foldl (fun r n => r.push (UInt8.ofNat n.toNat)) s).data.toList = s.data.toList ++ ns.map fun n => UInt8.ofNat n.toNat := by
  induction ns with
  | nil => intro s; simp
  | cons n ns ih => intro s; rw [List.foldl_cons, ih]; simp [ByteArray.push]

/-- 'string(out)' -/
theorem run_text {w : World} {base g n cap : Nat} {l : List UInt8} (hB : Buf w base g n cap l) :
    (convert 56 9 (.slice (some ⟨g, 0, none⟩) n cap)).run Try.prog w = .ok (.string ⟨l.toArray⟩) w := by
  rw [run_convert_bytes_string w 56 9 5 _ _ _ Try.underlying56 Try.underlying5 Try.underlying9]
  obtain ⟨h1, h2, h3, h4, cur, hg, h5, h6⟩ := hB.at
  have hl := run_loadCells_list (P := Try.prog) w ⟨g, 0, none⟩ (bc l) (hB.2.cells (g := g) rfl)
  rw [bc_length, h1] at hl
  have e : bc l = (l.map fun b => (b.toNat : Int)).map (Value.int .u8) := by simp [bc]
  rw [e] at hl
  rw [run_bytesToString w ⟨g, 0, none⟩ n cap (l.map fun b => (b.toNat : Int)) hl]
  congr 2
  apply ByteArray.ext
  apply Array.ext'
  rw [push_fold]
  simp only [List.map_map]
  exact (List.map_congr_left (g := id) fun b _ => by simp).trans (List.map_id _)

end Pk
end Go.Proofs.Ytdjhhnolcafkiaa
