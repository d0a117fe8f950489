/- A row of bytes that the call itself makes and fills within its capacity: laws for the walk. -/
import Derived.Test.YtdjhhnolcafkiaaG01
import Derived.Test.YtdjhhnolcafkiaaProg
import Derived.WalkSpells
import Derived.WalkLawsBesides
import Derived.Lib.AppendStr
import Derived.Laws.BytesString
import Derived.Laws.BitsAllLaws
import Derived.Deep.RegionHeld3
import Derived.Lib.UnsafeStr
import Derived.Lib.BufferWrite
import Derived.ScopeJumps
import Derived.WalkKit
namespace Go.Proofs.Ytdjhhnolcafkiaa
open Go.RowKit
namespace Pk

/-- the cells of bytes -/
def bc (l : List UInt8) : List Value := l.map fun b => Value.int .u8 b.toNat
theorem ret_slice {ao : Option Addr} {n m c : Nat} (h : n = m) : Ending.returned (.slice ao n c) = .returned (.slice ao m c) := by rw [h]
theorem bc_length (l : List UInt8) : (bc l).length = l.length := by simp [bc]
theorem bc_append (a b : List UInt8) : bc (a ++ b) = bc a ++ bc b := by simp [bc]
theorem bc_one (l : List UInt8) : ∀ u ∈ bc l, u.oneCell' = true := by
  intro u hu
  simp only [bc, List.mem_map] at hu
  obtain ⟨b, _, rfl⟩ := hu
  rfl

theorem grown_trans {w w1 w2 : World} {row : Option Nat} (h : w.grownBy w1 row) (k : w1.grownBy w2 row) : w.grownBy w2 row :=
  ⟨k.os.trans h.os, k.tape.trans h.tape, k.output.trans h.output, Nat.le_trans h.size k.size,
    fun j hj hr => (k.block j (Nat.lt_of_lt_of_le hj h.size) hr).trans (h.block j hj hr)⟩

/-- the slice at the head of row g, of n bytes, with room for cap, holds l -/
def Buf (w : World) (base g n cap : Nat) (l : List UInt8) : Prop :=
  l.length = n ∧ w.ownsRow base 5 1 (.slice (some ⟨g, 0, none⟩) n cap) n (bc l)

theorem Buf.at {w : World} {base g n cap : Nat} {l : List UInt8} (h : Buf w base g n cap l) :
    l.length = n ∧ base ≤ g ∧ n ≤ cap ∧ cap ≤ maxLen ∧ ∃ cur, w.heap[g]? = some (.cells cur 5 (0, 0)) ∧ cur.size = cap ∧ cur.toList.take n = bc l := by
  obtain ⟨hl, hx, h | ⟨g', cap', cur, h, hbg, hg, hnc, hcm, hcs, ht⟩⟩ := h
  · simp at h
  · simp only [Value.slice.injEq, Option.some.injEq, Addr.mk.injEq, and_true, true_and] at h
    obtain ⟨rfl, rfl⟩ := h
    exact ⟨hl, hbg, hnc, hcm, cur, hg, by simpa using hcs, by simpa using ht⟩

theorem Buf.mk' {w : World} {base g n cap : Nat} {l : List UInt8} {cur : Array Value} (hl : l.length = n) (hb : base ≤ g) (hn : n ≤ cap) (hc : cap ≤ maxLen)
    (hg : w.heap[g]? = some (.cells cur 5 (0, 0))) (hs : cur.size = cap) (ht : cur.toList.take n = bc l) : Buf w base g n cap l :=
  ⟨hl, by rw [bc_length]; omega, .inr ⟨g, cap, cur, rfl, hb, hg, hn, hc, by omega, by simpa using ht⟩⟩

theorem Buf.lt {w : World} {base g n cap : Nat} {l : List UInt8} (h : Buf w base g n cap l) : g < w.heap.size := by
  obtain ⟨_, _, _, _, cur, hg, _⟩ := h.at
  rcases Nat.lt_or_ge g w.heap.size with h' | h'
  · exact h'
  · rw [Array.getElem?_eq_none h'] at hg; cases hg

theorem Buf.alloc {w : World} {base g n cap : Nat} {l : List UInt8} (h : Buf w base g n cap l) (o : Obj) : Buf (w.alloc o) base g n cap l := ⟨h.1, h.2.alloc o⟩

theorem Buf.drew {w : World} {base g n cap : Nat} {l : List UInt8} (h : Buf w base g n cap l) : Buf w.drew base g n cap l := h

theorem Buf.carry {w w' : World} {base g n cap : Nat} {l : List UInt8} (h : Buf w base g n cap l) (hb : Below w.heap.size w w') : Buf w' base g n cap l := by
  have hlt := h.lt
  obtain ⟨h1, h2, h3, h4, cur, hg, h5, h6⟩ := h.at
  exact Buf.mk' h1 h2 h3 h4 ((hb.block g hlt).trans hg) h5 h6

section
variable {w : World} {ops : Array Oper} {rest : List Oper} {o : Oper} {a : Act} {Q : Exit → Act → World → Prop}

/-- 'append(out, bytes...)', where they lie at an address -/
theorem wl_bytes (hgd : o.guard = none) (s x : Operand) (ho : o.op = Op.call { callee := Callee.builtin Builtin.append, args := #[s, x], argTypes := #[56, 56] })
    {base g n cap : Nat} {l : List UInt8} (hs : a.eval s = .slice (some ⟨g, 0, none⟩) n cap) (hB : Buf w base g n cap l)
    (ad : Addr) (m c : Nat) (nb : List UInt8) (hx : a.eval x = .slice (some ad) m c) (hm : nb.length = m) (hc : ∀ j u, (bc nb)[j]? = some u → w.cell? (ad.add j) = some u) (hroom : n + m ≤ cap)
    (hK : ∀ w', Buf w' base g (n + m) cap (l ++ nb) → w.grownBy w' (some g) → wpList Try.prog ops Q rest (a.put o.dst (.slice (some ⟨g, 0, none⟩) (n + m) cap)) w') :
    wpList Try.prog ops Q (o :: rest) a w := by
  have hinfo : (Try.prog.info? 5).map (fun i => (i.zero, i.size, i.bytes)) = some (some (.int .u8 0), 1, 1) := by kernel_rfl
  obtain ⟨i0, hi, hz0, hz1, hz2⟩ := info_parts hinfo
  refine wpList_append_fits w hgd s x 56 ho base 5 i0 1 Try.underlying56 hi hz1 g n cap (bc l) hs hB.2 ad m c (bc nb) hx (by rw [bc_length]; omega) hc (bc_one nb) hroom ?_
  intro w' h1 h2
  refine hK w' ⟨by rw [List.length_append, hB.1, hm], ?_⟩ h2
  rw [bc_append]
  exact h1

/-- 'append(out, text...)' -/
theorem wl_string (hgd : o.guard = none) (s x : Operand) (ho : o.op = Op.call { callee := Callee.builtin Builtin.append, args := #[s, x], argTypes := #[56, 9] })
    {base g n cap : Nat} {l : List UInt8} (hs : a.eval s = .slice (some ⟨g, 0, none⟩) n cap) (hB : Buf w base g n cap l)
    (t : ByteArray) (hx : a.eval x = .string t) (hroom : n + t.size ≤ cap)
    (hK : ∀ w', Buf w' base g (n + t.size) cap (l ++ t.data.toList) → w.grownBy w' (some g) → wpList Try.prog ops Q rest (a.put o.dst (.slice (some ⟨g, 0, none⟩) (n + t.size) cap)) w') :
    wpList Try.prog ops Q (o :: rest) a w := by
  have hinfo : (Try.prog.info? 5).map (fun i => (i.zero, i.size, i.bytes)) = some (some (.int .u8 0), 1, 1) := by kernel_rfl
  obtain ⟨i0, hi, hz0, hz1, hz2⟩ := info_parts hinfo
  obtain ⟨h1, h2, h3, h4, cur, hg, h5, h6⟩ := hB.at
  have hr := Lib.run_append_room_string (P := Try.prog) w 56 9 o.type 5 i0 Try.underlying56 Try.underlying9 hi hz1 g n cap cur hg t hroom (by omega)
  refine wpList_plain hgd fun K hK' => ?_
  unfold Oper.wp
  simp [execOp, ho, resolve, invoke, builtin, hs, hx, hr, Result.andThen]
  refine hK' _ _ (hK _ (Buf.mk' (by rw [List.length_append, h1, ← Lib.size_eq]) h2 hroom h4 (setRow_heap w g cur _ 5 _ hg) ?_ ?_) ⟨rfl, rfl, rfl, by simp, fun k _ hk => setRow_other w g k _ (fun e => hk (by simp [e]))⟩)
  · simp only [List.size_toArray, List.length_append, List.length_take, List.length_drop, Array.length_toList, Lib.strCells_length]
    omega
  · rw [h6, bc_append]
    have e : Lib.strCells t = bc t.data.toList := rfl
    rw [e, List.toList_toArray, ← List.append_assoc]
    exact List.take_left' (by rw [List.length_append, bc_length, bc_length, h1, ← Lib.size_eq])

/-- 'append(out, make([]byte, m)...)' -/
theorem wl_zeros (hgd : o.guard = none) (s x : Operand) (ho : o.op = Op.call { callee := Callee.builtin Builtin.append, args := #[s, x], argTypes := #[56, 3] })
    {base g n cap : Nat} {l : List UInt8} (hs : a.eval s = .slice (some ⟨g, 0, none⟩) n cap) (hB : Buf w base g n cap l)
    (z : Int) (m : Nat) (hz : z = (m : Int)) (hm : m ≤ 1000000) (hx : a.eval x = .int .i64 z) (hroom : n + m ≤ cap)
    (hK : ∀ w', Buf w' base g (n + m) cap (l ++ List.replicate m 0) → w.grownBy w' (some g) → wpList Try.prog ops Q rest (a.put o.dst (.slice (some ⟨g, 0, none⟩) (n + m) cap)) w') :
    wpList Try.prog ops Q (o :: rest) a w := by
  subst hz
  have hinfo : (Try.prog.info? 5).map (fun i => (i.zero, i.size, i.bytes)) = some (some (.int .u8 0), 1, 1) := by kernel_rfl
  obtain ⟨i0, hi, hz0, hz1, hz2⟩ := info_parts hinfo
  obtain ⟨h1, h2, h3, h4, cur, hg, h5, h6⟩ := hB.at
  have hzc : Builtin.zeroCells (Value.int .u8 0).cells m = (bc (List.replicate m 0)).toArray := by
    apply Array.ext'
    simp [Builtin.zeroCells, bc, Value.cells]
    apply List.ext_getElem
    · simp
    · intro j hj1 hj2
      simp [Nat.mod_one]
  have hst := run_storeCells_at Try.prog g n 5 (bc (List.replicate m 0)) 0 cur w hg (by rw [bc_length, List.length_replicate]; omega) (bc_one _)
  simp only [Nat.add_zero, bc_length, List.length_replicate] at hst
  have hw : IntKind.i64.wrap (m : Int) = m := wrapI64 _ (by omega) (by omega)
  have hneg : ¬ ((m : Int) < 0) := by omega
  have h48 : ¬ (281474976710656 < (m : Int)) := by omega
  by_cases h0 : m = 0
  · subst h0
    have hr : (Builtin.append_ #[56, 3] o.type #[.slice (some ⟨g, 0, none⟩) n cap, .int .i64 0]).run Try.prog w = .ok (.slice (some ⟨g, 0, none⟩) n cap) w := by
      have hw0 : IntKind.i64.wrap 0 = 0 := wrapI64 _ (by omega) (by omega)
      simp [Builtin.append_, run_underlying Try.underlying56, run_underlying Try.underlying3, sizeOf, typeInfo, hi, asInt, asIntOf, hw0, h3, Addr.add_lit, storeCells]
    refine wpList_plain hgd fun K hK' => ?_
    unfold Oper.wp
    simp [execOp, ho, resolve, invoke, builtin, hs, hx, hr, Result.andThen]
    exact hK' _ _ (hK w (by simpa using hB) (World.grownBy.refl _ _))
  have hr : (Builtin.append_ #[56, 3] o.type #[.slice (some ⟨g, 0, none⟩) n cap, .int .i64 m]).run Try.prog w =
      .ok (.slice (some ⟨g, 0, none⟩) (n + m) cap) (w.setRow g (cur.toList.take n ++ bc (List.replicate m 0) ++ cur.toList.drop (n + m)).toArray) := by
    simp [Builtin.append_, run_underlying Try.underlying56, run_underlying Try.underlying3, sizeOf, typeInfo, zeroValue, hi, hz0, hz1, hz2, asInt, asIntOf, hw, hneg, h48, h0, hroom, hzc, Addr.add_lit, hst]
  refine wpList_plain hgd fun K hK' => ?_
  unfold Oper.wp
  simp [execOp, ho, resolve, invoke, builtin, hs, hx, hr, Result.andThen]
  refine hK' _ _ (hK _ (Buf.mk' (by rw [List.length_append, h1, List.length_replicate]) h2 hroom h4 (setRow_heap w g cur _ 5 _ hg) ?_ ?_) ⟨rfl, rfl, rfl, by simp, fun k _ hk => setRow_other w g k _ (fun e => hk (by simp [e]))⟩)
  · simp only [List.size_toArray, List.length_append, List.length_take, List.length_drop, Array.length_toList, bc_length, List.length_replicate]
    omega
  · rw [h6, bc_append, List.toList_toArray, ← List.append_assoc]
    exact List.take_left' (by rw [List.length_append, bc_length, bc_length, h1, List.length_replicate])

end

/-- the cells of a new block of one byte, of two -/
theorem new_one (B : Nat) (w : World) (hB : B = w.heap.size) (v : Value) (t : TypeId) (b : UInt8) (h : v = .int .u8 b.toNat) :
    ∀ j u, (bc [b])[j]? = some u → (w.alloc (.cells #[v] t)).cell? ((⟨B, 0, none⟩ : Addr).add j) = some u := by
  subst h hB
  intro j u hj
  match j, hj with
  | 0, hj => simp [bc] at hj; subst hj; simp [Addr.add]
theorem new_two (B : Nat) (w : World) (hB : B = w.heap.size) (v v' : Value) (t : TypeId) (b b' : UInt8) (h : v = .int .u8 b.toNat) (h' : v' = .int .u8 b'.toNat) :
    ∀ j u, (bc [b, b'])[j]? = some u → (w.alloc (.cells #[v, v'] t)).cell? ((⟨B, 0, none⟩ : Addr).add j) = some u := by
  subst h h' hB
  intro j u hj
  match j, hj with
  | 0, hj => simp [bc] at hj; subst hj; simp [Addr.add]
  | 1, hj => simp [bc] at hj; subst hj; simp [Addr.add]

theorem push_fold (ns : List Int) : ∀ s : ByteArray, (ns.foldl (fun r n => r.push (UInt8.ofNat n.toNat)) s).data.toList = s.data.toList ++ ns.map fun n => UInt8.ofNat n.toNat := by
  induction ns with
  | nil => intro s; simp
  | cons n ns ih => intro s; rw [List.foldl_cons, ih]; simp [ByteArray.push]

/-- 'string(out)' -/
theorem run_text {w : World} {base g n cap : Nat} {l : List UInt8} (hB : Buf w base g n cap l) :
    (convert 56 9 (.slice (some ⟨g, 0, none⟩) n cap)).run Try.prog w = .ok (.string ⟨l.toArray⟩) w := by
  rw [run_convert_bytes_string w 56 9 5 _ _ _ Try.underlying56 Try.underlying5 Try.underlying9]
  obtain ⟨h1, h2, h3, h4, cur, hg, h5, h6⟩ := hB.at
  have hl := run_loadCells_list (P := Try.prog) w ⟨g, 0, none⟩ (bc l) (hB.2.cells (g := g) rfl)
  rw [bc_length, h1] at hl
  have e : bc l = (l.map fun b => (b.toNat : Int)).map (Value.int .u8) := by simp [bc]
  rw [e] at hl
  rw [run_bytesToString w ⟨g, 0, none⟩ n cap (l.map fun b => (b.toNat : Int)) hl]
  congr 2
  apply ByteArray.ext
  apply Array.ext'
  rw [push_fold]
  simp only [List.map_map]
  exact (List.map_congr_left (g := id) fun b _ => by simp).trans (List.map_id _)

end Pk
end Go.Proofs.Ytdjhhnolcafkiaa

/- wire.(*entry).take: a number near enough ahead sets its bit. -/
namespace Go.Proofs.Ytdjhhnolcafkiaa
open Go.RowKit Pk
namespace Pk
/-- how far ahead, round -/
def stepsTo (n f : Nat) : Nat := (n + 65536 - f) % 65536
theorem steps_wrap (n f : Nat) (hf : f < 65536) (hn : n < 65536) : IntKind.u16.wrap ((n : Int) - (f : Int)) = (stepsTo n f : Int) := by
  unfold stepsTo
  simp [IntKind.wrap, IntKind.signed, IntKind.bits]
  omega
theorem steps_lt (n f : Nat) : stepsTo n f < 65536 := Nat.mod_lt _ (by decide)
theorem pow_wrap : ∀ e, e < 16 → IntKind.u16.wrap ((2 : Int) ^ e) = ((2 ^ e : Nat) : Int) := by decide
theorem pow_lt : ∀ e, e < 16 → 2 ^ e < 65536 := by decide
theorem or_bit (a d : Nat) (ha : a < 65536) (h1 : 1 ≤ d) (h2 : d ≤ 16) : bits .or .u16 (a : Int) (IntKind.u16.wrap ((2 : Int) ^ (d - 1))) = ((a ||| 2 ^ (d - 1) : Nat) : Int) := by
  rw [pow_wrap (d - 1) (by omega), u16_or_nat a (2 ^ (d - 1)) ha (pow_lt (d - 1) (by omega))]
end Pk

set_option maxHeartbeats 1000000 in
theorem take_yes (b o f a n : Nat) (w : World) (c0 : w.cell? ⟨b, o, none⟩ = some (.int .u16 f)) (c1 : w.cell? ⟨b, o + 1, none⟩ = some (.int .u16 a)) (fz : ∀ j, w.frozen? ⟨b, j, none⟩ = false) (hf : f < 65536) (ha : a < 65536) (hn : n < 65536) (h1 : 1 ≤ stepsTo n f) (h2 : stepsTo n f ≤ 16) :
    Calls Try.prog 100 #[.pointer (some ⟨b, o, none⟩), .int .u16 n] w fun e w' => e = .returned (.bool true) ∧ w' = w.setCell ⟨b, o + 1, none⟩ (.int .u16 ((a ||| 2 ^ (stepsTo n f - 1) : Nat) : Int)) := by
  have hdi := steps_wrap n f hf hn
  generalize stepsTo n f = d at *
  have h1' : ¬ (d : Int) < 1 := by omega
  have h2' : ¬ (16 : Int) < d := by omega
  go_enter Try.func100, Try.ntmps100
  have hor := or_bit a d ha h1 h2
  go_wp2
  go_ret
  exact ⟨rfl, rfl⟩

set_option maxHeartbeats 1000000 in
theorem take_no (b o f n : Nat) (w : World) (c0 : w.cell? ⟨b, o, none⟩ = some (.int .u16 f)) (hf : f < 65536) (hn : n < 65536) (h : ¬ (1 ≤ stepsTo n f ∧ stepsTo n f ≤ 16)) :
    Calls Try.prog 100 #[.pointer (some ⟨b, o, none⟩), .int .u16 n] w fun e w' => e = .returned (.bool false) ∧ w' = w := by
  have hdi := steps_wrap n f hf hn
  generalize stepsTo n f = d at *
  rcases (show d < 1 ∨ 16 < d by omega) with h1 | h1
  · have h1' : (d : Int) < 1 := by omega
    go_enter Try.func100, Try.ntmps100
    go_wp2
    go_ret
    exact ⟨rfl, rfl⟩
  · have h1' : ¬ (d : Int) < 1 := by omega
    have h2 : (16 : Int) < d := by omega
    go_enter Try.func100, Try.ntmps100
    go_wp2
    go_ret
    exact ⟨rfl, rfl⟩

end Go.Proofs.Ytdjhhnolcafkiaa

/- The head of a packet is read. -/
namespace Go.Proofs.Ytdjhhnolcafkiaa
open Go.RowKit Pk

set_option maxHeartbeats 1000000 in
theorem readHead_any (s : ByteArray) (w : World) (hs : 12 ≤ s.size) (hs2 : s.size ≤ 1500) :
    Calls Try.prog 74 #[.string s] w fun e w' => e = .returned (.agg #[.bool (decide (128 ≤ (s[1]'(by omega)).toNat)), .int .i64 (((s[1]'(by omega)).toNat % 128 : Nat) : Int), .int .i64 (num ((s.data.toList.drop 2).take 2)), .int .i64 (num ((s.data.toList.drop 4).take 4)), .int .i64 (num ((s.data.toList.drop 8).take 4)), .slice none 0 0, .bool (decide ((s[0]'(by omega)).toNat / 16 % 2 = 1)), .int .i64 0, .string ⟨#[]⟩, .string ⟨#[]⟩, .int .i64 0]) ∧ Below w.heap.size w w' := by
  have h0 : 0 < s.size := by omega
  have h1 : 1 < s.size := by omega
  have i0 : (0 : Int) < s.size := by omega
  have i1 : (1 : Int) < s.size := by omega
  have i4 : (4 : Int) ≤ s.size := by omega
  have i8 : (8 : Int) ≤ s.size := by omega
  have i12 : (12 : Int) ≤ s.size := by omega
  have j0 : ∀ W : World, (Instr.index 9 (.string s) (.int .i64 0)).run Try.prog W = .ok (.int .u8 (s[0].toNat : Int)) W := fun W => by
    rw [run_index_string W 9 s .i64 0 Try.underlying9]; rw [dif_pos ⟨by omega, i0⟩]; rfl
  have j1 : ∀ W : World, (Instr.index 9 (.string s) (.int .i64 1)).run Try.prog W = .ok (.int .u8 (s[1].toNat : Int)) W := fun W => by
    rw [run_index_string W 9 s .i64 1 Try.underlying9]; rw [dif_pos ⟨by omega, i1⟩]; rfl
  generalize s[0] = b0 at *
  generalize s[1] = b1 at *
  go_enter Try.func74, Try.ntmps74
  go_wp2
  refine wp_region_noPanic ?_
  refine wp_region_held_drew (S := fun _ => True) (by kernel_rfl) trivial (fun hHeld => ?_)
  refine wpAnyH_take (i := 0) (v := ?v0) rfl (by kernel_rfl) (by kernel_rfl) (by kernel_rfl) (fun _ _ _ h => h) (Or.inl ⟨by rfl, ?y0⟩) hHeld ?r0
  case y0 => ((intro W _; go_simp) <;> with_reducible rfl)
  try simp only [Act.put]
  try simp only [List.setIfInBounds_toArray]
  try simp only [List.set_cons_succ]
  try simp only [List.set_cons_zero]
  refine wpAnyH_take (i := 1) (v := ?v1) rfl (by kernel_rfl) (by kernel_rfl) (by kernel_rfl) (fun _ _ _ h => h) (Or.inl ⟨by rfl, ?y1⟩) hHeld ?r1
  case y1 => ((intro W _; go_simp) <;> with_reducible rfl)
  try simp only [Act.put]
  try simp only [List.setIfInBounds_toArray]
  try simp only [List.set_cons_succ]
  try simp only [List.set_cons_zero]
  refine wpAnyH_take (i := 2) (v := ?v2) rfl (by kernel_rfl) (by kernel_rfl) (by kernel_rfl) (fun _ _ _ h => h) (Or.inl ⟨by rfl, ?y2⟩) hHeld ?r2
  case y2 => ((intro W _; go_simp) <;> with_reducible rfl)
  try simp only [Act.put]
  try simp only [List.setIfInBounds_toArray]
  try simp only [List.set_cons_succ]
  try simp only [List.set_cons_zero]
  refine wpAnyH_take (i := 3) (v := ?v3) rfl (by kernel_rfl) (by kernel_rfl) (by kernel_rfl) (fun _ _ _ h => h) (Or.inl ⟨by rfl, ?y3⟩) hHeld ?r3
  case y3 => ((intro W _; go_simp) <;> with_reducible rfl)
  try simp only [Act.put]
  try simp only [List.setIfInBounds_toArray]
  try simp only [List.set_cons_succ]
  try simp only [List.set_cons_zero]
  refine wpAnyH_take (i := 4) (v := ?v4) rfl (by kernel_rfl) (by kernel_rfl) (by kernel_rfl) (fun _ _ _ h => h) (Or.inl ⟨by rfl, ?y4⟩) hHeld ?r4
  case y4 => ((intro W _; go_simp) <;> with_reducible rfl)
  try simp only [Act.put]
  try simp only [List.setIfInBounds_toArray]
  try simp only [List.set_cons_succ]
  try simp only [List.set_cons_zero]
  refine wpAnyH_take (i := 5) (v := ?v5) rfl (by kernel_rfl) (by kernel_rfl) (by kernel_rfl) (fun _ _ _ h => h) (Or.inl ⟨by rfl, ?y5⟩) hHeld ?r5
  case y5 => ((intro W _; go_simp) <;> with_reducible rfl)
  try simp only [Act.put]
  try simp only [List.setIfInBounds_toArray]
  try simp only [List.set_cons_succ]
  try simp only [List.set_cons_zero]
  refine wpAnyH_take (i := 6) (v := ?v6) rfl (by kernel_rfl) (by kernel_rfl) (by kernel_rfl) (fun _ _ _ h => h) (Or.inl ⟨by rfl, ?y6⟩) hHeld ?r6
  case y6 => ((intro W _; go_simp) <;> with_reducible rfl)
  try simp only [Act.put]
  try simp only [List.setIfInBounds_toArray]
  try simp only [List.set_cons_succ]
  try simp only [List.set_cons_zero]
  refine wpAnyH_take (i := 7) (v := ?v7) rfl (by kernel_rfl) (by kernel_rfl) (by kernel_rfl) (fun _ _ _ h => h) (Or.inl ⟨by rfl, ?y7⟩) hHeld ?r7
  case y7 => ((intro W _; go_simp) <;> with_reducible rfl)
  try simp only [Act.put]
  try simp only [List.setIfInBounds_toArray]
  try simp only [List.set_cons_succ]
  try simp only [List.set_cons_zero]
  refine wpAnyH_take (i := 8) (v := ?v8) rfl (by kernel_rfl) (by kernel_rfl) (by kernel_rfl) (fun _ _ _ h => h) (Or.inl ⟨by rfl, ?y8⟩) hHeld ?r8
  case y8 => ((intro W _; go_simp) <;> with_reducible rfl)
  try simp only [Act.put]
  try simp only [List.setIfInBounds_toArray]
  try simp only [List.set_cons_succ]
  try simp only [List.set_cons_zero]
  refine wpAnyH_take (i := 9) (v := ?v9) rfl (by kernel_rfl) (by kernel_rfl) (by kernel_rfl) (fun _ _ _ h => h) (Or.inl ⟨by rfl, ?y9⟩) hHeld ?r9
  case y9 => ((intro W _; go_simp) <;> with_reducible rfl)
  try simp only [Act.put]
  try simp only [List.setIfInBounds_toArray]
  try simp only [List.set_cons_succ]
  try simp only [List.set_cons_zero]
  refine wpAnyH_take (i := 10) (v := ?v10) rfl (by kernel_rfl) (by kernel_rfl) (by kernel_rfl) (fun _ _ _ h => h) (Or.inl ⟨by rfl, ?y10⟩) hHeld ?r10
  case y10 => ((intro W _; go_simp) <;> with_reducible rfl)
  try simp only [Act.put]
  try simp only [List.setIfInBounds_toArray]
  try simp only [List.set_cons_succ]
  try simp only [List.set_cons_zero]
  refine wpAnyH_take (i := 11) (v := ?v11) rfl (by kernel_rfl) (by kernel_rfl) (by kernel_rfl) (fun _ _ _ h => h) (Or.inl ⟨by rfl, ?y11⟩) hHeld ?r11
  case y11 => ((intro W _; go_simp) <;> with_reducible rfl)
  try simp only [Act.put]
  try simp only [List.setIfInBounds_toArray]
  try simp only [List.set_cons_succ]
  try simp only [List.set_cons_zero]
  refine wpAnyH_take (i := 12) (v := ?v12) rfl (by kernel_rfl) (by kernel_rfl) (by kernel_rfl) (fun _ _ _ h => h) (Or.inl ⟨by rfl, ?y12⟩) hHeld ?r12
  case y12 => ((intro W _; go_simp) <;> with_reducible rfl)
  try simp only [Act.put]
  try simp only [List.setIfInBounds_toArray]
  try simp only [List.set_cons_succ]
  try simp only [List.set_cons_zero]
  refine wpAnyH_take (i := 13) (v := ?v13) rfl (by kernel_rfl) (by kernel_rfl) (by kernel_rfl) (fun _ _ _ h => h) (Or.inl ⟨by rfl, ?y13⟩) hHeld ?r13
  case y13 => ((intro W _; go_simp) <;> with_reducible rfl)
  try simp only [Act.put]
  try simp only [List.setIfInBounds_toArray]
  try simp only [List.set_cons_succ]
  try simp only [List.set_cons_zero]
  refine wpAnyH_take (i := 15) (v := ?v15) rfl (by kernel_rfl) (by kernel_rfl) (by kernel_rfl) (fun _ _ _ h => h) (Or.inl ⟨by rfl, ?y15⟩) hHeld ?r15
  case y15 => ((intro W _; go_simp) <;> with_reducible rfl)
  try simp only [Act.put]
  try simp only [List.setIfInBounds_toArray]
  try simp only [List.set_cons_succ]
  try simp only [List.set_cons_zero]
  refine wpAnyH_take (i := 16) (v := ?v16) rfl (by kernel_rfl) (by kernel_rfl) (by kernel_rfl) (fun _ _ _ h => h) (Or.inl ⟨by rfl, ?y16⟩) hHeld ?r16
  case y16 => ((intro W _; go_simp) <;> with_reducible rfl)
  try simp only [Act.put]
  try simp only [List.setIfInBounds_toArray]
  try simp only [List.set_cons_succ]
  try simp only [List.set_cons_zero]
  refine wpAnyH_take (i := 18) (v := ?v18) rfl (by kernel_rfl) (by kernel_rfl) (by kernel_rfl) (fun _ _ _ h => h) (Or.inl ⟨by rfl, ?y18⟩) hHeld ?r18
  case y18 => ((intro W _; go_simp) <;> with_reducible rfl)
  try simp only [Act.put]
  try simp only [List.setIfInBounds_toArray]
  try simp only [List.set_cons_succ]
  try simp only [List.set_cons_zero]
  refine wpAnyH_take (i := 19) (v := ?v19) rfl (by kernel_rfl) (by kernel_rfl) (by kernel_rfl) (fun _ _ _ h => h) (Or.inl ⟨by rfl, ?y19⟩) hHeld ?r19
  case y19 => ((intro W _; go_simp) <;> with_reducible rfl)
  try simp only [Act.put]
  try simp only [List.setIfInBounds_toArray]
  try simp only [List.set_cons_succ]
  try simp only [List.set_cons_zero]
  refine wpAnyH_ready (rs := [14]) (by kernel_rfl) (by simp) ?_
  refine AllReadyH.cons rfl (fun K hK => ?_) AllReadyH.nil
  go_simp
  refine (readNumber_any _ _ (by simp only [ByteArray.size_extract]; omega)).mono ?_
  rintro e w1 ⟨rfl, rfl⟩
  go_wp2_with fail
  refine hK.out _ _ trivial (fun hHeld => ?_)
  clear hK K
  refine wpAnyH_ready (rs := [17]) (by kernel_rfl) (by simp) ?_
  refine AllReadyH.cons rfl (fun K hK => ?_) AllReadyH.nil
  go_simp
  refine (readNumber_any _ _ (by simp only [ByteArray.size_extract]; omega)).mono ?_
  rintro e w1 ⟨rfl, rfl⟩
  go_wp2_with fail
  refine hK.out _ _ trivial (fun hHeld => ?_)
  clear hK K
  refine wpAnyH_ready (rs := [20]) (by kernel_rfl) (by simp) ?_
  refine AllReadyH.cons rfl (fun K hK => ?_) AllReadyH.nil
  go_simp
  refine (readNumber_any _ _ (by simp only [ByteArray.size_extract]; omega)).mono ?_
  rintro e w1 ⟨rfl, rfl⟩
  go_wp2_with fail
  refine hK.out _ _ trivial (fun hHeld => ?_)
  clear hK K
  refine wpAnyH_take (i := 21) (v := ?v21) rfl (by kernel_rfl) (by kernel_rfl) (by kernel_rfl) (fun _ _ _ h => h) (Or.inl ⟨by rfl, ?y21⟩) hHeld ?r21
  case y21 => ((intro W _; go_simp) <;> with_reducible rfl)
  try simp only [Act.put]
  try simp only [List.setIfInBounds_toArray]
  try simp only [List.set_cons_succ]
  try simp only [List.set_cons_zero]
  refine wpAnyH_ready (rs := [22]) (by kernel_rfl) (by simp) ?_
  refine AllReadyH.cons rfl (fun K hK => ?_) AllReadyH.nil
  go_simp
  refine hK.out _ _ trivial (fun hHeld => ?_)
  clear hK K
  refine wpAnyH_done (by kernel_rfl) ?_ _
  refine NoPanic.normal ?_
  go_wp2
  refine bodyPost_ret (v := .agg #[.bool (bits .and .u8 (b1.toNat : Int) 128 != 0), .int .i64 (IntKind.i64.wrap (bits .and .u8 (b1.toNat : Int) 127)), .int .i64 (num ((s.data.toList.drop 2).take 2)), .int .i64 (num ((s.data.toList.drop 4).take 4)), .int .i64 (num ((s.data.toList.drop 8).take 4)), .slice none 0 0, .bool (bits .and .u8 (b0.toNat : Int) 16 != 0), .int .i64 0, .string ⟨#[]⟩, .string ⟨#[]⟩, .int .i64 0]) (by simp [results, Try.results74, go_sem]) rfl ⟨?_, ?_⟩
  · rw [marker_bit, type_bits, ext_bit]
  · exact ((Below.refl _ _).alloc (Nat.le_refl _) _).drew

end Go.Proofs.Ytdjhhnolcafkiaa

/- strings.Clone: the same bytes, in new memory. -/
namespace Go.Proofs.Ytdjhhnolcafkiaa
open Go.RowKit Pk

set_option maxRecDepth 10000 in
set_option maxHeartbeats 2000000 in
theorem slClone_any (s : ByteArray) (w : World) (hs : s.size ≤ 100000) :
    Calls Try.prog 99 #[.string s] w fun e w' => e = .returned (.string s) ∧ Below w.heap.size w w' := by
  by_cases h0 : s.size = 0
  · have he : s = ⟨#[]⟩ := by
      apply ByteArray.ext
      exact Array.eq_empty_of_size_eq_zero h0
    subst he
    go_enter Try.func99, Try.ntmps99
    go_wp2
    go_ret
    exact ⟨rfl, Below.refl _ _⟩
  · have hinfo : (Try.prog.info? 5).map (fun i => (i.zero, i.size, i.bytes)) = some (some (.int .u8 0), 1, 1) := by kernel_rfl
    have hsz : (Try.prog.info? 5).map (·.size) = some 1 := by kernel_rfl
    have hco : Try.prog.cellsOf 5 = 1 := by kernel_rfl
    obtain ⟨i0, hi, hz0, hz1, hz2⟩ := info_parts hinfo
    obtain ⟨M, hM⟩ : ∃ M, M = madeCells (Value.int .u8 0).cells s.size := ⟨_, rfl⟩
    have hMs : M.size = s.size := by rw [hM, size_madeCells]
    have hmk : ∀ W : World, (Instr.makeSlice 56 (.int .i64 (s.size : Int)) (.int .i64 (s.size : Int))).run Try.prog W = .ok (.slice (some ⟨W.heap.size, 0, none⟩) s.size s.size) (W.alloc (.cells M 5)) := fun W => by
      have h := run_make (P := Try.prog) W 56 5 i0 (.int .u8 0) Try.underlying56 hi hz0 .i64 .i64 (s.size : Int) (s.size : Int) (by omega) (by omega) (by rw [hz2]; omega) (by omega)
      rw [hz1, Int.toNat_natCast, Nat.mul_one, ← hM] at h
      simpa using h
    clear hM hinfo hi hz0 hz1 hz2
    have hcp := Lib.run_copy_row_string (P := Try.prog) (w.alloc (.cells M 5)) 56 9 3 5 w.heap.size 0 s.size s.size s M 5 Try.underlying56 hsz (heap_alloc_new w _) (Nat.le_refl _) (by omega)
    obtain ⟨Y, hY⟩ : ∃ Y, Y = (M.toList.take 0 ++ Lib.byteCells s.data.toList ++ M.toList.drop (0 + s.size)).toArray := ⟨_, rfl⟩
    rw [← hY] at hcp
    have hYl : Y.toList = Lib.byteCells s.data.toList := by
      rw [hY, List.toList_toArray, List.take_zero, List.nil_append, List.drop_of_length_le (by rw [Array.length_toList]; omega), List.append_nil]
    have hYs : Y.size = s.size := by rw [← Array.length_toList, hYl, Lib.byteCells_length, ← Lib.size_eq]
    have hgY : ((w.alloc (.cells M 5)).setRow w.heap.size Y).heap[w.heap.size]? = some (.cells Y 5 (0, 0)) := setRow_heap _ _ M _ 5 (0, 0) (heap_alloc_new w _)
    have hne : s.data.toList ≠ [] := fun e => h0 (by rw [Lib.size_eq, e]; rfl)
    have hUS := Lib.run_unsafeString_row (P := Try.prog) ((w.alloc (.cells M 5)).setRow w.heap.size Y) 178 3 9 5 Try.underlying178 hco w.heap.size Y.size (by unfold World.shape?; rw [hgY]) s.data.toList hne (by rw [← Lib.size_eq]; omega) (by rw [← Lib.size_eq]; omega)
      (fun j x hx => Lib.cells_of_row hgY Y.size j _ (by rw [List.take_of_length_le (by rw [Array.length_toList]; exact Nat.le_refl _), hYl]; simp [Lib.byteCells, hx]))
    rw [← Lib.size_eq] at hUS
    clear hY hsz hco
    go_enter Try.func99, Try.ntmps99
    go_wp2
    go_ret
    have hb1 : Below w.heap.size w (w.alloc (.cells M 5)) := (Below.refl _ w).alloc (Nat.le_refl _) _
    have hb2 : Below w.heap.size (w.alloc (.cells M 5)) ((w.alloc (.cells M 5)).setRow w.heap.size Y) := ⟨rfl, rfl, rfl, by simp, fun k hk => setRow_other _ _ _ _ (by omega)⟩
    exact ⟨rfl, Lib.below_freeze (hb1.trans hb2) (p := ⟨w.heap.size, 0, none⟩) (Nat.le_refl _) _⟩

set_option maxHeartbeats 1000000 in
theorem clone_any (s : ByteArray) (w : World) (hs : s.size ≤ 100000) :
    Calls Try.prog 77 #[.string s] w fun e w' => e = .returned (.string s) ∧ Below w.heap.size w w' := by
  go_enter Try.func77, Try.ntmps77
  go_wp2_with fail
  refine (slClone_any s _ hs).mono ?_
  rintro e w1 ⟨rfl, hb1⟩
  go_wp2
  go_ret
  exact ⟨rfl, hb1⟩

end Go.Proofs.Ytdjhhnolcafkiaa

/- A scope out of which the run jumps forward to one label. -/
namespace Go.Proofs.Ytdjhhnolcafkiaa
namespace Pk

theorem wp_scope_fwd {P : Program} {a : Act} {w : World} {Q : Exit → Act → World → Prop} {c rest : Code} (l : Nat) (hf : findLabel c l = some rest)
    (first : c.wp P (Exit.jump l (fun a w => rest.wp P (Exit.noGoto Q) a w) Q) a w) : (Code.scope c).wp P Q a w :=
  wp_scope_jumps l _ (fun _ _ => 0) hf first fun _ _ hJ => Code.wp_mono (fun e a w h => by cases e <;> first | exact h | exact (h : False).elim) hJ

theorem jump_here {P : Program} {a : Act} {w : World} {Q : Exit → Act → World → Prop} {rest : Code} (l : Nat) (h : rest.wp P (Exit.noGoto Q) a w) :
    (Exit.jump l (fun a w => rest.wp P (Exit.noGoto Q) a w) Q) (.goto l) a w := ⟨rfl, h⟩

theorem jump_ret {a : Act} {w : World} {Q : Exit → Act → World → Prop} {J : Act → World → Prop} (l : Nat) (h : Q .ret a w) : (Exit.jump l J Q) .ret a w := h

end Pk
end Go.Proofs.Ytdjhhnolcafkiaa

/- A packet is read: the texts that are none from their head. -/
namespace Go.Proofs.Ytdjhhnolcafkiaa
open Go.RowKit Pk
namespace Pk
def wrongV : Value := .tuple #[.agg #[.bool false, .int .i64 0, .int .i64 0, .int .i64 0, .int .i64 0, .slice none 0 0, .bool false, .int .i64 0, .string ⟨#[]⟩, .string ⟨#[]⟩, .int .i64 0], .int .i64 1]
def okV (x : PP) (v : Value) : Value := .tuple #[.agg #[.bool x.mrk, .int .i64 x.ty, .int .i64 x.nu, .int .i64 x.ti, .int .i64 x.so, v, .bool x.ex, .int .i64 x.pr, .string x.en, .string x.py, .int .i64 x.pa], .int .i64 0]
/-- what is answered -/
def ReadAs (r : Option PP) (B : Nat) (e : Ending) (w : World) : Prop :=
  match r with
  | some x => ∃ v, e = .returned (okV x v) ∧ OwnInts w B v x.cl
  | none => e = .returned wrongV
end Pk

set_option maxHeartbeats 1000000 in
theorem read_short (s : ByteArray) (w : World) (hs : s.size < 12) :
    Calls Try.prog 47 #[.string s] w fun e w' => Below w.heap.size w w' ∧ ReadAs (readP s) w.heap.size e w' := by
  have hi : (s.size : Int) < 12 := by omega
  have HR : Hid (readP s = none) := readP_bad s (by unfold bad1; exact decide_eq_true (.inl hs))
  go_enter Try.func47, Try.ntmps47
  go_wp2
  refine wp_scope_fwd 0 rfl ?_
  go_wp2
  go_step3
  refine jump_here 0 ?_
  go_wp2
  rw [Exit.noGoto_ret]
  refine bodyPost_ret (v := wrongV) (by simp [results, Try.results47, wrongV, go_sem]) rfl ⟨?_, ?_⟩
  · exact ((Below.refl _ _).alloc (Nat.le_refl _) _).alloc (by simp) _
  · rw [HR.out]
    rfl

set_option maxHeartbeats 1000000 in
theorem read_long (s : ByteArray) (w : World) (hs : 1500 < s.size) (hs2 : s.size ≤ maxLen) :
    Calls Try.prog 47 #[.string s] w fun e w' => Below w.heap.size w w' ∧ ReadAs (readP s) w.heap.size e w' := by
  unfold maxLen at hs2
  have hi : (1500 : Int) < s.size := by omega
  have HR : Hid (readP s = none) := readP_bad s (by unfold bad1; exact decide_eq_true (.inr (.inl hs)))
  go_enter Try.func47, Try.ntmps47
  go_wp2
  refine wp_scope_fwd 0 rfl ?_
  go_wp2
  go_step3
  refine jump_here 0 ?_
  go_wp2
  rw [Exit.noGoto_ret]
  refine bodyPost_ret (v := wrongV) (by simp [results, Try.results47, wrongV, go_sem]) rfl ⟨?_, ?_⟩
  · exact ((Below.refl _ _).alloc (Nat.le_refl _) _).alloc (by simp) _
  · rw [HR.out]
    rfl

set_option maxHeartbeats 1000000 in
theorem read_mark (s : ByteArray) (w : World) (hs : 12 ≤ s.size) (hs2 : s.size ≤ 1500) (hm : (B0 s).toNat / 64 ≠ 2) :
    Calls Try.prog 47 #[.string s] w fun e w' => Below w.heap.size w w' ∧ ReadAs (readP s) w.heap.size e w' := by
  have hi : (12 : Int) ≤ s.size := by omega
  have hi2 : (s.size : Int) ≤ 1500 := by omega
  have i0 : (0 : Int) < s.size := by omega
  have HR : Hid (readP s = none) := readP_bad s (by unfold bad1; exact decide_eq_true (.inr (.inr hm)))
  have j0 : ∀ W : World, (Instr.index 9 (.string s) (.int .i64 0)).run Try.prog W = .ok (.int .u8 ((B0 s).toNat : Int)) W := fun W => by
    rw [run_index_string W 9 s .i64 0 Try.underlying9, dif_pos ⟨by omega, i0⟩, ← get0 s (by omega)]; rfl
  have hb := (B0 s).toNat_lt
  have Hm : Hid ((B0 s).toNat / 64 ≠ 2) := hm
  clear hm
  have hne : (((B0 s).toNat : Int) / 64 != 2) = true := by have := Hm.out; rw [bne_iff_ne]; omega
  go_enter Try.func47, Try.ntmps47
  go_wp2
  refine wp_scope_fwd 0 rfl ?_
  go_wp2
  go_step3
  refine jump_here 0 ?_
  go_wp2
  rw [Exit.noGoto_ret]
  refine bodyPost_ret (v := wrongV) (by simp [results, Try.results47, wrongV, go_sem]) rfl ⟨?_, ?_⟩
  · exact ((Below.refl _ _).alloc (Nat.le_refl _) _).alloc (by simp) _
  · rw [HR.out]
    rfl

end Go.Proofs.Ytdjhhnolcafkiaa

/- The two boxes of the packet's reader: what is told, and what is gathered. -/
namespace Go.Proofs.Ytdjhhnolcafkiaa
open Go.RowKit
namespace Pk

theorem kept_below {w w' : World} {B : Nat} (h : Below B w w') (b : Nat) (hb : b < B) : (∀ o, w'.cell? ⟨b, o, none⟩ = w.cell? ⟨b, o, none⟩) ∧ ∀ o, w'.frozen? ⟨b, o, none⟩ = w.frozen? ⟨b, o, none⟩ :=
  ⟨fun o => h.cell (p := ⟨b, o, none⟩) hb, fun o => h.frozen (p := ⟨b, o, none⟩) hb⟩

structure St (w W : World) (x0 x1 x2 x3 x4 x5 x6 x7 x8 x9 x10 : Value) : Prop where
  bel : Below w.heap.size w W
  siz : w.heap.size + 1 < W.heap.size
  r0 : W.cell? ⟨w.heap.size, 0, none⟩ = some (.bool false)
  r1 : W.cell? ⟨w.heap.size, 1, none⟩ = some (.int .i64 0)
  r2 : W.cell? ⟨w.heap.size, 2, none⟩ = some (.int .i64 0)
  r3 : W.cell? ⟨w.heap.size, 3, none⟩ = some (.int .i64 0)
  r4 : W.cell? ⟨w.heap.size, 4, none⟩ = some (.int .i64 0)
  r5 : W.cell? ⟨w.heap.size, 5, none⟩ = some (.slice none 0 0)
  r6 : W.cell? ⟨w.heap.size, 6, none⟩ = some (.bool false)
  r7 : W.cell? ⟨w.heap.size, 7, none⟩ = some (.int .i64 0)
  r8 : W.cell? ⟨w.heap.size, 8, none⟩ = some (.string ⟨#[]⟩)
  r9 : W.cell? ⟨w.heap.size, 9, none⟩ = some (.string ⟨#[]⟩)
  r10 : W.cell? ⟨w.heap.size, 10, none⟩ = some (.int .i64 0)
  y0 : W.cell? ⟨w.heap.size + 1, 0, none⟩ = some x0
  y1 : W.cell? ⟨w.heap.size + 1, 1, none⟩ = some x1
  y2 : W.cell? ⟨w.heap.size + 1, 2, none⟩ = some x2
  y3 : W.cell? ⟨w.heap.size + 1, 3, none⟩ = some x3
  y4 : W.cell? ⟨w.heap.size + 1, 4, none⟩ = some x4
  y5 : W.cell? ⟨w.heap.size + 1, 5, none⟩ = some x5
  y6 : W.cell? ⟨w.heap.size + 1, 6, none⟩ = some x6
  y7 : W.cell? ⟨w.heap.size + 1, 7, none⟩ = some x7
  y8 : W.cell? ⟨w.heap.size + 1, 8, none⟩ = some x8
  y9 : W.cell? ⟨w.heap.size + 1, 9, none⟩ = some x9
  y10 : W.cell? ⟨w.heap.size + 1, 10, none⟩ = some x10
  fr : ∀ o, W.frozen? ⟨w.heap.size, o, none⟩ = false
  fy : ∀ o, W.frozen? ⟨w.heap.size + 1, o, none⟩ = false

theorem St.below {w W W' : World} {x0 x1 x2 x3 x4 x5 x6 x7 x8 x9 x10 : Value} (h : St w W x0 x1 x2 x3 x4 x5 x6 x7 x8 x9 x10) (hb : Below W.heap.size W W') : St w W' x0 x1 x2 x3 x4 x5 x6 x7 x8 x9 x10 := by
  have hs := h.siz
  obtain ⟨a1, a2⟩ := kept_below hb w.heap.size (by omega)
  obtain ⟨b1, b2⟩ := kept_below hb (w.heap.size + 1) hs
  exact ⟨h.bel.trans (hb.mono (by omega)), by have := hb.size; omega, (a1 0).trans h.r0, (a1 1).trans h.r1, (a1 2).trans h.r2, (a1 3).trans h.r3, (a1 4).trans h.r4, (a1 5).trans h.r5, (a1 6).trans h.r6, (a1 7).trans h.r7, (a1 8).trans h.r8, (a1 9).trans h.r9, (a1 10).trans h.r10, (b1 0).trans h.y0, (b1 1).trans h.y1, (b1 2).trans h.y2, (b1 3).trans h.y3, (b1 4).trans h.y4, (b1 5).trans h.y5, (b1 6).trans h.y6, (b1 7).trans h.y7, (b1 8).trans h.y8, (b1 9).trans h.y9, (b1 10).trans h.y10, fun o => (a2 o).trans (h.fr o), fun o => (b2 o).trans (h.fy o)⟩

theorem St.set0 {w W : World} {x0 x1 x2 x3 x4 x5 x6 x7 x8 x9 x10 : Value} (h : St w W x0 x1 x2 x3 x4 x5 x6 x7 x8 x9 x10) (v : Value) : St w (W.setCell ⟨w.heap.size + 1, 0, none⟩ v) v x1 x2 x3 x4 x5 x6 x7 x8 x9 x10 :=
  ⟨h.bel.setCell (by simp) _, by have := h.siz; simpa using this, (World.cell?_setCell_other _ ⟨w.heap.size + 1, 0, none⟩ ⟨w.heap.size, 0, none⟩ _ (by simp)).trans h.r0, (World.cell?_setCell_other _ ⟨w.heap.size + 1, 0, none⟩ ⟨w.heap.size, 1, none⟩ _ (by simp)).trans h.r1, (World.cell?_setCell_other _ ⟨w.heap.size + 1, 0, none⟩ ⟨w.heap.size, 2, none⟩ _ (by simp)).trans h.r2, (World.cell?_setCell_other _ ⟨w.heap.size + 1, 0, none⟩ ⟨w.heap.size, 3, none⟩ _ (by simp)).trans h.r3, (World.cell?_setCell_other _ ⟨w.heap.size + 1, 0, none⟩ ⟨w.heap.size, 4, none⟩ _ (by simp)).trans h.r4, (World.cell?_setCell_other _ ⟨w.heap.size + 1, 0, none⟩ ⟨w.heap.size, 5, none⟩ _ (by simp)).trans h.r5, (World.cell?_setCell_other _ ⟨w.heap.size + 1, 0, none⟩ ⟨w.heap.size, 6, none⟩ _ (by simp)).trans h.r6, (World.cell?_setCell_other _ ⟨w.heap.size + 1, 0, none⟩ ⟨w.heap.size, 7, none⟩ _ (by simp)).trans h.r7, (World.cell?_setCell_other _ ⟨w.heap.size + 1, 0, none⟩ ⟨w.heap.size, 8, none⟩ _ (by simp)).trans h.r8, (World.cell?_setCell_other _ ⟨w.heap.size + 1, 0, none⟩ ⟨w.heap.size, 9, none⟩ _ (by simp)).trans h.r9, (World.cell?_setCell_other _ ⟨w.heap.size + 1, 0, none⟩ ⟨w.heap.size, 10, none⟩ _ (by simp)).trans h.r10, World.cell?_setCell_same _ _ _ h.y0, (World.cell?_setCell_other _ ⟨w.heap.size + 1, 0, none⟩ ⟨w.heap.size + 1, 1, none⟩ _ (by simp)).trans h.y1, (World.cell?_setCell_other _ ⟨w.heap.size + 1, 0, none⟩ ⟨w.heap.size + 1, 2, none⟩ _ (by simp)).trans h.y2, (World.cell?_setCell_other _ ⟨w.heap.size + 1, 0, none⟩ ⟨w.heap.size + 1, 3, none⟩ _ (by simp)).trans h.y3, (World.cell?_setCell_other _ ⟨w.heap.size + 1, 0, none⟩ ⟨w.heap.size + 1, 4, none⟩ _ (by simp)).trans h.y4, (World.cell?_setCell_other _ ⟨w.heap.size + 1, 0, none⟩ ⟨w.heap.size + 1, 5, none⟩ _ (by simp)).trans h.y5, (World.cell?_setCell_other _ ⟨w.heap.size + 1, 0, none⟩ ⟨w.heap.size + 1, 6, none⟩ _ (by simp)).trans h.y6, (World.cell?_setCell_other _ ⟨w.heap.size + 1, 0, none⟩ ⟨w.heap.size + 1, 7, none⟩ _ (by simp)).trans h.y7, (World.cell?_setCell_other _ ⟨w.heap.size + 1, 0, none⟩ ⟨w.heap.size + 1, 8, none⟩ _ (by simp)).trans h.y8, (World.cell?_setCell_other _ ⟨w.heap.size + 1, 0, none⟩ ⟨w.heap.size + 1, 9, none⟩ _ (by simp)).trans h.y9, (World.cell?_setCell_other _ ⟨w.heap.size + 1, 0, none⟩ ⟨w.heap.size + 1, 10, none⟩ _ (by simp)).trans h.y10, fun o => by rw [World.frozen?_setCell]; exact h.fr o, fun o => by rw [World.frozen?_setCell]; exact h.fy o⟩
theorem St.set1 {w W : World} {x0 x1 x2 x3 x4 x5 x6 x7 x8 x9 x10 : Value} (h : St w W x0 x1 x2 x3 x4 x5 x6 x7 x8 x9 x10) (v : Value) : St w (W.setCell ⟨w.heap.size + 1, 1, none⟩ v) x0 v x2 x3 x4 x5 x6 x7 x8 x9 x10 :=
  ⟨h.bel.setCell (by simp) _, by have := h.siz; simpa using this, (World.cell?_setCell_other _ ⟨w.heap.size + 1, 1, none⟩ ⟨w.heap.size, 0, none⟩ _ (by simp)).trans h.r0, (World.cell?_setCell_other _ ⟨w.heap.size + 1, 1, none⟩ ⟨w.heap.size, 1, none⟩ _ (by simp)).trans h.r1, (World.cell?_setCell_other _ ⟨w.heap.size + 1, 1, none⟩ ⟨w.heap.size, 2, none⟩ _ (by simp)).trans h.r2, (World.cell?_setCell_other _ ⟨w.heap.size + 1, 1, none⟩ ⟨w.heap.size, 3, none⟩ _ (by simp)).trans h.r3, (World.cell?_setCell_other _ ⟨w.heap.size + 1, 1, none⟩ ⟨w.heap.size, 4, none⟩ _ (by simp)).trans h.r4, (World.cell?_setCell_other _ ⟨w.heap.size + 1, 1, none⟩ ⟨w.heap.size, 5, none⟩ _ (by simp)).trans h.r5, (World.cell?_setCell_other _ ⟨w.heap.size + 1, 1, none⟩ ⟨w.heap.size, 6, none⟩ _ (by simp)).trans h.r6, (World.cell?_setCell_other _ ⟨w.heap.size + 1, 1, none⟩ ⟨w.heap.size, 7, none⟩ _ (by simp)).trans h.r7, (World.cell?_setCell_other _ ⟨w.heap.size + 1, 1, none⟩ ⟨w.heap.size, 8, none⟩ _ (by simp)).trans h.r8, (World.cell?_setCell_other _ ⟨w.heap.size + 1, 1, none⟩ ⟨w.heap.size, 9, none⟩ _ (by simp)).trans h.r9, (World.cell?_setCell_other _ ⟨w.heap.size + 1, 1, none⟩ ⟨w.heap.size, 10, none⟩ _ (by simp)).trans h.r10, (World.cell?_setCell_other _ ⟨w.heap.size + 1, 1, none⟩ ⟨w.heap.size + 1, 0, none⟩ _ (by simp)).trans h.y0, World.cell?_setCell_same _ _ _ h.y1, (World.cell?_setCell_other _ ⟨w.heap.size + 1, 1, none⟩ ⟨w.heap.size + 1, 2, none⟩ _ (by simp)).trans h.y2, (World.cell?_setCell_other _ ⟨w.heap.size + 1, 1, none⟩ ⟨w.heap.size + 1, 3, none⟩ _ (by simp)).trans h.y3, (World.cell?_setCell_other _ ⟨w.heap.size + 1, 1, none⟩ ⟨w.heap.size + 1, 4, none⟩ _ (by simp)).trans h.y4, (World.cell?_setCell_other _ ⟨w.heap.size + 1, 1, none⟩ ⟨w.heap.size + 1, 5, none⟩ _ (by simp)).trans h.y5, (World.cell?_setCell_other _ ⟨w.heap.size + 1, 1, none⟩ ⟨w.heap.size + 1, 6, none⟩ _ (by simp)).trans h.y6, (World.cell?_setCell_other _ ⟨w.heap.size + 1, 1, none⟩ ⟨w.heap.size + 1, 7, none⟩ _ (by simp)).trans h.y7, (World.cell?_setCell_other _ ⟨w.heap.size + 1, 1, none⟩ ⟨w.heap.size + 1, 8, none⟩ _ (by simp)).trans h.y8, (World.cell?_setCell_other _ ⟨w.heap.size + 1, 1, none⟩ ⟨w.heap.size + 1, 9, none⟩ _ (by simp)).trans h.y9, (World.cell?_setCell_other _ ⟨w.heap.size + 1, 1, none⟩ ⟨w.heap.size + 1, 10, none⟩ _ (by simp)).trans h.y10, fun o => by rw [World.frozen?_setCell]; exact h.fr o, fun o => by rw [World.frozen?_setCell]; exact h.fy o⟩
theorem St.set2 {w W : World} {x0 x1 x2 x3 x4 x5 x6 x7 x8 x9 x10 : Value} (h : St w W x0 x1 x2 x3 x4 x5 x6 x7 x8 x9 x10) (v : Value) : St w (W.setCell ⟨w.heap.size + 1, 2, none⟩ v) x0 x1 v x3 x4 x5 x6 x7 x8 x9 x10 :=
  ⟨h.bel.setCell (by simp) _, by have := h.siz; simpa using this, (World.cell?_setCell_other _ ⟨w.heap.size + 1, 2, none⟩ ⟨w.heap.size, 0, none⟩ _ (by simp)).trans h.r0, (World.cell?_setCell_other _ ⟨w.heap.size + 1, 2, none⟩ ⟨w.heap.size, 1, none⟩ _ (by simp)).trans h.r1, (World.cell?_setCell_other _ ⟨w.heap.size + 1, 2, none⟩ ⟨w.heap.size, 2, none⟩ _ (by simp)).trans h.r2, (World.cell?_setCell_other _ ⟨w.heap.size + 1, 2, none⟩ ⟨w.heap.size, 3, none⟩ _ (by simp)).trans h.r3, (World.cell?_setCell_other _ ⟨w.heap.size + 1, 2, none⟩ ⟨w.heap.size, 4, none⟩ _ (by simp)).trans h.r4, (World.cell?_setCell_other _ ⟨w.heap.size + 1, 2, none⟩ ⟨w.heap.size, 5, none⟩ _ (by simp)).trans h.r5, (World.cell?_setCell_other _ ⟨w.heap.size + 1, 2, none⟩ ⟨w.heap.size, 6, none⟩ _ (by simp)).trans h.r6, (World.cell?_setCell_other _ ⟨w.heap.size + 1, 2, none⟩ ⟨w.heap.size, 7, none⟩ _ (by simp)).trans h.r7, (World.cell?_setCell_other _ ⟨w.heap.size + 1, 2, none⟩ ⟨w.heap.size, 8, none⟩ _ (by simp)).trans h.r8, (World.cell?_setCell_other _ ⟨w.heap.size + 1, 2, none⟩ ⟨w.heap.size, 9, none⟩ _ (by simp)).trans h.r9, (World.cell?_setCell_other _ ⟨w.heap.size + 1, 2, none⟩ ⟨w.heap.size, 10, none⟩ _ (by simp)).trans h.r10, (World.cell?_setCell_other _ ⟨w.heap.size + 1, 2, none⟩ ⟨w.heap.size + 1, 0, none⟩ _ (by simp)).trans h.y0, (World.cell?_setCell_other _ ⟨w.heap.size + 1, 2, none⟩ ⟨w.heap.size + 1, 1, none⟩ _ (by simp)).trans h.y1, World.cell?_setCell_same _ _ _ h.y2, (World.cell?_setCell_other _ ⟨w.heap.size + 1, 2, none⟩ ⟨w.heap.size + 1, 3, none⟩ _ (by simp)).trans h.y3, (World.cell?_setCell_other _ ⟨w.heap.size + 1, 2, none⟩ ⟨w.heap.size + 1, 4, none⟩ _ (by simp)).trans h.y4, (World.cell?_setCell_other _ ⟨w.heap.size + 1, 2, none⟩ ⟨w.heap.size + 1, 5, none⟩ _ (by simp)).trans h.y5, (World.cell?_setCell_other _ ⟨w.heap.size + 1, 2, none⟩ ⟨w.heap.size + 1, 6, none⟩ _ (by simp)).trans h.y6, (World.cell?_setCell_other _ ⟨w.heap.size + 1, 2, none⟩ ⟨w.heap.size + 1, 7, none⟩ _ (by simp)).trans h.y7, (World.cell?_setCell_other _ ⟨w.heap.size + 1, 2, none⟩ ⟨w.heap.size + 1, 8, none⟩ _ (by simp)).trans h.y8, (World.cell?_setCell_other _ ⟨w.heap.size + 1, 2, none⟩ ⟨w.heap.size + 1, 9, none⟩ _ (by simp)).trans h.y9, (World.cell?_setCell_other _ ⟨w.heap.size + 1, 2, none⟩ ⟨w.heap.size + 1, 10, none⟩ _ (by simp)).trans h.y10, fun o => by rw [World.frozen?_setCell]; exact h.fr o, fun o => by rw [World.frozen?_setCell]; exact h.fy o⟩
theorem St.set3 {w W : World} {x0 x1 x2 x3 x4 x5 x6 x7 x8 x9 x10 : Value} (h : St w W x0 x1 x2 x3 x4 x5 x6 x7 x8 x9 x10) (v : Value) : St w (W.setCell ⟨w.heap.size + 1, 3, none⟩ v) x0 x1 x2 v x4 x5 x6 x7 x8 x9 x10 :=
  ⟨h.bel.setCell (by simp) _, by have := h.siz; simpa using this, (World.cell?_setCell_other _ ⟨w.heap.size + 1, 3, none⟩ ⟨w.heap.size, 0, none⟩ _ (by simp)).trans h.r0, (World.cell?_setCell_other _ ⟨w.heap.size + 1, 3, none⟩ ⟨w.heap.size, 1, none⟩ _ (by simp)).trans h.r1, (World.cell?_setCell_other _ ⟨w.heap.size + 1, 3, none⟩ ⟨w.heap.size, 2, none⟩ _ (by simp)).trans h.r2, (World.cell?_setCell_other _ ⟨w.heap.size + 1, 3, none⟩ ⟨w.heap.size, 3, none⟩ _ (by simp)).trans h.r3, (World.cell?_setCell_other _ ⟨w.heap.size + 1, 3, none⟩ ⟨w.heap.size, 4, none⟩ _ (by simp)).trans h.r4, (World.cell?_setCell_other _ ⟨w.heap.size + 1, 3, none⟩ ⟨w.heap.size, 5, none⟩ _ (by simp)).trans h.r5, (World.cell?_setCell_other _ ⟨w.heap.size + 1, 3, none⟩ ⟨w.heap.size, 6, none⟩ _ (by simp)).trans h.r6, (World.cell?_setCell_other _ ⟨w.heap.size + 1, 3, none⟩ ⟨w.heap.size, 7, none⟩ _ (by simp)).trans h.r7, (World.cell?_setCell_other _ ⟨w.heap.size + 1, 3, none⟩ ⟨w.heap.size, 8, none⟩ _ (by simp)).trans h.r8, (World.cell?_setCell_other _ ⟨w.heap.size + 1, 3, none⟩ ⟨w.heap.size, 9, none⟩ _ (by simp)).trans h.r9, (World.cell?_setCell_other _ ⟨w.heap.size + 1, 3, none⟩ ⟨w.heap.size, 10, none⟩ _ (by simp)).trans h.r10, (World.cell?_setCell_other _ ⟨w.heap.size + 1, 3, none⟩ ⟨w.heap.size + 1, 0, none⟩ _ (by simp)).trans h.y0, (World.cell?_setCell_other _ ⟨w.heap.size + 1, 3, none⟩ ⟨w.heap.size + 1, 1, none⟩ _ (by simp)).trans h.y1, (World.cell?_setCell_other _ ⟨w.heap.size + 1, 3, none⟩ ⟨w.heap.size + 1, 2, none⟩ _ (by simp)).trans h.y2, World.cell?_setCell_same _ _ _ h.y3, (World.cell?_setCell_other _ ⟨w.heap.size + 1, 3, none⟩ ⟨w.heap.size + 1, 4, none⟩ _ (by simp)).trans h.y4, (World.cell?_setCell_other _ ⟨w.heap.size + 1, 3, none⟩ ⟨w.heap.size + 1, 5, none⟩ _ (by simp)).trans h.y5, (World.cell?_setCell_other _ ⟨w.heap.size + 1, 3, none⟩ ⟨w.heap.size + 1, 6, none⟩ _ (by simp)).trans h.y6, (World.cell?_setCell_other _ ⟨w.heap.size + 1, 3, none⟩ ⟨w.heap.size + 1, 7, none⟩ _ (by simp)).trans h.y7, (World.cell?_setCell_other _ ⟨w.heap.size + 1, 3, none⟩ ⟨w.heap.size + 1, 8, none⟩ _ (by simp)).trans h.y8, (World.cell?_setCell_other _ ⟨w.heap.size + 1, 3, none⟩ ⟨w.heap.size + 1, 9, none⟩ _ (by simp)).trans h.y9, (World.cell?_setCell_other _ ⟨w.heap.size + 1, 3, none⟩ ⟨w.heap.size + 1, 10, none⟩ _ (by simp)).trans h.y10, fun o => by rw [World.frozen?_setCell]; exact h.fr o, fun o => by rw [World.frozen?_setCell]; exact h.fy o⟩
theorem St.set4 {w W : World} {x0 x1 x2 x3 x4 x5 x6 x7 x8 x9 x10 : Value} (h : St w W x0 x1 x2 x3 x4 x5 x6 x7 x8 x9 x10) (v : Value) : St w (W.setCell ⟨w.heap.size + 1, 4, none⟩ v) x0 x1 x2 x3 v x5 x6 x7 x8 x9 x10 :=
  ⟨h.bel.setCell (by simp) _, by have := h.siz; simpa using this, (World.cell?_setCell_other _ ⟨w.heap.size + 1, 4, none⟩ ⟨w.heap.size, 0, none⟩ _ (by simp)).trans h.r0, (World.cell?_setCell_other _ ⟨w.heap.size + 1, 4, none⟩ ⟨w.heap.size, 1, none⟩ _ (by simp)).trans h.r1, (World.cell?_setCell_other _ ⟨w.heap.size + 1, 4, none⟩ ⟨w.heap.size, 2, none⟩ _ (by simp)).trans h.r2, (World.cell?_setCell_other _ ⟨w.heap.size + 1, 4, none⟩ ⟨w.heap.size, 3, none⟩ _ (by simp)).trans h.r3, (World.cell?_setCell_other _ ⟨w.heap.size + 1, 4, none⟩ ⟨w.heap.size, 4, none⟩ _ (by simp)).trans h.r4, (World.cell?_setCell_other _ ⟨w.heap.size + 1, 4, none⟩ ⟨w.heap.size, 5, none⟩ _ (by simp)).trans h.r5, (World.cell?_setCell_other _ ⟨w.heap.size + 1, 4, none⟩ ⟨w.heap.size, 6, none⟩ _ (by simp)).trans h.r6, (World.cell?_setCell_other _ ⟨w.heap.size + 1, 4, none⟩ ⟨w.heap.size, 7, none⟩ _ (by simp)).trans h.r7, (World.cell?_setCell_other _ ⟨w.heap.size + 1, 4, none⟩ ⟨w.heap.size, 8, none⟩ _ (by simp)).trans h.r8, (World.cell?_setCell_other _ ⟨w.heap.size + 1, 4, none⟩ ⟨w.heap.size, 9, none⟩ _ (by simp)).trans h.r9, (World.cell?_setCell_other _ ⟨w.heap.size + 1, 4, none⟩ ⟨w.heap.size, 10, none⟩ _ (by simp)).trans h.r10, (World.cell?_setCell_other _ ⟨w.heap.size + 1, 4, none⟩ ⟨w.heap.size + 1, 0, none⟩ _ (by simp)).trans h.y0, (World.cell?_setCell_other _ ⟨w.heap.size + 1, 4, none⟩ ⟨w.heap.size + 1, 1, none⟩ _ (by simp)).trans h.y1, (World.cell?_setCell_other _ ⟨w.heap.size + 1, 4, none⟩ ⟨w.heap.size + 1, 2, none⟩ _ (by simp)).trans h.y2, (World.cell?_setCell_other _ ⟨w.heap.size + 1, 4, none⟩ ⟨w.heap.size + 1, 3, none⟩ _ (by simp)).trans h.y3, World.cell?_setCell_same _ _ _ h.y4, (World.cell?_setCell_other _ ⟨w.heap.size + 1, 4, none⟩ ⟨w.heap.size + 1, 5, none⟩ _ (by simp)).trans h.y5, (World.cell?_setCell_other _ ⟨w.heap.size + 1, 4, none⟩ ⟨w.heap.size + 1, 6, none⟩ _ (by simp)).trans h.y6, (World.cell?_setCell_other _ ⟨w.heap.size + 1, 4, none⟩ ⟨w.heap.size + 1, 7, none⟩ _ (by simp)).trans h.y7, (World.cell?_setCell_other _ ⟨w.heap.size + 1, 4, none⟩ ⟨w.heap.size + 1, 8, none⟩ _ (by simp)).trans h.y8, (World.cell?_setCell_other _ ⟨w.heap.size + 1, 4, none⟩ ⟨w.heap.size + 1, 9, none⟩ _ (by simp)).trans h.y9, (World.cell?_setCell_other _ ⟨w.heap.size + 1, 4, none⟩ ⟨w.heap.size + 1, 10, none⟩ _ (by simp)).trans h.y10, fun o => by rw [World.frozen?_setCell]; exact h.fr o, fun o => by rw [World.frozen?_setCell]; exact h.fy o⟩
theorem St.set5 {w W : World} {x0 x1 x2 x3 x4 x5 x6 x7 x8 x9 x10 : Value} (h : St w W x0 x1 x2 x3 x4 x5 x6 x7 x8 x9 x10) (v : Value) : St w (W.setCell ⟨w.heap.size + 1, 5, none⟩ v) x0 x1 x2 x3 x4 v x6 x7 x8 x9 x10 :=
  ⟨h.bel.setCell (by simp) _, by have := h.siz; simpa using this, (World.cell?_setCell_other _ ⟨w.heap.size + 1, 5, none⟩ ⟨w.heap.size, 0, none⟩ _ (by simp)).trans h.r0, (World.cell?_setCell_other _ ⟨w.heap.size + 1, 5, none⟩ ⟨w.heap.size, 1, none⟩ _ (by simp)).trans h.r1, (World.cell?_setCell_other _ ⟨w.heap.size + 1, 5, none⟩ ⟨w.heap.size, 2, none⟩ _ (by simp)).trans h.r2, (World.cell?_setCell_other _ ⟨w.heap.size + 1, 5, none⟩ ⟨w.heap.size, 3, none⟩ _ (by simp)).trans h.r3, (World.cell?_setCell_other _ ⟨w.heap.size + 1, 5, none⟩ ⟨w.heap.size, 4, none⟩ _ (by simp)).trans h.r4, (World.cell?_setCell_other _ ⟨w.heap.size + 1, 5, none⟩ ⟨w.heap.size, 5, none⟩ _ (by simp)).trans h.r5, (World.cell?_setCell_other _ ⟨w.heap.size + 1, 5, none⟩ ⟨w.heap.size, 6, none⟩ _ (by simp)).trans h.r6, (World.cell?_setCell_other _ ⟨w.heap.size + 1, 5, none⟩ ⟨w.heap.size, 7, none⟩ _ (by simp)).trans h.r7, (World.cell?_setCell_other _ ⟨w.heap.size + 1, 5, none⟩ ⟨w.heap.size, 8, none⟩ _ (by simp)).trans h.r8, (World.cell?_setCell_other _ ⟨w.heap.size + 1, 5, none⟩ ⟨w.heap.size, 9, none⟩ _ (by simp)).trans h.r9, (World.cell?_setCell_other _ ⟨w.heap.size + 1, 5, none⟩ ⟨w.heap.size, 10, none⟩ _ (by simp)).trans h.r10, (World.cell?_setCell_other _ ⟨w.heap.size + 1, 5, none⟩ ⟨w.heap.size + 1, 0, none⟩ _ (by simp)).trans h.y0, (World.cell?_setCell_other _ ⟨w.heap.size + 1, 5, none⟩ ⟨w.heap.size + 1, 1, none⟩ _ (by simp)).trans h.y1, (World.cell?_setCell_other _ ⟨w.heap.size + 1, 5, none⟩ ⟨w.heap.size + 1, 2, none⟩ _ (by simp)).trans h.y2, (World.cell?_setCell_other _ ⟨w.heap.size + 1, 5, none⟩ ⟨w.heap.size + 1, 3, none⟩ _ (by simp)).trans h.y3, (World.cell?_setCell_other _ ⟨w.heap.size + 1, 5, none⟩ ⟨w.heap.size + 1, 4, none⟩ _ (by simp)).trans h.y4, World.cell?_setCell_same _ _ _ h.y5, (World.cell?_setCell_other _ ⟨w.heap.size + 1, 5, none⟩ ⟨w.heap.size + 1, 6, none⟩ _ (by simp)).trans h.y6, (World.cell?_setCell_other _ ⟨w.heap.size + 1, 5, none⟩ ⟨w.heap.size + 1, 7, none⟩ _ (by simp)).trans h.y7, (World.cell?_setCell_other _ ⟨w.heap.size + 1, 5, none⟩ ⟨w.heap.size + 1, 8, none⟩ _ (by simp)).trans h.y8, (World.cell?_setCell_other _ ⟨w.heap.size + 1, 5, none⟩ ⟨w.heap.size + 1, 9, none⟩ _ (by simp)).trans h.y9, (World.cell?_setCell_other _ ⟨w.heap.size + 1, 5, none⟩ ⟨w.heap.size + 1, 10, none⟩ _ (by simp)).trans h.y10, fun o => by rw [World.frozen?_setCell]; exact h.fr o, fun o => by rw [World.frozen?_setCell]; exact h.fy o⟩
theorem St.set6 {w W : World} {x0 x1 x2 x3 x4 x5 x6 x7 x8 x9 x10 : Value} (h : St w W x0 x1 x2 x3 x4 x5 x6 x7 x8 x9 x10) (v : Value) : St w (W.setCell ⟨w.heap.size + 1, 6, none⟩ v) x0 x1 x2 x3 x4 x5 v x7 x8 x9 x10 :=
  ⟨h.bel.setCell (by simp) _, by have := h.siz; simpa using this, (World.cell?_setCell_other _ ⟨w.heap.size + 1, 6, none⟩ ⟨w.heap.size, 0, none⟩ _ (by simp)).trans h.r0, (World.cell?_setCell_other _ ⟨w.heap.size + 1, 6, none⟩ ⟨w.heap.size, 1, none⟩ _ (by simp)).trans h.r1, (World.cell?_setCell_other _ ⟨w.heap.size + 1, 6, none⟩ ⟨w.heap.size, 2, none⟩ _ (by simp)).trans h.r2, (World.cell?_setCell_other _ ⟨w.heap.size + 1, 6, none⟩ ⟨w.heap.size, 3, none⟩ _ (by simp)).trans h.r3, (World.cell?_setCell_other _ ⟨w.heap.size + 1, 6, none⟩ ⟨w.heap.size, 4, none⟩ _ (by simp)).trans h.r4, (World.cell?_setCell_other _ ⟨w.heap.size + 1, 6, none⟩ ⟨w.heap.size, 5, none⟩ _ (by simp)).trans h.r5, (World.cell?_setCell_other _ ⟨w.heap.size + 1, 6, none⟩ ⟨w.heap.size, 6, none⟩ _ (by simp)).trans h.r6, (World.cell?_setCell_other _ ⟨w.heap.size + 1, 6, none⟩ ⟨w.heap.size, 7, none⟩ _ (by simp)).trans h.r7, (World.cell?_setCell_other _ ⟨w.heap.size + 1, 6, none⟩ ⟨w.heap.size, 8, none⟩ _ (by simp)).trans h.r8, (World.cell?_setCell_other _ ⟨w.heap.size + 1, 6, none⟩ ⟨w.heap.size, 9, none⟩ _ (by simp)).trans h.r9, (World.cell?_setCell_other _ ⟨w.heap.size + 1, 6, none⟩ ⟨w.heap.size, 10, none⟩ _ (by simp)).trans h.r10, (World.cell?_setCell_other _ ⟨w.heap.size + 1, 6, none⟩ ⟨w.heap.size + 1, 0, none⟩ _ (by simp)).trans h.y0, (World.cell?_setCell_other _ ⟨w.heap.size + 1, 6, none⟩ ⟨w.heap.size + 1, 1, none⟩ _ (by simp)).trans h.y1, (World.cell?_setCell_other _ ⟨w.heap.size + 1, 6, none⟩ ⟨w.heap.size + 1, 2, none⟩ _ (by simp)).trans h.y2, (World.cell?_setCell_other _ ⟨w.heap.size + 1, 6, none⟩ ⟨w.heap.size + 1, 3, none⟩ _ (by simp)).trans h.y3, (World.cell?_setCell_other _ ⟨w.heap.size + 1, 6, none⟩ ⟨w.heap.size + 1, 4, none⟩ _ (by simp)).trans h.y4, (World.cell?_setCell_other _ ⟨w.heap.size + 1, 6, none⟩ ⟨w.heap.size + 1, 5, none⟩ _ (by simp)).trans h.y5, World.cell?_setCell_same _ _ _ h.y6, (World.cell?_setCell_other _ ⟨w.heap.size + 1, 6, none⟩ ⟨w.heap.size + 1, 7, none⟩ _ (by simp)).trans h.y7, (World.cell?_setCell_other _ ⟨w.heap.size + 1, 6, none⟩ ⟨w.heap.size + 1, 8, none⟩ _ (by simp)).trans h.y8, (World.cell?_setCell_other _ ⟨w.heap.size + 1, 6, none⟩ ⟨w.heap.size + 1, 9, none⟩ _ (by simp)).trans h.y9, (World.cell?_setCell_other _ ⟨w.heap.size + 1, 6, none⟩ ⟨w.heap.size + 1, 10, none⟩ _ (by simp)).trans h.y10, fun o => by rw [World.frozen?_setCell]; exact h.fr o, fun o => by rw [World.frozen?_setCell]; exact h.fy o⟩
theorem St.set7 {w W : World} {x0 x1 x2 x3 x4 x5 x6 x7 x8 x9 x10 : Value} (h : St w W x0 x1 x2 x3 x4 x5 x6 x7 x8 x9 x10) (v : Value) : St w (W.setCell ⟨w.heap.size + 1, 7, none⟩ v) x0 x1 x2 x3 x4 x5 x6 v x8 x9 x10 :=
  ⟨h.bel.setCell (by simp) _, by have := h.siz; simpa using this, (World.cell?_setCell_other _ ⟨w.heap.size + 1, 7, none⟩ ⟨w.heap.size, 0, none⟩ _ (by simp)).trans h.r0, (World.cell?_setCell_other _ ⟨w.heap.size + 1, 7, none⟩ ⟨w.heap.size, 1, none⟩ _ (by simp)).trans h.r1, (World.cell?_setCell_other _ ⟨w.heap.size + 1, 7, none⟩ ⟨w.heap.size, 2, none⟩ _ (by simp)).trans h.r2, (World.cell?_setCell_other _ ⟨w.heap.size + 1, 7, none⟩ ⟨w.heap.size, 3, none⟩ _ (by simp)).trans h.r3, (World.cell?_setCell_other _ ⟨w.heap.size + 1, 7, none⟩ ⟨w.heap.size, 4, none⟩ _ (by simp)).trans h.r4, (World.cell?_setCell_other _ ⟨w.heap.size + 1, 7, none⟩ ⟨w.heap.size, 5, none⟩ _ (by simp)).trans h.r5, (World.cell?_setCell_other _ ⟨w.heap.size + 1, 7, none⟩ ⟨w.heap.size, 6, none⟩ _ (by simp)).trans h.r6, (World.cell?_setCell_other _ ⟨w.heap.size + 1, 7, none⟩ ⟨w.heap.size, 7, none⟩ _ (by simp)).trans h.r7, (World.cell?_setCell_other _ ⟨w.heap.size + 1, 7, none⟩ ⟨w.heap.size, 8, none⟩ _ (by simp)).trans h.r8, (World.cell?_setCell_other _ ⟨w.heap.size + 1, 7, none⟩ ⟨w.heap.size, 9, none⟩ _ (by simp)).trans h.r9, (World.cell?_setCell_other _ ⟨w.heap.size + 1, 7, none⟩ ⟨w.heap.size, 10, none⟩ _ (by simp)).trans h.r10, (World.cell?_setCell_other _ ⟨w.heap.size + 1, 7, none⟩ ⟨w.heap.size + 1, 0, none⟩ _ (by simp)).trans h.y0, (World.cell?_setCell_other _ ⟨w.heap.size + 1, 7, none⟩ ⟨w.heap.size + 1, 1, none⟩ _ (by simp)).trans h.y1, (World.cell?_setCell_other _ ⟨w.heap.size + 1, 7, none⟩ ⟨w.heap.size + 1, 2, none⟩ _ (by simp)).trans h.y2, (World.cell?_setCell_other _ ⟨w.heap.size + 1, 7, none⟩ ⟨w.heap.size + 1, 3, none⟩ _ (by simp)).trans h.y3, (World.cell?_setCell_other _ ⟨w.heap.size + 1, 7, none⟩ ⟨w.heap.size + 1, 4, none⟩ _ (by simp)).trans h.y4, (World.cell?_setCell_other _ ⟨w.heap.size + 1, 7, none⟩ ⟨w.heap.size + 1, 5, none⟩ _ (by simp)).trans h.y5, (World.cell?_setCell_other _ ⟨w.heap.size + 1, 7, none⟩ ⟨w.heap.size + 1, 6, none⟩ _ (by simp)).trans h.y6, World.cell?_setCell_same _ _ _ h.y7, (World.cell?_setCell_other _ ⟨w.heap.size + 1, 7, none⟩ ⟨w.heap.size + 1, 8, none⟩ _ (by simp)).trans h.y8, (World.cell?_setCell_other _ ⟨w.heap.size + 1, 7, none⟩ ⟨w.heap.size + 1, 9, none⟩ _ (by simp)).trans h.y9, (World.cell?_setCell_other _ ⟨w.heap.size + 1, 7, none⟩ ⟨w.heap.size + 1, 10, none⟩ _ (by simp)).trans h.y10, fun o => by rw [World.frozen?_setCell]; exact h.fr o, fun o => by rw [World.frozen?_setCell]; exact h.fy o⟩
theorem St.set8 {w W : World} {x0 x1 x2 x3 x4 x5 x6 x7 x8 x9 x10 : Value} (h : St w W x0 x1 x2 x3 x4 x5 x6 x7 x8 x9 x10) (v : Value) : St w (W.setCell ⟨w.heap.size + 1, 8, none⟩ v) x0 x1 x2 x3 x4 x5 x6 x7 v x9 x10 :=
  ⟨h.bel.setCell (by simp) _, by have := h.siz; simpa using this, (World.cell?_setCell_other _ ⟨w.heap.size + 1, 8, none⟩ ⟨w.heap.size, 0, none⟩ _ (by simp)).trans h.r0, (World.cell?_setCell_other _ ⟨w.heap.size + 1, 8, none⟩ ⟨w.heap.size, 1, none⟩ _ (by simp)).trans h.r1, (World.cell?_setCell_other _ ⟨w.heap.size + 1, 8, none⟩ ⟨w.heap.size, 2, none⟩ _ (by simp)).trans h.r2, (World.cell?_setCell_other _ ⟨w.heap.size + 1, 8, none⟩ ⟨w.heap.size, 3, none⟩ _ (by simp)).trans h.r3, (World.cell?_setCell_other _ ⟨w.heap.size + 1, 8, none⟩ ⟨w.heap.size, 4, none⟩ _ (by simp)).trans h.r4, (World.cell?_setCell_other _ ⟨w.heap.size + 1, 8, none⟩ ⟨w.heap.size, 5, none⟩ _ (by simp)).trans h.r5, (World.cell?_setCell_other _ ⟨w.heap.size + 1, 8, none⟩ ⟨w.heap.size, 6, none⟩ _ (by simp)).trans h.r6, (World.cell?_setCell_other _ ⟨w.heap.size + 1, 8, none⟩ ⟨w.heap.size, 7, none⟩ _ (by simp)).trans h.r7, (World.cell?_setCell_other _ ⟨w.heap.size + 1, 8, none⟩ ⟨w.heap.size, 8, none⟩ _ (by simp)).trans h.r8, (World.cell?_setCell_other _ ⟨w.heap.size + 1, 8, none⟩ ⟨w.heap.size, 9, none⟩ _ (by simp)).trans h.r9, (World.cell?_setCell_other _ ⟨w.heap.size + 1, 8, none⟩ ⟨w.heap.size, 10, none⟩ _ (by simp)).trans h.r10, (World.cell?_setCell_other _ ⟨w.heap.size + 1, 8, none⟩ ⟨w.heap.size + 1, 0, none⟩ _ (by simp)).trans h.y0, (World.cell?_setCell_other _ ⟨w.heap.size + 1, 8, none⟩ ⟨w.heap.size + 1, 1, none⟩ _ (by simp)).trans h.y1, (World.cell?_setCell_other _ ⟨w.heap.size + 1, 8, none⟩ ⟨w.heap.size + 1, 2, none⟩ _ (by simp)).trans h.y2, (World.cell?_setCell_other _ ⟨w.heap.size + 1, 8, none⟩ ⟨w.heap.size + 1, 3, none⟩ _ (by simp)).trans h.y3, (World.cell?_setCell_other _ ⟨w.heap.size + 1, 8, none⟩ ⟨w.heap.size + 1, 4, none⟩ _ (by simp)).trans h.y4, (World.cell?_setCell_other _ ⟨w.heap.size + 1, 8, none⟩ ⟨w.heap.size + 1, 5, none⟩ _ (by simp)).trans h.y5, (World.cell?_setCell_other _ ⟨w.heap.size + 1, 8, none⟩ ⟨w.heap.size + 1, 6, none⟩ _ (by simp)).trans h.y6, (World.cell?_setCell_other _ ⟨w.heap.size + 1, 8, none⟩ ⟨w.heap.size + 1, 7, none⟩ _ (by simp)).trans h.y7, World.cell?_setCell_same _ _ _ h.y8, (World.cell?_setCell_other _ ⟨w.heap.size + 1, 8, none⟩ ⟨w.heap.size + 1, 9, none⟩ _ (by simp)).trans h.y9, (World.cell?_setCell_other _ ⟨w.heap.size + 1, 8, none⟩ ⟨w.heap.size + 1, 10, none⟩ _ (by simp)).trans h.y10, fun o => by rw [World.frozen?_setCell]; exact h.fr o, fun o => by rw [World.frozen?_setCell]; exact h.fy o⟩
theorem St.set9 {w W : World} {x0 x1 x2 x3 x4 x5 x6 x7 x8 x9 x10 : Value} (h : St w W x0 x1 x2 x3 x4 x5 x6 x7 x8 x9 x10) (v : Value) : St w (W.setCell ⟨w.heap.size + 1, 9, none⟩ v) x0 x1 x2 x3 x4 x5 x6 x7 x8 v x10 :=
  ⟨h.bel.setCell (by simp) _, by have := h.siz; simpa using this, (World.cell?_setCell_other _ ⟨w.heap.size + 1, 9, none⟩ ⟨w.heap.size, 0, none⟩ _ (by simp)).trans h.r0, (World.cell?_setCell_other _ ⟨w.heap.size + 1, 9, none⟩ ⟨w.heap.size, 1, none⟩ _ (by simp)).trans h.r1, (World.cell?_setCell_other _ ⟨w.heap.size + 1, 9, none⟩ ⟨w.heap.size, 2, none⟩ _ (by simp)).trans h.r2, (World.cell?_setCell_other _ ⟨w.heap.size + 1, 9, none⟩ ⟨w.heap.size, 3, none⟩ _ (by simp)).trans h.r3, (World.cell?_setCell_other _ ⟨w.heap.size + 1, 9, none⟩ ⟨w.heap.size, 4, none⟩ _ (by simp)).trans h.r4, (World.cell?_setCell_other _ ⟨w.heap.size + 1, 9, none⟩ ⟨w.heap.size, 5, none⟩ _ (by simp)).trans h.r5, (World.cell?_setCell_other _ ⟨w.heap.size + 1, 9, none⟩ ⟨w.heap.size, 6, none⟩ _ (by simp)).trans h.r6, (World.cell?_setCell_other _ ⟨w.heap.size + 1, 9, none⟩ ⟨w.heap.size, 7, none⟩ _ (by simp)).trans h.r7, (World.cell?_setCell_other _ ⟨w.heap.size + 1, 9, none⟩ ⟨w.heap.size, 8, none⟩ _ (by simp)).trans h.r8, (World.cell?_setCell_other _ ⟨w.heap.size + 1, 9, none⟩ ⟨w.heap.size, 9, none⟩ _ (by simp)).trans h.r9, (World.cell?_setCell_other _ ⟨w.heap.size + 1, 9, none⟩ ⟨w.heap.size, 10, none⟩ _ (by simp)).trans h.r10, (World.cell?_setCell_other _ ⟨w.heap.size + 1, 9, none⟩ ⟨w.heap.size + 1, 0, none⟩ _ (by simp)).trans h.y0, (World.cell?_setCell_other _ ⟨w.heap.size + 1, 9, none⟩ ⟨w.heap.size + 1, 1, none⟩ _ (by simp)).trans h.y1, (World.cell?_setCell_other _ ⟨w.heap.size + 1, 9, none⟩ ⟨w.heap.size + 1, 2, none⟩ _ (by simp)).trans h.y2, (World.cell?_setCell_other _ ⟨w.heap.size + 1, 9, none⟩ ⟨w.heap.size + 1, 3, none⟩ _ (by simp)).trans h.y3, (World.cell?_setCell_other _ ⟨w.heap.size + 1, 9, none⟩ ⟨w.heap.size + 1, 4, none⟩ _ (by simp)).trans h.y4, (World.cell?_setCell_other _ ⟨w.heap.size + 1, 9, none⟩ ⟨w.heap.size + 1, 5, none⟩ _ (by simp)).trans h.y5, (World.cell?_setCell_other _ ⟨w.heap.size + 1, 9, none⟩ ⟨w.heap.size + 1, 6, none⟩ _ (by simp)).trans h.y6, (World.cell?_setCell_other _ ⟨w.heap.size + 1, 9, none⟩ ⟨w.heap.size + 1, 7, none⟩ _ (by simp)).trans h.y7, (World.cell?_setCell_other _ ⟨w.heap.size + 1, 9, none⟩ ⟨w.heap.size + 1, 8, none⟩ _ (by simp)).trans h.y8, World.cell?_setCell_same _ _ _ h.y9, (World.cell?_setCell_other _ ⟨w.heap.size + 1, 9, none⟩ ⟨w.heap.size + 1, 10, none⟩ _ (by simp)).trans h.y10, fun o => by rw [World.frozen?_setCell]; exact h.fr o, fun o => by rw [World.frozen?_setCell]; exact h.fy o⟩
theorem St.set10 {w W : World} {x0 x1 x2 x3 x4 x5 x6 x7 x8 x9 x10 : Value} (h : St w W x0 x1 x2 x3 x4 x5 x6 x7 x8 x9 x10) (v : Value) : St w (W.setCell ⟨w.heap.size + 1, 10, none⟩ v) x0 x1 x2 x3 x4 x5 x6 x7 x8 x9 v :=
  ⟨h.bel.setCell (by simp) _, by have := h.siz; simpa using this, (World.cell?_setCell_other _ ⟨w.heap.size + 1, 10, none⟩ ⟨w.heap.size, 0, none⟩ _ (by simp)).trans h.r0, (World.cell?_setCell_other _ ⟨w.heap.size + 1, 10, none⟩ ⟨w.heap.size, 1, none⟩ _ (by simp)).trans h.r1, (World.cell?_setCell_other _ ⟨w.heap.size + 1, 10, none⟩ ⟨w.heap.size, 2, none⟩ _ (by simp)).trans h.r2, (World.cell?_setCell_other _ ⟨w.heap.size + 1, 10, none⟩ ⟨w.heap.size, 3, none⟩ _ (by simp)).trans h.r3, (World.cell?_setCell_other _ ⟨w.heap.size + 1, 10, none⟩ ⟨w.heap.size, 4, none⟩ _ (by simp)).trans h.r4, (World.cell?_setCell_other _ ⟨w.heap.size + 1, 10, none⟩ ⟨w.heap.size, 5, none⟩ _ (by simp)).trans h.r5, (World.cell?_setCell_other _ ⟨w.heap.size + 1, 10, none⟩ ⟨w.heap.size, 6, none⟩ _ (by simp)).trans h.r6, (World.cell?_setCell_other _ ⟨w.heap.size + 1, 10, none⟩ ⟨w.heap.size, 7, none⟩ _ (by simp)).trans h.r7, (World.cell?_setCell_other _ ⟨w.heap.size + 1, 10, none⟩ ⟨w.heap.size, 8, none⟩ _ (by simp)).trans h.r8, (World.cell?_setCell_other _ ⟨w.heap.size + 1, 10, none⟩ ⟨w.heap.size, 9, none⟩ _ (by simp)).trans h.r9, (World.cell?_setCell_other _ ⟨w.heap.size + 1, 10, none⟩ ⟨w.heap.size, 10, none⟩ _ (by simp)).trans h.r10, (World.cell?_setCell_other _ ⟨w.heap.size + 1, 10, none⟩ ⟨w.heap.size + 1, 0, none⟩ _ (by simp)).trans h.y0, (World.cell?_setCell_other _ ⟨w.heap.size + 1, 10, none⟩ ⟨w.heap.size + 1, 1, none⟩ _ (by simp)).trans h.y1, (World.cell?_setCell_other _ ⟨w.heap.size + 1, 10, none⟩ ⟨w.heap.size + 1, 2, none⟩ _ (by simp)).trans h.y2, (World.cell?_setCell_other _ ⟨w.heap.size + 1, 10, none⟩ ⟨w.heap.size + 1, 3, none⟩ _ (by simp)).trans h.y3, (World.cell?_setCell_other _ ⟨w.heap.size + 1, 10, none⟩ ⟨w.heap.size + 1, 4, none⟩ _ (by simp)).trans h.y4, (World.cell?_setCell_other _ ⟨w.heap.size + 1, 10, none⟩ ⟨w.heap.size + 1, 5, none⟩ _ (by simp)).trans h.y5, (World.cell?_setCell_other _ ⟨w.heap.size + 1, 10, none⟩ ⟨w.heap.size + 1, 6, none⟩ _ (by simp)).trans h.y6, (World.cell?_setCell_other _ ⟨w.heap.size + 1, 10, none⟩ ⟨w.heap.size + 1, 7, none⟩ _ (by simp)).trans h.y7, (World.cell?_setCell_other _ ⟨w.heap.size + 1, 10, none⟩ ⟨w.heap.size + 1, 8, none⟩ _ (by simp)).trans h.y8, (World.cell?_setCell_other _ ⟨w.heap.size + 1, 10, none⟩ ⟨w.heap.size + 1, 9, none⟩ _ (by simp)).trans h.y9, World.cell?_setCell_same _ _ _ h.y10, fun o => by rw [World.frozen?_setCell]; exact h.fr o, fun o => by rw [World.frozen?_setCell]; exact h.fy o⟩

theorem St.init (w : World) (t : TypeId) : St w ((w.alloc (.cells #[.bool false, .int .i64 0, .int .i64 0, .int .i64 0, .int .i64 0, .slice none 0 0, .bool false, .int .i64 0, .string ⟨#[]⟩, .string ⟨#[]⟩, .int .i64 0] t)).alloc (.cells #[.bool false, .int .i64 0, .int .i64 0, .int .i64 0, .int .i64 0, .slice none 0 0, .bool false, .int .i64 0, .string ⟨#[]⟩, .string ⟨#[]⟩, .int .i64 0] t)) (.bool false) (.int .i64 0) (.int .i64 0) (.int .i64 0) (.int .i64 0) (.slice none 0 0) (.bool false) (.int .i64 0) (.string ⟨#[]⟩) (.string ⟨#[]⟩) (.int .i64 0) := by
  refine ⟨((Below.refl _ _).alloc (Nat.le_refl _) _).alloc (by simp) _, by simp, ?_, ?_, ?_, ?_, ?_, ?_, ?_, ?_, ?_, ?_, ?_, ?_, ?_, ?_, ?_, ?_, ?_, ?_, ?_, ?_, ?_, ?_, ?_, ?_⟩
  all_goals first | (intro o; simp [go_sem]; done) | (simp [go_sem]; done) | go_simp

end Pk
end Go.Proofs.Ytdjhhnolcafkiaa

/- A packet is read: the stem. -/
namespace Go.Proofs.Ytdjhhnolcafkiaa
open Go.RowKit Pk
namespace Pk
theorem below_fin {w W : World} {c0 c1 c2 c3 c4 c5 c6 c7 c8 c9 c10 : Value} (hb : Below w.heap.size w W) : Below w.heap.size w (((((((((((W.setCell ⟨w.heap.size, 0, none⟩ c0).setCell ⟨w.heap.size, 1, none⟩ c1).setCell ⟨w.heap.size, 2, none⟩ c2).setCell ⟨w.heap.size, 3, none⟩ c3).setCell ⟨w.heap.size, 4, none⟩ c4).setCell ⟨w.heap.size, 5, none⟩ c5).setCell ⟨w.heap.size, 6, none⟩ c6).setCell ⟨w.heap.size, 7, none⟩ c7).setCell ⟨w.heap.size, 8, none⟩ c8).setCell ⟨w.heap.size, 9, none⟩ c9).setCell ⟨w.heap.size, 10, none⟩ c10) := (((((((((((hb.setCell (p := ⟨w.heap.size, 0, none⟩) (Nat.le_refl _) _).setCell (p := ⟨w.heap.size, 1, none⟩) (Nat.le_refl _) _).setCell (p := ⟨w.heap.size, 2, none⟩) (Nat.le_refl _) _).setCell (p := ⟨w.heap.size, 3, none⟩) (Nat.le_refl _) _).setCell (p := ⟨w.heap.size, 4, none⟩) (Nat.le_refl _) _).setCell (p := ⟨w.heap.size, 5, none⟩) (Nat.le_refl _) _).setCell (p := ⟨w.heap.size, 6, none⟩) (Nat.le_refl _) _).setCell (p := ⟨w.heap.size, 7, none⟩) (Nat.le_refl _) _).setCell (p := ⟨w.heap.size, 8, none⟩) (Nat.le_refl _) _).setCell (p := ⟨w.heap.size, 9, none⟩) (Nat.le_refl _) _).setCell (p := ⟨w.heap.size, 10, none⟩) (Nat.le_refl _) _)
theorem told_fin {w W : World} {v : Value} {l : List Int} {c0 c1 c2 c3 c4 c5 c6 c7 c8 c9 c10 : Value} (hb : Below w.heap.size w W) (ho : OwnInts W (w.heap.size + 2) v l) :
    Below w.heap.size w (((((((((((W.setCell ⟨w.heap.size, 0, none⟩ c0).setCell ⟨w.heap.size, 1, none⟩ c1).setCell ⟨w.heap.size, 2, none⟩ c2).setCell ⟨w.heap.size, 3, none⟩ c3).setCell ⟨w.heap.size, 4, none⟩ c4).setCell ⟨w.heap.size, 5, none⟩ c5).setCell ⟨w.heap.size, 6, none⟩ c6).setCell ⟨w.heap.size, 7, none⟩ c7).setCell ⟨w.heap.size, 8, none⟩ c8).setCell ⟨w.heap.size, 9, none⟩ c9).setCell ⟨w.heap.size, 10, none⟩ c10) ∧ OwnInts (((((((((((W.setCell ⟨w.heap.size, 0, none⟩ c0).setCell ⟨w.heap.size, 1, none⟩ c1).setCell ⟨w.heap.size, 2, none⟩ c2).setCell ⟨w.heap.size, 3, none⟩ c3).setCell ⟨w.heap.size, 4, none⟩ c4).setCell ⟨w.heap.size, 5, none⟩ c5).setCell ⟨w.heap.size, 6, none⟩ c6).setCell ⟨w.heap.size, 7, none⟩ c7).setCell ⟨w.heap.size, 8, none⟩ c8).setCell ⟨w.heap.size, 9, none⟩ c9).setCell ⟨w.heap.size, 10, none⟩ c10) (w.heap.size + 2) v l :=
  ⟨(((((((((((hb.setCell (p := ⟨w.heap.size, 0, none⟩) (Nat.le_refl _) _).setCell (p := ⟨w.heap.size, 1, none⟩) (Nat.le_refl _) _).setCell (p := ⟨w.heap.size, 2, none⟩) (Nat.le_refl _) _).setCell (p := ⟨w.heap.size, 3, none⟩) (Nat.le_refl _) _).setCell (p := ⟨w.heap.size, 4, none⟩) (Nat.le_refl _) _).setCell (p := ⟨w.heap.size, 5, none⟩) (Nat.le_refl _) _).setCell (p := ⟨w.heap.size, 6, none⟩) (Nat.le_refl _) _).setCell (p := ⟨w.heap.size, 7, none⟩) (Nat.le_refl _) _).setCell (p := ⟨w.heap.size, 8, none⟩) (Nat.le_refl _) _).setCell (p := ⟨w.heap.size, 9, none⟩) (Nat.le_refl _) _).setCell (p := ⟨w.heap.size, 10, none⟩) (Nat.le_refl _) _), (((((((((((ho.setCell (a := ⟨w.heap.size, 0, none⟩) (by simp) _).setCell (a := ⟨w.heap.size, 1, none⟩) (by simp) _).setCell (a := ⟨w.heap.size, 2, none⟩) (by simp) _).setCell (a := ⟨w.heap.size, 3, none⟩) (by simp) _).setCell (a := ⟨w.heap.size, 4, none⟩) (by simp) _).setCell (a := ⟨w.heap.size, 5, none⟩) (by simp) _).setCell (a := ⟨w.heap.size, 6, none⟩) (by simp) _).setCell (a := ⟨w.heap.size, 7, none⟩) (by simp) _).setCell (a := ⟨w.heap.size, 8, none⟩) (by simp) _).setCell (a := ⟨w.heap.size, 9, none⟩) (by simp) _).setCell (a := ⟨w.heap.size, 10, none⟩) (by simp) _)⟩
end Pk

theorem num_two (s : ByteArray) (a : Nat) : num (s.extract a (a + 2)).data.toList < 65536 := by
  have h1 := num_lt (s.extract a (a + 2)).data.toList
  have h2 : (s.extract a (a + 2)).data.toList.length ≤ 2 := by rw [← Lib.size_eq, ByteArray.size_extract]; omega
  have h3 : 256 ^ (s.extract a (a + 2)).data.toList.length ≤ 256 ^ 2 := Nat.pow_le_pow_right (by omega) h2
  omega
theorem run_last (W : World) (s : ByteArray) (h : 0 < s.size) : (Instr.index 9 (.string s) (.int .i64 ((s.size : Int) - 1))).run Try.prog W = .ok (.int .u8 ((Bl s).toNat : Int)) W := by
  rw [run_index_string W 9 s .i64 _ Try.underlying9, dif_pos ⟨by omega, by omega⟩, ← getl s (by omega)]
  have e : ((s.size : Int) - 1).toNat = s.size - 1 := by omega
  simp only [e]

set_option maxHeartbeats 8000000 in
theorem read_plain (s : ByteArray) (w : World) (hs : 12 ≤ s.size) (hs2 : s.size ≤ 1500) (hm : (B0 s).toNat / 64 = 2) (hat : at0 s ≤ s.size) (hx : ¬ (B0 s).toNat / 16 % 2 = 1) :
    Calls Try.prog 47 #[.string s] w fun e w' => Below w.heap.size w w' ∧ ReadAs (readP s) w.heap.size e w' := by
  have hi : (12 : Int) ≤ s.size := by omega
  have hi2 : (s.size : Int) ≤ 1500 := by omega
  have i0 : (0 : Int) < s.size := by omega
  have hbad : bad1 s = false := by unfold bad1; exact decide_eq_false (by omega)
  have HP : Hid (readP s = (extPart s).bind fun x => (padPart s x.2.2).map fun y => mkP s x y) := readP_of s hbad hat
  clear hbad
  have j0 : ∀ W : World, (Instr.index 9 (.string s) (.int .i64 0)).run Try.prog W = .ok (.int .u8 ((B0 s).toNat : Int)) W := fun W => by
    rw [run_index_string W 9 s .i64 0 Try.underlying9, dif_pos ⟨by omega, i0⟩, ← get0 s (by omega)]; rfl
  have hb := (B0 s).toNat_lt
  have hne : (((B0 s).toNat : Int) / 64 != 2) = false := by rw [bne_eq_false_iff_eq]; omega
  have e15 : IntKind.i64.wrap (bits .and .u8 ((B0 s).toNat : Int) 15) = ((B0 s).toNat : Int) % 16 := by rw [low4]; exact (wrapI64 _ (by omega) (by omega)).trans (by omega)
  obtain ⟨A, hA⟩ : ∃ A, A = at0 s := ⟨_, rfl⟩
  have HA : Hid (A = at0 s) := hA
  have hA1 : (12 + 4 * (((B0 s).toNat : Int) % 16)) = (A : Int) := by rw [hA]; unfold at0; omega
  have hA2 : A ≤ s.size := by rw [hA]; exact hat
  have hA3 : 12 ≤ A := by rw [hA]; unfold at0; omega
  clear hm hat hA
  go_enter Try.func47, Try.ntmps47
  go_wp2
  refine wp_scope_fwd 0 rfl ?_
  go_wp2_with fail
  refine (readHead_any s _ hs hs2).mono ?_
  rintro e w1 ⟨rfl, hb1⟩
  rw [get0 s (by omega), get1 s (by omega)]
  have hSt0 := St.init w 33
  have hSt1 := hSt0.below hb1
  have hSt := hSt1
  obtain ⟨bel, siz, r0, r1, r2, r3, r4, r5, r6, r7, r8, r9, r10, y0, y1, y2, y3, y4, y5, y6, y7, y8, y9, y10, fr, fy⟩ := hSt1
  clear hb1 hSt0
  go_wp2_with fail
  clear bel siz r0 r1 r2 r3 r4 r5 r6 r7 r8 r9 r10 y0 y1 y2 y3 y4 y5 y6 y7 y8 y9 y10 fr fy
  refine (readWords_any _ _ (by simp only [ByteArray.size_extract]; omega)).mono ?_
  rintro e w2 ⟨v, rfl, hown, hb2⟩
  have hSt2 := (((((((((((hSt.set0 _).set1 _).set2 _).set3 _).set4 _).set5 _).set6 _).set7 _).set8 _).set9 _).set10 _).below hb2
  have hown2 := hown.mono (base' := w.heap.size + 2) (by have := hSt.siz; simp; omega)
  clear hown hb2 hSt
  obtain ⟨ao, cap, rfl⟩ := hown2.shape
  have Hown : Hid (OwnInts w2 (w.heap.size + 2) _ _) := hown2
  clear hown2
  generalize hcl : words (s.extract 12 A).data.toList = cl at *
  have Hcl : Hid (words (s.extract 12 A).data.toList = cl) := hcl
  clear hcl
  have hSt := hSt2
  obtain ⟨bel, siz, r0, r1, r2, r3, r4, r5, r6, r7, r8, r9, r10, y0, y1, y2, y3, y4, y5, y6, y7, y8, y9, y10, fr, fy⟩ := hSt2
  clear w1
  have hxd : decide ((B0 s).toNat / 16 % 2 = 1) = false := decide_eq_false hx
  have HX : Hid (extPart s = some (0, ⟨#[]⟩, A)) := by show _ = _; unfold extPart; rw [if_neg hx, HA.out]
  clear hx
  by_cases hp : (B0 s).toNat / 32 % 2 = 1
  · have hpd : (bits .and .u8 ((B0 s).toNat : Int) 32 != 0) = true := by rw [pad_bit]; exact decide_eq_true hp
    have hq := (Bl s).toNat_lt
    have jl : ∀ W : World, (Instr.index 9 (.string s) (.int .i64 ((s.size : Int) - 1))).run Try.prog W = .ok (.int .u8 ((Bl s).toNat : Int)) W := fun W => run_last W s (by omega)
    have HPd : Hid (padPart s A = if (Bl s).toNat = 0 ∨ s.size - A < (Bl s).toNat then none else if noughts (s.extract (s.size - (Bl s).toNat) (s.size - 1)).data.toList = true then some ((Bl s).toNat, s.size - (Bl s).toNat) else none) := by show _ = _; unfold padPart; rw [if_pos hp]
    clear hp
    generalize hqq : (Bl s).toNat = q at *
    have Hqq : Hid ((Bl s).toNat = q) := hqq
    clear hqq
    by_cases hq0 : q = 0
    · subst hq0
      have HR : Hid (readP s = none) := by
        show _ = _
        rw [HP.out, HX.out]
        simp only [Option.bind_some]
        rw [HPd.out, if_pos (.inl rfl)]
        rfl
      go_wp2
      go_step3
      refine jump_here 0 ?_
      go_wp2
      rw [Exit.noGoto_ret]
      refine bodyPost_ret (v := wrongV) (by simp [results, Try.results47, wrongV, go_sem, r0, r1, r2, r3, r4, r5, r6, r7, r8, r9, r10]) rfl ⟨?_, ?_⟩
      · exact below_fin (((bel.setCell (p := ⟨w.heap.size + 1, 5, none⟩) (by simp) _).setCell (p := ⟨w.heap.size + 1, 10, none⟩) (by simp) _))
      · rw [HR.out]
        rfl
    · have hq0' : ((q : Int) == 0) = false := by simpa using hq0
      by_cases hq1 : s.size - A < q
      · have hq1' : (s.size : Int) - (A : Nat) < q := by omega
        have HR : Hid (readP s = none) := by
          show _ = _
          rw [HP.out, HX.out]
          simp only [Option.bind_some]
          rw [HPd.out, if_pos (.inr hq1)]
          rfl
        clear hq0
        go_wp2
        go_step3
        refine jump_here 0 ?_
        go_wp2
        rw [Exit.noGoto_ret]
        refine bodyPost_ret (v := wrongV) (by simp [results, Try.results47, wrongV, go_sem, r0, r1, r2, r3, r4, r5, r6, r7, r8, r9, r10]) rfl ⟨?_, ?_⟩
        · exact below_fin (((bel.setCell (p := ⟨w.heap.size + 1, 5, none⟩) (by simp) _).setCell (p := ⟨w.heap.size + 1, 10, none⟩) (by simp) _))
        · rw [HR.out]
          rfl
      · have hq1' : ¬ ((s.size : Int) - (A : Nat) < q) := by omega
        have hq2 : (1 : Int) ≤ q := by omega
        have hq3 : (q : Int) ≤ s.size := by omega
        have HPd2 : Hid (padPart s A = if noughts (s.extract (s.size - q) (s.size - 1)).data.toList = true then some (q, s.size - q) else none) := by show _ = _; rw [HPd.out, if_neg (by omega)]
        clear hq0 HPd
        have hz1 : s.size - q ≤ s.size - 1 := by omega
        have hz2 : A ≤ s.size - q := by omega
        have hz3 : s.size - q ≤ s.size := by omega
        go_wp2_with fail
        refine (allNoughts_any _ _ (by simp only [ByteArray.size_extract]; unfold maxLen; omega)).mono ?_
        rintro e w4 ⟨rfl, rfl⟩
        cases hN : noughts (s.extract (s.size - q) (s.size - 1)).data.toList with
        | false =>
          have HR : Hid (readP s = none) := by
            show _ = _
            rw [HP.out, HX.out]
            simp only [Option.bind_some]
            rw [HPd2.out, hN]
            rfl
          clear hN
          go_wp2
          go_step3
          refine jump_here 0 ?_
          go_wp2
          rw [Exit.noGoto_ret]
          refine bodyPost_ret (v := wrongV) (by simp [results, Try.results47, wrongV, go_sem, r0, r1, r2, r3, r4, r5, r6, r7, r8, r9, r10]) rfl ⟨?_, ?_⟩
          · exact below_fin (((bel.setCell (p := ⟨w.heap.size + 1, 5, none⟩) (by simp) _).setCell (p := ⟨w.heap.size + 1, 10, none⟩) (by simp) _))
          · rw [HR.out]
            rfl
        | true =>
          have HR : Hid (readP s = some (mkP s (0, ⟨#[]⟩, A) (q, s.size - q))) := by
            show _ = _
            rw [HP.out, HX.out]
            simp only [Option.bind_some]
            rw [HPd2.out, hN]
            rfl
          clear hN
          go_wp2_with fail
          clear bel siz r0 r1 r2 r3 r4 r5 r6 r7 r8 r9 r10 y0 y1 y2 y3 y4 y5 y6 y7 y8 y9 y10 fr fy
          refine (clone_any _ _ (by simp only [ByteArray.size_extract]; omega)).mono ?_
          rintro e w9 ⟨rfl, hb9⟩
          have hStn := ((hSt.set5 _).set10 _).below hb9
          have hownn := ((Hown.out.setCell (a := ⟨w.heap.size + 1, 5, none⟩) (by simp) _).setCell (a := ⟨w.heap.size + 1, 10, none⟩) (by simp) _).below hb9
          clear hb9 hSt Hown
          have Hown : Hid (OwnInts w9 (w.heap.size + 2) _ _) := hownn
          clear hownn
          have hSt := hStn
          obtain ⟨bel, siz, r0, r1, r2, r3, r4, r5, r6, r7, r8, r9, r10, y0, y1, y2, y3, y4, y5, y6, y7, y8, y9, y10, fr, fy⟩ := hStn
          go_wp2
          simp only [Exit.jump]
          obtain ⟨q1, q2⟩ := told_fin (bel.setCell (p := ⟨w.heap.size + 1, 9, none⟩) (by simp) _) (Hown.out.setCell (a := ⟨w.heap.size + 1, 9, none⟩) (by simp) _)
          refine bodyPost_ret (v := .tuple #[.agg #[.bool (decide (128 ≤ (B1 s).toNat)), .int .i64 ((B1 s).toNat % 128), .int .i64 (num ((s.data.toList.drop 2).take 2)), .int .i64 (num ((s.data.toList.drop 4).take 4)), .int .i64 (num ((s.data.toList.drop 8).take 4)), .slice ao cl.length cap, .bool false, .int .i64 0, .string ⟨#[]⟩, .string (s.extract A (s.size - q)), .int .i64 q], .int .i64 0]) (by simp [results, Try.results47, go_sem, r0, r1, r2, r3, r4, r5, r6, r7, r8, r9, r10]) rfl ⟨?_, ?_⟩
          · exact q1
          · rw [HR.out]
            refine ⟨.slice ao cl.length cap, ?_, ?_⟩
            · simp [okV, mkP, hxd]
            · have e : (mkP s (0, ⟨#[]⟩, A) (q, s.size - q)).cl = cl := by rw [← Hcl.out, HA.out]; rfl
              rw [e]
              exact q2.mono (by omega)
  · have hpd : (bits .and .u8 ((B0 s).toNat : Int) 32 != 0) = false := by rw [pad_bit]; exact decide_eq_false hp
    have HR : Hid (readP s = some (mkP s (0, ⟨#[]⟩, A) (0, s.size))) := by
      show _ = _
      rw [HP.out, HX.out]
      simp [padPart, hp]
    clear hp
    go_wp2_with fail
    clear bel siz r0 r1 r2 r3 r4 r5 r6 r7 r8 r9 r10 y0 y1 y2 y3 y4 y5 y6 y7 y8 y9 y10 fr fy
    refine (clone_any _ _ (by simp only [ByteArray.size_extract]; omega)).mono ?_
    rintro e w9 ⟨rfl, hb9⟩
    have hStn := (hSt.set5 _).below hb9
    have hownn := (Hown.out.setCell (a := ⟨w.heap.size + 1, 5, none⟩) (by simp) _).below hb9
    clear hb9 hSt Hown
    have Hown : Hid (OwnInts w9 (w.heap.size + 2) _ _) := hownn
    clear hownn
    have hSt := hStn
    obtain ⟨bel, siz, r0, r1, r2, r3, r4, r5, r6, r7, r8, r9, r10, y0, y1, y2, y3, y4, y5, y6, y7, y8, y9, y10, fr, fy⟩ := hStn
    go_wp2
    simp only [Exit.jump]
    obtain ⟨q1, q2⟩ := told_fin (bel.setCell (p := ⟨w.heap.size + 1, 9, none⟩) (by simp) _) (Hown.out.setCell (a := ⟨w.heap.size + 1, 9, none⟩) (by simp) _)
    refine bodyPost_ret (v := .tuple #[.agg #[.bool (decide (128 ≤ (B1 s).toNat)), .int .i64 ((B1 s).toNat % 128), .int .i64 (num ((s.data.toList.drop 2).take 2)), .int .i64 (num ((s.data.toList.drop 4).take 4)), .int .i64 (num ((s.data.toList.drop 8).take 4)), .slice ao cl.length cap, .bool false, .int .i64 0, .string ⟨#[]⟩, .string (s.extract A s.size), .int .i64 0], .int .i64 0]) (by simp [results, Try.results47, go_sem, r0, r1, r2, r3, r4, r5, r6, r7, r8, r9, r10]) rfl ⟨?_, ?_⟩
    · exact q1
    · rw [HR.out]
      refine ⟨.slice ao cl.length cap, ?_, ?_⟩
      · simp [okV, mkP, hxd]
      · have e : (mkP s (0, ⟨#[]⟩, A) (0, s.size)).cl = cl := by rw [← Hcl.out, HA.out]; rfl
        rw [e]
        exact q2.mono (by omega)

end Go.Proofs.Ytdjhhnolcafkiaa

/- wire.makeEntries: the entries of an asking. -/
namespace Go.Proofs.Ytdjhhnolcafkiaa
open Go.RowKit
namespace Pk

/-- one more number -/
def pushE (E : List (Nat × Nat)) (n : Nat) : List (Nat × Nat) :=
  match E.getLast? with
  | some (f, a) => if 1 ≤ stepsTo n f ∧ stepsTo n f ≤ 16 then E.dropLast ++ [(f, a ||| 2 ^ (stepsTo n f - 1))] else E ++ [(n, 0)]
  | none => [(n, 0)]
def entriesF (l : List Int) : List (Nat × Nat) := l.foldl (fun E n => pushE E n.toNat) []
def flatE (E : List (Nat × Nat)) : List Value := E.flatMap fun p => [.int .u16 p.1, .int .u16 p.2]

theorem flatE_length (E : List (Nat × Nat)) : (flatE E).length = E.length * 2 := by
  induction E with
  | nil => rfl
  | cons p E ih => rw [show flatE (p :: E) = .int .u16 p.1 :: .int .u16 p.2 :: flatE E from rfl, List.length_cons, List.length_cons, ih, List.length_cons]; omega
theorem flatE_snoc (E : List (Nat × Nat)) (p : Nat × Nat) : flatE (E ++ [p]) = flatE E ++ [.int .u16 p.1, .int .u16 p.2] := by simp [flatE]
theorem flatE_set (E : List (Nat × Nat)) (f a c : Nat) : (flatE (E ++ [(f, a)])).set (E.length * 2 + 1) (.int .u16 c) = flatE (E ++ [(f, c)]) := by
  rw [flatE_snoc, flatE_snoc, List.set_append_right _ _ (by rw [flatE_length]; omega), flatE_length]
  congr 1
  rw [show E.length * 2 + 1 - E.length * 2 = 1 by omega]
  rfl
theorem flatE_fst (E : List (Nat × Nat)) (f a : Nat) : (flatE (E ++ [(f, a)]))[E.length * 2]? = some (.int .u16 f) := by
  rw [flatE_snoc, List.getElem?_append_right (by rw [flatE_length]; omega), flatE_length, Nat.sub_self]
  rfl
theorem flatE_snd (E : List (Nat × Nat)) (f a : Nat) : (flatE (E ++ [(f, a)]))[E.length * 2 + 1]? = some (.int .u16 a) := by
  rw [flatE_snoc, List.getElem?_append_right (by rw [flatE_length]; omega), flatE_length, show E.length * 2 + 1 - E.length * 2 = 1 by omega]
  rfl
theorem pushE_yes (E : List (Nat × Nat)) (f a n : Nat) (h1 : 1 ≤ stepsTo n f) (h2 : stepsTo n f ≤ 16) : pushE (E ++ [(f, a)]) n = E ++ [(f, a ||| 2 ^ (stepsTo n f - 1))] := by
  unfold pushE
  rw [List.getLast?_concat]
  simp only
  rw [if_pos ⟨h1, h2⟩, List.dropLast_concat]
theorem pushE_no (E : List (Nat × Nat)) (f a n : Nat) (h : ¬ (1 ≤ stepsTo n f ∧ stepsTo n f ≤ 16)) : pushE (E ++ [(f, a)]) n = E ++ [(f, a)] ++ [(n, 0)] := by
  unfold pushE
  rw [List.getLast?_concat]
  simp only
  rw [if_neg h]
theorem pushE_nil (n : Nat) : pushE [] n = [] ++ [(n, 0)] := rfl
theorem entriesF_succ (l : List Int) (k : Nat) (h : k < l.length) : entriesF (l.take (k + 1)) = pushE (entriesF (l.take k)) (l.getD k 0).toNat := by
  unfold entriesF
  rw [List.take_succ_eq_append_getElem h, List.foldl_append]
  simp [List.getD, h]
theorem snoc_cases {α : Type} (E : List α) : E = [] ∨ ∃ I p, E = I ++ [p] := by
  rcases List.eq_nil_or_concat E with h | ⟨I, p, h⟩
  · exact .inl h
  · exact .inr ⟨I, p, by simpa using h⟩

theorem row_shapeN {W : World} {base e size n : Nat} {v : Value} {xs : List Value} (h : W.ownsRow base e size v n xs) : ∃ ao cap, v = .slice ao n cap := by
  obtain ⟨_, h2 | ⟨g, cap, cur, rfl, _⟩⟩ := h
  · exact ⟨none, 0, by rw [h2.1, h2.2]⟩
  · exact ⟨_, _, rfl⟩
theorem row_some {W : World} {base e size n cap : Nat} {ao : Option Addr} {xs : List Value} (h : W.ownsRow base e size (.slice ao n cap) n xs) (hn : 0 < n) : ∃ g, ao = some ⟨g, 0, none⟩ := by
  obtain ⟨_, h2 | ⟨g, cap', cur, e', _⟩⟩ := h
  · omega
  · simp only [Value.slice.injEq] at e'
    exact ⟨g, e'.1⟩

/-- the entries are numbers of two bytes, and no more than the numbers -/
def OkE (E : List (Nat × Nat)) : Prop := ∀ p ∈ E, p.1 < 65536 ∧ p.2 < 65536
theorem or_lt (a d : Nat) (ha : a < 65536) (h2 : d ≤ 16) (h1 : 1 ≤ d) : a ||| 2 ^ (d - 1) < 65536 := by
  have h := pow_lt (d - 1) (by omega)
  exact Nat.or_lt_two_pow (n := 16) (by omega) (by omega)
theorem OkE.push {E : List (Nat × Nat)} (h : OkE E) (n : Nat) (hn : n < 65536) : OkE (pushE E n) := by
  rcases snoc_cases E with rfl | ⟨I, ⟨f, a⟩, rfl⟩
  · intro p hp
    simp [pushE_nil] at hp
    subst hp
    exact ⟨hn, show 0 < 65536 by omega⟩
  · have hl := h (f, a) (by simp)
    by_cases hc : 1 ≤ stepsTo n f ∧ stepsTo n f ≤ 16
    · rw [pushE_yes I f a n hc.1 hc.2]
      intro p hp
      rcases List.mem_append.1 hp with hp | hp
      · exact h p (by simp [hp])
      · simp at hp
        subst hp
        exact ⟨hl.1, or_lt a _ hl.2 hc.2 hc.1⟩
    · rw [pushE_no I f a n hc]
      intro p hp
      rcases List.mem_append.1 hp with hp | hp
      · exact h p hp
      · simp at hp
        subst hp
        exact ⟨hn, show 0 < 65536 by omega⟩
theorem pushE_len (E : List (Nat × Nat)) (n : Nat) : (pushE E n).length ≤ E.length + 1 ∧ 1 ≤ (pushE E n).length := by
  rcases snoc_cases E with rfl | ⟨I, ⟨f, a⟩, rfl⟩
  · exact ⟨Nat.le_refl _, Nat.le_refl _⟩
  · by_cases hc : 1 ≤ stepsTo n f ∧ stepsTo n f ≤ 16
    · rw [pushE_yes I f a n hc.1 hc.2]; simp
    · rw [pushE_no I f a n hc]; simp

end Pk
open Pk

set_option maxRecDepth 20000 in
set_option maxHeartbeats 2000000 in
theorem makeEntries_any (v : Value) (l : List Int) (w : World) (hv : IsInts w.heap.size w v l) (hl : l.length ≤ 300) (hin : ∀ n ∈ l, 0 ≤ n ∧ n ≤ 65535) :
    Calls Try.prog 80 #[v] w fun e w' => ∃ v', e = .returned v' ∧ w'.ownsRow w.heap.size 135 2 v' (entriesF l).length (flatE (entriesF l)) ∧ Below w.heap.size w w' ∧ OkE (entriesF l) ∧ (entriesF l).length ≤ l.length := by
  obtain ⟨ao, cap, rfl, hc⟩ := hv
  have Hc : Hid (∀ j, j < l.length → ∃ b off, ao = some ⟨b, off, none⟩ ∧ b < w.heap.size ∧ w.cell? ⟨b, off + j, none⟩ = some (.int .i64 (l.getD j 0))) := hc
  have Hin : Hid (∀ n ∈ l, 0 ≤ n ∧ n ≤ 65535) := hin
  clear hc hin
  have hinfo : (Try.prog.info? 135).map (fun i => (i.zero, i.size, i.bytes)) = some (some (.agg #[.int .u16 0, .int .u16 0]), 2, 4) := by kernel_rfl
  obtain ⟨i0, hi, hz0, hz1, hz2⟩ := info_parts hinfo
  have Hi : Hid (Try.prog.info? 135 = some i0 ∧ i0.zero = some (.agg #[.int .u16 0, .int .u16 0]) ∧ i0.size = 2 ∧ i0.bytes = 4) := ⟨hi, hz0, hz1, hz2⟩
  clear hi hz0 hz1 hz2 hinfo
  go_enter Try.func80, Try.ntmps80
  go_wp2
  go_loopw [3, 9] (fun s3 s9 wr => ∃ k : Nat, k ≤ l.length ∧ s9 = .int .i64 k ∧ wr.ownsRow w.heap.size 135 2 s3 (entriesF (l.take k)).length (flatE (entriesF (l.take k))) ∧ Below w.heap.size w wr ∧ OkE (entriesF (l.take k)) ∧ (entriesF (l.take k)).length ≤ k) (fun _ s9 _ => l.length - (intOf s9).toNat)
  case atStart => exact ⟨0, Nat.zero_le _, rfl, World.ownsRow_nil _ _ _ _, Below.refl _ _, (by intro p hp; simp [entriesF] at hp), Nat.le_refl _⟩
  case round =>
    obtain ⟨k, hk, rfl, hrow, hb, hok, hEk⟩ := hrel
    by_cases hlt : k < l.length
    · obtain ⟨b, off, rfl, hbb, hcell⟩ := Hc.out k hlt
      have hcr : wr.cell? ⟨b, off + k, none⟩ = some (.int .i64 (l.getD k 0)) := (hb.cell (p := ⟨b, off + k, none⟩) hbb).trans hcell
      have hq := Hin.out (l.getD k 0) (by simp [List.getD, hlt])
      have Hsc : Hid (entriesF (l.take (k + 1)) = pushE (entriesF (l.take k)) (l.getD k 0).toNat) := entriesF_succ l k hlt
      obtain ⟨q, hqq⟩ : ∃ q : Nat, l.getD k 0 = (q : Int) := ⟨(l.getD k 0).toNat, by omega⟩
      rw [hqq] at hcr hq Hsc
      rw [Int.toNat_natCast] at Hsc
      have hq2 : q < 65536 := by omega
      have hwq : IntKind.u16.wrap (q : Int) = (q : Int) := by simp [IntKind.wrap, IntKind.signed, IntKind.bits]; omega
      clear hcell hqq hq
      have Hok1 := hok.push q hq2
      have Hlen1 := pushE_len (entriesF (l.take k)) q
      rw [← Hsc.out] at Hok1 Hlen1
      have HOK : Hid (OkE (entriesF (l.take (k + 1)))) := Hok1
      have HLN : Hid ((entriesF (l.take (k + 1))).length ≤ k + 1) := by show _ ≤ _; omega
      clear Hok1 Hlen1
      generalize hE1 : entriesF (l.take (k + 1)) = E1 at *
      have HEQ : Hid (entriesF (l.take (k + 1)) = E1) := hE1
      clear hE1
      have hlt' : (k : Int) < l.length := by omega
      rcases snoc_cases (entriesF (l.take k)) with hE | ⟨I, ⟨f, a⟩, hE⟩
      · rw [hE] at hrow
        obtain ⟨a1, c1, rfl⟩ := row_shapeN hrow
        have Hrow : Hid (wr.ownsRow w.heap.size 135 2 (.slice a1 0 c1) 0 []) := hrow
        have HE1 : Hid (E1 = [] ++ [(q, 0)]) := by show _ = _; rw [Hsc.out, hE, pushE_nil]
        clear hrow hok hE Hsc hEk
        go_wp2_with (at_builtin; (
          refine wpList_append_own _ rfl (.tmp 27) (.tmp 31) 131 rfl w.heap.size 135 i0 (.agg #[.int .u16 0, .int .u16 0]) 2 4 Try.underlying131 Hi.out.1 Hi.out.2.1 Hi.out.2.2.1 Hi.out.2.2.2 rfl (by decide) _ 0 [] rfl (World.ownsRow.alloc Hrow.out _) _ 1 1 [.int .u16 q, .int .u16 0] rfl rfl (cells_new _ [.int .u16 q, .int .u16 0] _) ?_ ?_ ?_ ?_ ?_
          · intro u hu; simp at hu; rcases hu with rfl | rfl <;> rfl
          · unfold maxLen; omega
          · omega
          · have := hb.size; simp; omega
          intro v' w1 hown' hgrow _
          refine stop_here ?_))
        have R1 : Hid (w1.ownsRow w.heap.size 135 2 v' E1.length (flatE E1)) := by show World.ownsRow _ _ _ _ _ _ _; rw [HE1.out]; exact hown'
        have R2 : Hid (Below w.heap.size w w1) := (hb.alloc hb.size _).grown hgrow (by have := hb.size; simp; omega) (fun g hg => (World.ownsRow.lt Hrow.out g hg).1)
        clear hown' hgrow
        refine hid_in ?_
        go_wp2
        go_roundw
        case rel => exact ⟨k + 1, by omega, by go_num, by rw [HEQ.out]; exact R1.out, R2.out, by rw [HEQ.out]; exact HOK.out, by rw [HEQ.out]; exact HLN.out⟩
        case measure => simp [intOf]; omega
      · rw [hE] at hrow hok hEk
        rw [List.length_append, List.length_singleton] at hrow hEk
        obtain ⟨a1, c1, rfl⟩ := row_shapeN hrow
        obtain ⟨g, rfl⟩ := row_some hrow (by omega)
        have d0 : wr.cell? ⟨g, I.length * 2, none⟩ = some (.int .u16 f) := (hrow.cellAt (I.length * 2) (by omega)).trans (flatE_fst I f a)
        have d1 : wr.cell? ⟨g, I.length * 2 + 1, none⟩ = some (.int .u16 a) := (hrow.cellAt (I.length * 2 + 1) (by omega)).trans (flatE_snd I f a)
        have fz : ∀ j, wr.frozen? ⟨g, j, none⟩ = false := fun j => hrow.frozenAt j
        have hfa := hok (f, a) (by simp)
        have Hrow : Hid (wr.ownsRow w.heap.size 135 2 (.slice (some ⟨g, 0, none⟩) (I.length + 1) c1) (I.length + 1) (flatE (I ++ [(f, a)]))) := hrow
        have hlast : ((I.length + 1 : Nat) : Int) - 1 = (I.length : Int) := by omega
        have hge : ¬ (I.length : Int) < 0 := by omega
        have hgb : w.heap.size ≤ g := (hrow.lt g rfl).1
        clear hrow hok
        by_cases hst : 1 ≤ stepsTo q f ∧ stepsTo q f ≤ 16
        · have HE1 : Hid (E1 = I ++ [(f, a ||| 2 ^ (stepsTo q f - 1))]) := by show _ = _; rw [Hsc.out, hE, pushE_yes I f a q hst.1 hst.2]
          clear Hsc hE
          go_wp2_with fail
          refine (take_yes g (I.length * 2) f a q _ d0 d1 fz hfa.1 hfa.2 hq2 hst.1 hst.2).mono ?_
          rintro e w1 ⟨rfl, rfl⟩
          have R1 : Hid ((wr.setCell ⟨g, I.length * 2 + 1, none⟩ (.int .u16 ((a ||| 2 ^ (stepsTo q f - 1) : Nat) : Int))).ownsRow w.heap.size 135 2 (.slice (some ⟨g, 0, none⟩) (I.length + 1) c1) E1.length (flatE E1)) := by
            show World.ownsRow _ _ _ _ _ _ _
            rw [HE1.out, ← flatE_set I f a]
            have h := (Hrow.out.stored (I.length * 2 + 1) (.int .u16 ((a ||| 2 ^ (stepsTo q f - 1) : Nat) : Int))).1
            simpa using h
          have R2 : Hid (Below w.heap.size w (wr.setCell ⟨g, I.length * 2 + 1, none⟩ (.int .u16 ((a ||| 2 ^ (stepsTo q f - 1) : Nat) : Int)))) := hb.setCell (p := ⟨g, I.length * 2 + 1, none⟩) hgb _
          have R3 : Hid (E1.length = I.length + 1) := by show _ = _; rw [HE1.out]; simp
          go_wp2
          go_roundw
          case rel => exact ⟨k + 1, by omega, by go_num, by rw [HEQ.out]; exact R1.out, R2.out, by rw [HEQ.out]; exact HOK.out, by rw [HEQ.out]; exact HLN.out⟩
          case measure => simp [intOf]; omega
        · have HE1 : Hid (E1 = I ++ [(f, a)] ++ [(q, 0)]) := by show _ = _; rw [Hsc.out, hE, pushE_no I f a q hst]
          clear Hsc hE
          go_wp2_with fail
          refine (take_no g (I.length * 2) f q _ d0 hfa.1 hq2 hst).mono ?_
          rintro e w1 ⟨rfl, rfl⟩
          go_wp2_with (at_builtin; (
            refine wpList_append_own _ rfl (.tmp 27) (.tmp 31) 131 rfl w.heap.size 135 i0 (.agg #[.int .u16 0, .int .u16 0]) 2 4 Try.underlying131 Hi.out.1 Hi.out.2.1 Hi.out.2.2.1 Hi.out.2.2.2 rfl (by decide) _ (I.length + 1) (flatE (I ++ [(f, a)])) rfl (World.ownsRow.alloc Hrow.out _) _ 1 1 [.int .u16 q, .int .u16 0] rfl rfl (cells_new _ [.int .u16 q, .int .u16 0] _) ?_ ?_ ?_ ?_ ?_
            · intro u hu; simp at hu; rcases hu with rfl | rfl <;> rfl
            · unfold maxLen; omega
            · omega
            · have := hb.size; simp; omega
            intro v' w2 hown' hgrow _
            refine stop_here ?_))
          have R1 : Hid (w2.ownsRow w.heap.size 135 2 v' E1.length (flatE E1)) := by
            show World.ownsRow _ _ _ _ _ _ _
            rw [HE1.out, flatE_snoc, List.length_append, List.length_append]
            exact hown'
          have R2 : Hid (Below w.heap.size w w2) := (hb.alloc hb.size _).grown hgrow (by have := hb.size; simp; omega) (fun g hg => (World.ownsRow.lt Hrow.out g hg).1)
          clear hown' hgrow
          refine hid_in ?_
          go_wp2
          go_roundw
          case rel => exact ⟨k + 1, by omega, by go_num, by rw [HEQ.out]; exact R1.out, R2.out, by rw [HEQ.out]; exact HOK.out, by rw [HEQ.out]; exact HLN.out⟩
          case measure => simp [intOf]; omega
    · have hke : k = l.length := by omega
      have hlt' : ¬ (k : Int) < l.length := by omega
      rw [hke, List.take_of_length_le (Nat.le_refl _)] at hrow hok hEk
      have G1 : Hid (OkE (entriesF l)) := hok
      have G2 : Hid ((entriesF l).length ≤ l.length) := hEk
      clear hok hEk
      go_wp2
      go_ret
      exact ⟨_, rfl, hrow, hb, G1.out, G2.out⟩

end Go.Proofs.Ytdjhhnolcafkiaa

/- What a packet must be to be told: the tests, and its length. -/
namespace Go.Proofs.Ytdjhhnolcafkiaa
open Go.RowKit

set_option maxHeartbeats 1000000 in
theorem headFits_any (mk ex : Bool) (ty nu ti so pr pa : Int) (cv : Value) (cl : List Int) (en py : ByteArray) (w : World) (B : Nat) (hBw : B ≤ w.heap.size) (hv : Pk.IsInts B w cv cl) (hl : cl.length ≤ 17592186044416) :
    Calls Try.prog 67 #[.agg #[.bool mk, .int .i64 ty, .int .i64 nu, .int .i64 ti, .int .i64 so, cv, .bool ex, .int .i64 pr, .string en, .string py, .int .i64 pa]] w
      fun e w' => e = .returned (.bool (Pk.headOk ty nu ti so cl)) ∧ Below w.heap.size w w' := by
  have hvo : ∀ o, Pk.IsInts B (w.alloc o) cv cl := fun o => hv.alloc hBw o
  have Hv : Hid (∀ o, Pk.IsInts B (w.alloc o) cv cl) := hvo
  clear hvo
  obtain ⟨ao, cap, rfl, _⟩ := hv
  go_enter Try.func67, Try.ntmps67
  go_wp2_with (first
    | (go_at_call 69; refine (within_any _ _ _).mono ?_; rintro e w' ⟨rfl, rfl⟩)
    | (go_at_call 98; refine (allWithin_any B _ cl _ _ ?_ hl).mono ?_; exact Hv.out _; rintro e w' ⟨rfl, rfl⟩))
  all_goals go_ret
  all_goals refine ⟨Pk.ret_bool ?_, ?_⟩
  all_goals first | exact (Below.refl _ _).alloc (Nat.le_refl _) _ | skip
  all_goals unfold Pk.headOk
  all_goals first
    | (rw [decide_eq_false ‹¬(0 ≤ ty ∧ ty ≤ 127)›]; simp)
    | (rw [decide_eq_false ‹¬(0 ≤ nu ∧ nu ≤ 65535)›]; simp)
    | (rw [decide_eq_false ‹¬(0 ≤ ti ∧ ti ≤ 4294967295)›]; simp)
    | (rw [decide_eq_false ‹¬(0 ≤ so ∧ so ≤ 4294967295)›]; simp)
    | (rw [decide_eq_false (p := cl.length ≤ 15) (by omega)]; simp)
    | (rw [decide_eq_true ‹0 ≤ ty ∧ ty ≤ 127›, decide_eq_true ‹0 ≤ nu ∧ nu ≤ 65535›, decide_eq_true ‹0 ≤ ti ∧ ti ≤ 4294967295›, decide_eq_true ‹0 ≤ so ∧ so ≤ 4294967295›, decide_eq_true (p := cl.length ≤ 15) (by omega)]; simp)

set_option maxHeartbeats 1000000 in
theorem extensionFits_any (mk ex : Bool) (ty nu ti so pr pa : Int) (cv : Value) (en py : ByteArray) (w : World) (hen : en.size ≤ maxLen) :
    Calls Try.prog 68 #[.agg #[.bool mk, .int .i64 ty, .int .i64 nu, .int .i64 ti, .int .i64 so, cv, .bool ex, .int .i64 pr, .string en, .string py, .int .i64 pa]] w
      fun e w' => e = .returned (.bool (Pk.extOk ex pr en)) ∧ Below w.heap.size w w' := by
  unfold maxLen at hen
  cases ex
  all_goals
    go_enter Try.func68, Try.ntmps68
    go_wp2_with (first
      | (go_at_call 69; refine (within_any _ _ _).mono ?_; rintro e w' ⟨rfl, rfl⟩))
  all_goals go_ret
  all_goals refine ⟨Pk.ret_bool ?_, (Below.refl _ _).alloc (Nat.le_refl _) _⟩
  all_goals first | rw [Pk.extOk_no] | rw [Pk.extOk_yes]
  all_goals first
    | (rw [decide_eq_false ‹¬pr = 0›]; rfl)
    | (rw [decide_eq_false ‹¬(0 ≤ pr ∧ pr ≤ 65535)›]; rfl)
    | (rw [decide_eq_true ‹pr = 0›, Bool.true_and]; exact Pk.isEmpty_size en)
    | (rw [decide_eq_true ‹0 ≤ pr ∧ pr ≤ 65535›, Bool.true_and, Bool.eq_iff_iff]; simp; omega)

set_option maxHeartbeats 1000000 in
theorem packetLength_any (mk ex : Bool) (ty nu ti so pr pa : Int) (ao : Option Addr) (n cap : Nat) (en py : ByteArray) (w : World) (hen : en.size ≤ 140737488355328) (hpy : py.size ≤ 140737488355328) (hn : n ≤ 15) (hp0 : 0 ≤ pa) (hp1 : pa ≤ 255) :
    Calls Try.prog 70 #[.agg #[.bool mk, .int .i64 ty, .int .i64 nu, .int .i64 ti, .int .i64 so, .slice ao n cap, .bool ex, .int .i64 pr, .string en, .string py, .int .i64 pa]] w
      fun e w' => e = .returned (.int .i64 (12 + 4 * n + py.size + pa + if ex then 4 + en.size else 0)) ∧ Below w.heap.size w w' := by
  cases ex
  all_goals
    go_enter Try.func70, Try.ntmps70
    go_wp2
    go_ret
    refine ⟨Pk.ret_int ?_, (Below.refl _ _).alloc (Nat.le_refl _) _⟩
    simp <;> omega

end Go.Proofs.Ytdjhhnolcafkiaa

/- The writers: each appends its bytes. -/
namespace Go.Proofs.Ytdjhhnolcafkiaa
open Go.RowKit Pk

set_option maxHeartbeats 1000000 in
theorem addNumber_any (base g n cap : Nat) (l : List UInt8) (x : Nat) (k : Nat) (w : World) (_hx : x < 4294967296) (hk : k ≤ 4) (hroom : n + k ≤ cap) (hB : Buf w base g n cap l) :
    Calls Try.prog 81 #[.slice (some ⟨g, 0, none⟩) n cap, .int .i64 x, .int .i64 k] w fun e w' =>
      e = .returned (.slice (some ⟨g, 0, none⟩) (n + k) cap) ∧ Buf w' base g (n + k) cap (l ++ told x k) ∧ w.grownBy w' (some g) := by
  go_enter Try.func81, Try.ntmps81
  go_wp2
  go_loopw [0, 9] (fun v i wr => ∃ j : Nat, j ≤ k ∧ i = .int .i64 j ∧ v = .slice (some ⟨g, 0, none⟩) (n + j) cap ∧ Buf wr base g (n + j) cap (l ++ (told x k).take j) ∧ w.grownBy wr (some g)) (fun _ i _ => k - (intOf i).toNat)
  case atStart => exact ⟨0, Nat.zero_le _, rfl, rfl, by simpa using hB, World.grownBy.refl _ _⟩
  case round =>
    obtain ⟨j, hj, rfl, rfl, hBr, hgr⟩ := hrel
    by_cases hlt : j < k
    · have hb := byte_at x (k - 1 - j)
      have Hb : Hid ((x : Int) / 2 ^ (8 * (k - 1 - j)) % 256 = ((UInt8.ofNat (x / 256 ^ (k - 1 - j) % 256)).toNat : Int)) := hb
      clear hb
      go_wp2_with (at_builtin; refine wl_bytes rfl (.tmp 12) (.tmp 21) rfl rfl (hBr.alloc _) _ 1 1 [UInt8.ofNat (x / 256 ^ (k - 1 - j) % 256)] rfl rfl (new_one _ _ rfl _ _ _ (congrArg (Value.int .u8) Hb.out)) (by omega) ?_; intro w1 hB1 hg1)
      have R := hg1
      go_roundw
      case rel => exact ⟨j + 1, by omega, by go_num, rfl, by rw [told_take x k j hlt, ← List.append_assoc]; exact hB1, grown_trans hgr (grown_trans (World.grownBy_alloc _ _ _) hg1)⟩
      case measure => simp [intOf]; omega
    · go_wp2
      go_ret
      have e : j = k := by omega
      subst e
      refine ⟨rfl, ?_, hgr⟩
      rw [List.take_of_length_le (by rw [told_length]; exact Nat.le_refl _)] at hBr
      exact hBr

theorem addNumber_int (base g n cap : Nat) (l : List UInt8) (x : Int) (k : Nat) (w : World) (hx0 : 0 ≤ x) (hx : x < 4294967296) (hk : k ≤ 4) (hroom : n + k ≤ cap) (hB : Buf w base g n cap l) :
    Calls Try.prog 81 #[.slice (some ⟨g, 0, none⟩) n cap, .int .i64 x, .int .i64 k] w fun e w' =>
      e = .returned (.slice (some ⟨g, 0, none⟩) (n + k) cap) ∧ Buf w' base g (n + k) cap (l ++ told x.toNat k) ∧ w.grownBy w' (some g) := by
  obtain ⟨q, rfl⟩ := Int.eq_ofNat_of_zero_le hx0
  rw [Int.toNat_natCast]
  exact addNumber_any base g n cap l q k w (by omega) hk hroom hB

set_option maxHeartbeats 1000000 in
theorem addPadding_any (base g n cap : Nat) (l : List UInt8) (p : Nat) (w : World) (hp : p ≤ 255) (hroom : n + p ≤ cap) (hB : Buf w base g n cap l) :
    Calls Try.prog 73 #[.slice (some ⟨g, 0, none⟩) n cap, .int .i64 p] w fun e w' =>
      e = .returned (.slice (some ⟨g, 0, none⟩) (n + p) cap) ∧ Buf w' base g (n + p) cap (l ++ padB p) ∧ w.grownBy w' (some g) := by
  by_cases h0 : p = 0
  · subst h0
    go_enter Try.func73, Try.ntmps73
    go_wp2
    go_ret
    exact ⟨rfl, by simpa [padB] using hB, World.grownBy.refl _ _⟩
  · obtain ⟨m, hm⟩ : ∃ m, p = m + 1 := ⟨p - 1, by omega⟩
    subst hm
    have Hp : Hid (padB (m + 1) = List.replicate m 0 ++ [UInt8.ofNat (m + 1)]) := by show _ = _; simp [padB]
    have hne : (((m + 1 : Nat) : Int) == 0) = false := by simp; omega
    have Hb : Hid (((m : Int) + 1) = ((UInt8.ofNat (m + 1)).toNat : Int)) := by
      show _ = _
      rw [UInt8.toNat_ofNat']; omega
    clear h0
    go_enter Try.func73, Try.ntmps73
    go_wp2_with (first
      | (at_builtin; refine wl_zeros rfl (.tmp 8) (.tmp 10) rfl rfl hB _ m ?_ (by omega) rfl (by omega) ?_; (first | rfl | omega); intro w1 hB1 hg1)
      | (at_builtin; refine wl_bytes rfl (.tmp 12) (.tmp 15) rfl rfl (hB1.alloc _) _ 1 1 [UInt8.ofNat (m + 1)] rfl rfl (new_one _ _ rfl _ _ _ (congrArg (Value.int .u8) Hb.out)) (by omega) ?_; intro w2 hB2 hg2))
    go_ret
    refine ⟨rfl, ?_, grown_trans hg1 (grown_trans (World.grownBy_alloc _ _ _) hg2)⟩
    rw [Hp.out, ← List.append_assoc]
    exact hB2

set_option maxHeartbeats 1000000 in
theorem addExtension_any (base g n cap : Nat) (l : List UInt8) (mk ex : Bool) (ty nu ti so pa : Int) (pr : Nat) (cv : Value) (en py : ByteArray) (w : World)
    (hpr : pr < 65536) (hen : en.size ≤ 2000) (hroom : n + (if ex then 4 + en.size else 0) ≤ cap) (hB : Buf w base g n cap l) :
    Calls Try.prog 72 #[.slice (some ⟨g, 0, none⟩) n cap, .agg #[.bool mk, .int .i64 ty, .int .i64 nu, .int .i64 ti, .int .i64 so, cv, .bool ex, .int .i64 pr, .string en, .string py, .int .i64 pa]] w fun e w' =>
      e = .returned (.slice (some ⟨g, 0, none⟩) (n + (if ex then 4 + en.size else 0)) cap) ∧ Buf w' base g (n + (if ex then 4 + en.size else 0)) cap (l ++ extB ex pr en.data.toList) ∧ w.grownBy w' (some g) := by
  cases ex
  · go_enter Try.func72, Try.ntmps72
    go_wp2
    go_ret
    exact ⟨rfl, by simpa [extB] using hB.alloc _, World.grownBy_alloc _ _ _⟩
  · have hroom' : n + 4 + en.size ≤ cap := by simpa [Nat.add_assoc] using hroom
    have hne : w.heap.size ≠ g := by have := hB.lt; omega
    clear hroom
    have Hx : Hid (extB true pr en.data.toList = told pr 2 ++ told (en.size / 4) 2 ++ en.data.toList) := by show _ = _; rw [Lib.size_eq]; rfl
    go_enter Try.func72, Try.ntmps72
    go_wp2_with fail
    refine (addNumber_any base g n cap l pr 2 _ (by omega) (by omega) (by omega) (hB.alloc _)).mono ?_
    rintro e w1 ⟨rfl, hB1, hg1⟩
    have hc1 : ∀ o, w1.cell? ⟨w.heap.size, o, none⟩ = _ := fun o => World.cell?_of_block (a := ⟨w.heap.size, o, none⟩) (hg1.block w.heap.size (by simp) (by simpa using hne))
    go_wp2_with fail
    refine (addNumber_int base g (n + 2) cap _ _ 2 _ (by omega) (by omega) (by omega) (by omega) hB1).mono ?_
    rintro e w2 ⟨rfl, hB2, hg2⟩
    have hc2 : ∀ o, w2.cell? ⟨w.heap.size, o, none⟩ = w1.cell? ⟨w.heap.size, o, none⟩ := fun o => World.cell?_of_block (a := ⟨w.heap.size, o, none⟩) (hg2.block w.heap.size (by have := hg1.size; simp at this; omega) (by simpa using hne))
    go_wp2_with (at_builtin; refine wl_string rfl (.tmp 19) (.tmp 21) rfl rfl hB2 en rfl (by omega) ?_; intro w3 hB3 hg3)
    go_ret
    refine ⟨?_, ?_, grown_trans (World.grownBy_alloc _ _ _) (grown_trans hg1 (grown_trans hg2 hg3))⟩
    · simp [Nat.add_assoc]
    · have e : (((en.size : Int) / 4).toNat) = en.size / 4 := by omega
      rw [e] at hB3
      rw [Hx.out]
      simpa [Nat.add_assoc, List.append_assoc] using hB3

end Go.Proofs.Ytdjhhnolcafkiaa
