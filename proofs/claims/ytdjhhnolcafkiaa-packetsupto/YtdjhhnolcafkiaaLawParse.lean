/- menderlaw.(*Book).parsePacket: the program reads a text as the document does; the book takes both lists. -/
import Derived.Test.YtdjhhnolcafkiaaLooks
import Derived.Test.YtdjhhnolcafkiaaRefPar
import Derived.Test.YtdjhhnolcafkiaaReadAll
import Derived.Test.YtdjhhnolcafkiaaSamePkt
import Derived.Test.YtdjhhnolcafkiaaCopied
namespace Go.Proofs.Ytdjhhnolcafkiaa
open Go.RowKit
namespace Pk

def zP : PP := ⟨false, false, 0, 0, 0, 0, 0, 0, [], ⟨#[]⟩, ⟨#[]⟩⟩
def errP (r : Option PP) : Int := if r.isSome then 0 else 1
def tupV (x : PP) (v : Value) (e : Int) : Value := .tuple #[.agg #[.bool x.mrk, .int .i64 x.ty, .int .i64 x.nu, .int .i64 x.ti, .int .i64 x.so, v, .bool x.ex, .int .i64 x.pr, .string x.en, .string x.py, .int .i64 x.pa], .int .i64 e]

theorem read_one {r : Option PP} {B : Nat} {e : Ending} {w : World} (h : ReadAs r B e w) : ∃ v, e = .returned (tupV (r.getD zP) v (errP r)) ∧ OwnInts w B v (r.getD zP).cl := by
  cases r with
  | none => exact ⟨.slice none 0 0, h, World.ownsRow_nil _ _ _ _⟩
  | some x =>
    obtain ⟨v, he, ho⟩ := h
    exact ⟨v, he, ho⟩

theorem readP_cl (s : ByteArray) : ((readP s).getD zP).cl.length ≤ 15 := by
  unfold readP
  split
  · exact Nat.zero_le _
  · split
    · exact Nat.zero_le _
    · rename_i h1 h2
      cases he : extPart s with
      | none => exact Nat.zero_le _
      | some x =>
        simp only [Option.bind_some]
        cases hp : padPart s x.2.2 with
        | none => exact Nat.zero_le _
        | some y =>
          show (words (s.extract 12 (at0 s)).data.toList).length ≤ 15
          rw [words_length ((B0 s).toNat % 16) _ (by rw [← Lib.size_eq, ByteArray.size_extract]; unfold at0 at h2 ⊢; omega)]
          omega

structure Bx (W : World) (b : Nat) (mk ex : Bool) (ty nu ti so pr pa : Int) (v : Value) (en py : ByteArray) : Prop where
  x0 : W.cell? ⟨b, 0, none⟩ = some (.bool mk)
  x1 : W.cell? ⟨b, 1, none⟩ = some (.int .i64 ty)
  x2 : W.cell? ⟨b, 2, none⟩ = some (.int .i64 nu)
  x3 : W.cell? ⟨b, 3, none⟩ = some (.int .i64 ti)
  x4 : W.cell? ⟨b, 4, none⟩ = some (.int .i64 so)
  x5 : W.cell? ⟨b, 5, none⟩ = some (v)
  x6 : W.cell? ⟨b, 6, none⟩ = some (.bool ex)
  x7 : W.cell? ⟨b, 7, none⟩ = some (.int .i64 pr)
  x8 : W.cell? ⟨b, 8, none⟩ = some (.string en)
  x9 : W.cell? ⟨b, 9, none⟩ = some (.string py)
  x10 : W.cell? ⟨b, 10, none⟩ = some (.int .i64 pa)

theorem Bx.new (w : World) (t : TypeId) (mk ex : Bool) (ty nu ti so pr pa : Int) (v : Value) (en py : ByteArray) : Bx (w.alloc (.cells #[.bool mk, .int .i64 ty, .int .i64 nu, .int .i64 ti, .int .i64 so, v, .bool ex, .int .i64 pr, .string en, .string py, .int .i64 pa] t)) w.heap.size mk ex ty nu ti so pr pa v en py := by
  constructor
  all_goals first | (simp [go_sem]; done) | go_simp
theorem Bx.chg {T : Nat → Prop} {W W' : World} {b : Nat} {mk ex : Bool} {ty nu ti so pr pa : Int} {v : Value} {en py : ByteArray} (h : Bx W b mk ex ty nu ti so pr pa v en py) (hc : Chg T W W') (hn : ¬ T b) : Bx W' b mk ex ty nu ti so pr pa v en py :=
  ⟨hc.cell h.x0 hn, hc.cell h.x1 hn, hc.cell h.x2 hn, hc.cell h.x3 hn, hc.cell h.x4 hn, hc.cell h.x5 hn, hc.cell h.x6 hn, hc.cell h.x7 hn, hc.cell h.x8 hn, hc.cell h.x9 hn, hc.cell h.x10 hn⟩
theorem Bx.below {W W' : World} {b : Nat} {mk ex : Bool} {ty nu ti so pr pa : Int} {v : Value} {en py : ByteArray} (h : Bx W b mk ex ty nu ti so pr pa v en py) (hb : Below W.heap.size W W') : Bx W' b mk ex ty nu ti so pr pa v en py :=
  h.chg (T := fun _ => False) (Chg.ofBelow hb) (fun e => e)
theorem Bx.lt {W : World} {b : Nat} {mk ex : Bool} {ty nu ti so pr pa : Int} {v : Value} {en py : ByteArray} (h : Bx W b mk ex ty nu ti so pr pa v en py) : b < W.heap.size := lt_of_cell h.x0

end Pk
open Pk

set_option maxRecDepth 20000 in
set_option maxHeartbeats 8000000 in
theorem lawParse_any (g : Nat) (nv mv : Value) (NL : List Value) (ML : List Int) (nx : Int) (s : ByteArray) (w : World) (hB : Bk w g (fun _ => False) nv mv NL ML nx) (hs : s.size ≤ maxLen) (hN : NL.length ≤ 900000000) (hx0 : 0 ≤ nx) (hx1 : nx ≤ 900000000) :
    Calls Try.prog 12 #[.pointer (some ⟨g, 0, none⟩), .string s] w fun e w' => e = .returned (.bool true) ∧ Chg (fun b => g ≤ b) w w' ∧
      ∃ nv' mv' NL' ML', Bk w' g (fun _ => False) nv' mv' NL' ML' (nx + 1 + 1) ∧ NL'.length = NL.length + 8 := by
  have HB : Hid (Bk w g (fun b => w.heap.size ≤ b) nv mv NL ML nx) := hB.widen (fun b h1 h2 => by omega)
  have hgw := hB.lt
  have Hcl := readP_cl s
  obtain ⟨x, hx⟩ : ∃ x, (readP s).getD zP = x := ⟨_, rfl⟩
  obtain ⟨er, her⟩ : ∃ er, errP (readP s) = er := ⟨_, rfl⟩
  have P1 : Hid (∀ W, Calls Try.prog 18 #[.string s] W fun e w' => Below W.heap.size W w' ∧ ∃ v, e = .returned (tupV x v er) ∧ OwnInts w' W.heap.size v x.cl) := fun W =>
    (parsePacket_any s W hs).mono fun e w' h => ⟨h.1, by rw [← hx, ← her]; exact read_one h.2⟩
  have P2 : Hid (∀ W, Calls Try.prog 39 #[.string s] W fun e w' => Below W.heap.size W w' ∧ ∃ v, e = .returned (tupV x v er) ∧ OwnInts w' W.heap.size v x.cl) := fun W =>
    (refParse_any s W hs).mono fun e w' h => ⟨h.1, by rw [← hx, ← her]; exact read_one h.2⟩
  rw [hx] at Hcl
  clear hx her hB hs
  obtain ⟨mk, ex, ty, nu, ti, so, pr, pa, cl, en, py⟩ := x
  simp only at Hcl
  simp only [tupV] at P1 P2
  go_enter Try.func12, Try.ntmps12
  go_wp2_with fail
  refine (P1.out _).mono ?_
  rintro e w1 ⟨hb1, v1, rfl, ho1⟩
  obtain ⟨a1, c1, rfl⟩ := ho1.shape
  have Hb1 : Hid (Below w.heap.size w w1) := hb1
  have Ho1 : Hid (OwnInts w1 w.heap.size (.slice a1 cl.length c1) cl) := ho1
  have s1 := hb1.size
  clear hb1 ho1
  go_wp2_with fail
  refine (P1.out _).mono ?_
  rintro e w2 ⟨hb2, v2, rfl, ho2⟩
  obtain ⟨a2, c2, rfl⟩ := ho2.shape
  have X1 : Hid (Bx w2 w1.heap.size mk ex ty nu ti so pr pa (.slice a1 cl.length c1) en py) := (Bx.new _ _ _ _ _ _ _ _ _ _ _ _ _).below hb2
  have Ho1' : Hid (OwnInts w2 w.heap.size (.slice a1 cl.length c1) cl) := (Ho1.out.alloc _).below hb2
  have Hb2 : Hid (Below w.heap.size w w2) := (Hb1.out.alloc s1 _).trans (hb2.mono (by simp; omega))
  have s2 : w1.heap.size + 1 ≤ w2.heap.size := by have := hb2.size; simpa using this
  have Ho2 : Hid (OwnInts w2 (w1.heap.size + 1) (.slice a2 cl.length c2) cl) := ho2.mono (by simp)
  have Hl1 : Hid (∀ b, (Value.slice a1 cl.length c1).ownBlock = some b → w.heap.size ≤ b ∧ b < w1.heap.size) := fun b hb => World.ownsRow.lt Ho1.out b hb
  clear hb2 ho2 Ho1 Hb1
  go_wp2_with fail
  refine (P2.out _).mono ?_
  rintro e w3 ⟨hb3, v3, rfl, ho3⟩
  obtain ⟨a3, c3, rfl⟩ := ho3.shape
  have Y2 : Hid (Bx w3 w2.heap.size mk ex ty nu ti so pr pa (.slice a2 cl.length c2) en py) := (Bx.new _ _ _ _ _ _ _ _ _ _ _ _ _).below hb3
  have Y1 : Hid (Bx w3 w1.heap.size mk ex ty nu ti so pr pa (.slice a1 cl.length c1) en py) := (X1.out.below ((Below.refl _ _).alloc (Nat.le_refl _) _)).below hb3
  have Ho1 : Hid (OwnInts w3 w.heap.size (.slice a1 cl.length c1) cl) := (Ho1'.out.alloc _).below hb3
  have Ho2' : Hid (OwnInts w3 (w1.heap.size + 1) (.slice a2 cl.length c2) cl) := (Ho2.out.alloc _).below hb3
  have Hb3 : Hid (Below w.heap.size w w3) := (Hb2.out.alloc (by omega) _).trans (hb3.mono (by simp; omega))
  have s3 : w2.heap.size + 1 ≤ w3.heap.size := by have := hb3.size; simpa using this
  have Hl2 : Hid (∀ b, (Value.slice a2 cl.length c2).ownBlock = some b → w1.heap.size + 1 ≤ b ∧ b < w2.heap.size) := fun b hb => World.ownsRow.lt Ho2.out b hb
  have Ho3 : Hid (∀ o, OwnInts (w3.alloc o) w.heap.size (.slice a3 cl.length c3) cl) := fun o => (ho3.alloc o).mono (by simp; omega)
  clear hb3 ho3 Ho2 Hb2 Ho1' X1
  have z0 : ∀ o, (w3.alloc o).cell? ⟨w1.heap.size, 0, none⟩ = _ := fun o => (World.cell?_alloc_lt _ _ _ Y1.out.lt).trans Y1.out.x0
  have z1 : ∀ o, (w3.alloc o).cell? ⟨w1.heap.size, 1, none⟩ = _ := fun o => (World.cell?_alloc_lt _ _ _ Y1.out.lt).trans Y1.out.x1
  have z2 : ∀ o, (w3.alloc o).cell? ⟨w1.heap.size, 2, none⟩ = _ := fun o => (World.cell?_alloc_lt _ _ _ Y1.out.lt).trans Y1.out.x2
  have z3 : ∀ o, (w3.alloc o).cell? ⟨w1.heap.size, 3, none⟩ = _ := fun o => (World.cell?_alloc_lt _ _ _ Y1.out.lt).trans Y1.out.x3
  have z4 : ∀ o, (w3.alloc o).cell? ⟨w1.heap.size, 4, none⟩ = _ := fun o => (World.cell?_alloc_lt _ _ _ Y1.out.lt).trans Y1.out.x4
  have z5 : ∀ o, (w3.alloc o).cell? ⟨w1.heap.size, 5, none⟩ = _ := fun o => (World.cell?_alloc_lt _ _ _ Y1.out.lt).trans Y1.out.x5
  have z6 : ∀ o, (w3.alloc o).cell? ⟨w1.heap.size, 6, none⟩ = _ := fun o => (World.cell?_alloc_lt _ _ _ Y1.out.lt).trans Y1.out.x6
  have z7 : ∀ o, (w3.alloc o).cell? ⟨w1.heap.size, 7, none⟩ = _ := fun o => (World.cell?_alloc_lt _ _ _ Y1.out.lt).trans Y1.out.x7
  have z8 : ∀ o, (w3.alloc o).cell? ⟨w1.heap.size, 8, none⟩ = _ := fun o => (World.cell?_alloc_lt _ _ _ Y1.out.lt).trans Y1.out.x8
  have z9 : ∀ o, (w3.alloc o).cell? ⟨w1.heap.size, 9, none⟩ = _ := fun o => (World.cell?_alloc_lt _ _ _ Y1.out.lt).trans Y1.out.x9
  have z10 : ∀ o, (w3.alloc o).cell? ⟨w1.heap.size, 10, none⟩ = _ := fun o => (World.cell?_alloc_lt _ _ _ Y1.out.lt).trans Y1.out.x10
  go_wp2_with fail
  have Z3 : Hid (∀ t, Bx (w3.alloc (.cells #[.bool mk, .int .i64 ty, .int .i64 nu, .int .i64 ti, .int .i64 so, .slice a3 cl.length c3, .bool ex, .int .i64 pr, .string en, .string py, .int .i64 pa] t)) w3.heap.size mk ex ty nu ti so pr pa (.slice a3 cl.length c3) en py) := fun t => Bx.new _ _ _ _ _ _ _ _ _ _ _ _ _
  refine (samePacket_any mk ex ty nu ti so pr pa _ _ cl en py _ (Ho1.out.alloc _).isInts (Ho3.out _).isInts (by omega)).mono ?_
  rintro e w4 ⟨rfl, hb4⟩
  have U3 : Hid (Bx w4 w3.heap.size mk ex ty nu ti so pr pa (.slice a3 cl.length c3) en py) := (Z3.out _).below hb4
  have U2 : Hid (Bx w4 w2.heap.size mk ex ty nu ti so pr pa (.slice a2 cl.length c2) en py) := (Y2.out.below ((Below.refl _ _).alloc (Nat.le_refl _) _)).below hb4
  have U1 : Hid (Bx w4 w1.heap.size mk ex ty nu ti so pr pa (.slice a1 cl.length c1) en py) := (Y1.out.below ((Below.refl _ _).alloc (Nat.le_refl _) _)).below hb4
  have O1 : Hid (OwnInts w4 w.heap.size (.slice a1 cl.length c1) cl) := (Ho1.out.alloc _).below hb4
  have O2 : Hid (OwnInts w4 (w1.heap.size + 1) (.slice a2 cl.length c2) cl) := (Ho2'.out.alloc _).below hb4
  have O3 : Hid (OwnInts w4 w.heap.size (.slice a3 cl.length c3) cl) := (Ho3.out _).below hb4
  have Hb4 : Hid (Below w.heap.size w w4) := (Hb3.out.alloc (by omega) _).trans (hb4.mono (by simp; omega))
  clear hb4 Hb3 Ho1 Ho2' Ho3 Y1 Y2 Z3 z0 z1 z2 z3 z4 z5 z6 z7 z8 z9 z10
  obtain ⟨t0, t1, t2, t3, t4, t5, t6, t7, t8, t9, t10⟩ := U2.out
  obtain ⟨f0, f1, f2, f3, f4, f5, f6, f7, f8, f9, f10⟩ := U3.out
  go_wp2_with fail
  refine (samePacket_any mk ex ty nu ti so pr pa _ _ cl en py _ O2.out.isInts O3.out.isInts (by omega)).mono ?_
  rintro e w5 ⟨rfl, hb5⟩
  have V2 : Hid (Bx w5 w2.heap.size mk ex ty nu ti so pr pa (.slice a2 cl.length c2) en py) := U2.out.below hb5
  have V1 : Hid (Bx w5 w1.heap.size mk ex ty nu ti so pr pa (.slice a1 cl.length c1) en py) := U1.out.below hb5
  have Q1 : Hid (OwnInts w5 w.heap.size (.slice a1 cl.length c1) cl) := O1.out.below hb5
  have Q2 : Hid (OwnInts w5 (w1.heap.size + 1) (.slice a2 cl.length c2) cl) := O2.out.below hb5
  have Hb5 : Hid (Below w.heap.size w w5) := Hb4.out.trans (hb5.mono Hb4.out.size)
  have B5 : Hid (Bk w5 g (fun b => w.heap.size ≤ b) nv mv NL ML nx) := HB.out.chg (T := fun b => w.heap.size ≤ b) (Chg.ofBelow Hb5.out) (fun b h => h)
  clear hb5 Hb4 O1 O2 O3 U1 U2 U3 t0 t1 t2 t3 t4 t5 t6 t7 t8 t9 t10 f0 f1 f2 f3 f4 f5 f6 f7 f8 f9 f10
  have p5 := V1.out.x5
  go_wp2_with fail
  refine (owns_any g _ nv mv NL ML nx _ cl _ B5.out (Q1.out.mono (by omega)) (fun b hb => (Hl1.out b hb).1) Hcl (by omega) hx0 (by omega)).mono ?_
  rintro e w6 ⟨rfl, nv6, mv6, NL6, hl6, B6, C6⟩
  have hnv : ∀ b, nv.ownBlock = some b → b < w.heap.size := fun b hb => (HB.out.rn.lt b hb).2
  have hmv : ∀ b, mv.ownBlock = some b → b < w.heap.size := fun b hb => (HB.out.rm.lt b hb).2
  have V2' : Hid (Bx w6 w2.heap.size mk ex ty nu ti so pr pa (.slice a2 cl.length c2) en py) := V2.out.chg C6 (by
    rintro (h | h | h | h)
    · omega
    · have := hnv _ h; omega
    · have := hmv _ h; omega
    · have := (Hl1.out _ h).2; omega)
  have Q2' : Hid (OwnInts w6 (w1.heap.size + 1) (.slice a2 cl.length c2) cl) := C6.row Q2.out (by
    intro x hx
    have h2 := Hl2.out x hx
    rintro (h | h | h | h)
    · omega
    · have := hnv _ h; omega
    · have := hmv _ h; omega
    · have := (Hl1.out _ h).2; omega)
  have HB6 : Hid (Bk w6 g _ nv6 mv6 (NL ++ NL6) _ (nx + 1)) := B6
  have HC6 : Hid (Chg (fun b => g ≤ b) w w6) := (Chg.ofBelow Hb5.out).trans C6 (by
    intro x hx
    rintro (h | h | h | h)
    · omega
    · have := (HB.out.rn.lt _ h).1; omega
    · have := (HB.out.rm.lt _ h).1; omega
    · have := (Hl1.out _ h).1; omega)
  have hw5 : w2.heap.size ≤ w5.heap.size := by have := V2.out.lt; omega
  have Hn6 : Hid ((NL ++ NL6).length = NL.length + 4) := by show _ = _; rw [List.length_append, hl6]
  clear B6 C6 hl6 p5 V1 V2 Q1 Q2 hnv hmv
  have p5 := V2'.out.x5
  go_wp2_with fail
  refine (owns_any g _ nv6 mv6 (NL ++ NL6) _ (nx + 1) _ cl _ HB6.out (Q2'.out.mono (by omega)) (fun b hb => ⟨by have := (Hl2.out b hb).1; omega, by have := (Hl2.out b hb).2; omega, fun e => by have := (Hl1.out b e).2; have := (Hl2.out b hb).1; omega⟩) Hcl (by rw [Hn6.out]; omega) (by omega) (by omega)).mono ?_
  rintro e w7 ⟨rfl, nv7, mv7, NL7, hl7, B7, C7⟩
  have F1 : Hid (Chg (fun b => g ≤ b) w w7) := HC6.out.trans C7 (by
    intro x hx
    rintro (h | h | h | h)
    · omega
    · have := (HB6.out.rn.lt _ h).1; omega
    · have := (HB6.out.rm.lt _ h).1; omega
    · have := (Hl2.out _ h).1; omega)
  have F2 : Hid (∃ nv' mv' NL' ML', Bk w7 g (fun _ => False) nv' mv' NL' ML' (nx + 1 + 1) ∧ NL'.length = NL.length + 8) := ⟨_, _, _, _, B7.widen (fun b _ h => h.elim), by rw [List.length_append, hl7, Hn6.out]⟩
  clear B7 C7 hl7 p5 V2' Q2' HB6 HC6 Hn6
  go_wp2_with fail
  refine (errNum_any _ _).mono ?_
  rintro e w8 ⟨rfl, rfl⟩
  go_wp2_with fail
  refine (errNum_any _ _).mono ?_
  rintro e w8 ⟨rfl, rfl⟩
  go_wp2
  go_ret
  exact ⟨rfl, F1.out, F2.out⟩

end Go.Proofs.Ytdjhhnolcafkiaa
