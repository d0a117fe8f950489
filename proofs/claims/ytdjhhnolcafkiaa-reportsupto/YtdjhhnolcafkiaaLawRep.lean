/- menderlaw.(*Book).parseReport: the program reads a report as the document does; the book takes both lists. -/
import Derived.Test.YtdjhhnolcafkiaaRefRepW
import Derived.Test.YtdjhhnolcafkiaaSameAsk
import Derived.Test.YtdjhhnolcafkiaaOwnsB
import Derived.Test.YtdjhhnolcafkiaaCopied
namespace Go.Proofs.Ytdjhhnolcafkiaa
open Go.RowKit
namespace Pk

def errR (r : Option (List (Nat × Nat × List Int))) : Int := if r.isSome then 0 else 1
theorem rep_as {r : Option (List (Nat × Nat × List Int))} {B : Nat} {e : Ending} {w : World} (h : RepAs r B e w) : ∃ lv xs, e = .returned (.tuple #[lv, .int .i64 (errR r)]) ∧ OwnAsks w B lv xs ∧ mapA xs = mapN (r.getD []) := by
  cases r with
  | none => exact ⟨.slice none 0 0, [], h, OwnAsks.nil _ _, rfl⟩
  | some x =>
    obtain ⟨lv, xs, he, ho, hm⟩ := h
    exact ⟨lv, xs, he, ho, hm⟩

theorem partsR_len : ∀ (n : Nat) (l : List UInt8) (L : List (Nat × Nat × List Int)), partsR n l = some L → 16 * L.length ≤ l.length := by
  intro n
  induction n with
  | zero =>
    intro l L h
    unfold partsR at h
    split at h
    · cases h; simp
    · cases h
  | succ n ih =>
    intro l L h
    unfold partsR at h
    split at h
    · cases h; simp
    · split at h
      · cases h
      · split at h
        · cases h
        · rename_i h3
          split at h
          · split at h
            · cases h
            · rename_i h4
              obtain ⟨L', hL', e⟩ := Option.map_eq_some_iff.1 h
              have := ih _ _ hL'
              rw [List.length_drop] at this
              rw [← e, List.length_cons]
              omega
          · have := ih _ _ h
            rw [List.length_drop] at this
            omega
theorem repR_len (s : ByteArray) : ((repR s).getD []).length ≤ 93 := by
  unfold repR
  split
  · exact Nat.zero_le _
  · rename_i h
    cases hp : partsF s.data.toList with
    | none => exact Nat.zero_le _
    | some L =>
      have := partsR_len _ _ _ hp
      rw [← Lib.size_eq] at this
      show L.length ≤ 93
      omega

theorem OwnAsks.chg {T : Nat → Prop} {w w' : World} {base : Nat} {lv : Value} {xs : List Ask1} (h : OwnAsks w base lv xs) (hc : Chg T w w') (hl : ∀ b, lv.ownBlock = some b → ¬ T b) (hx : ∀ (i : Nat) (x : Ask1), xs[i]? = some x → ∀ b, x.v.ownBlock = some b → ¬ T b) : OwnAsks w' base lv xs :=
  ⟨rowA_chg hc h.row hl, fun i x e => ⟨hc.row (h.each i x e).1 (hx i x e), (h.each i x e).2⟩, h.apart, h.out⟩
theorem OwnAsks.mono {w : World} {base base' : Nat} {lv : Value} {xs : List Ask1} (h : OwnAsks w base lv xs) (hb : base' ≤ base) : OwnAsks w base' lv xs :=
  ⟨by
    obtain ⟨h1, h2 | ⟨g, cap, cur, e, hg, r⟩⟩ := h.row
    · exact ⟨h1, .inl h2⟩
    · exact ⟨h1, .inr ⟨g, cap, cur, e, by omega, r⟩⟩, fun i x e => ⟨(h.each i x e).1.mono hb, (h.each i x e).2⟩, h.apart, h.out⟩
theorem OwnAsks.lt {w : World} {base : Nat} {lv : Value} {xs : List Ask1} (h : OwnAsks w base lv xs) : (∀ b, lv.ownBlock = some b → base ≤ b ∧ b < w.heap.size) ∧ ∀ (i : Nat) (x : Ask1), xs[i]? = some x → ∀ b, x.v.ownBlock = some b → base ≤ b ∧ b < w.heap.size :=
  ⟨fun b hb => h.row.lt b hb, fun i x e b hb => World.ownsRow.lt (h.each i x e).1 b hb⟩

end Pk
open Pk

set_option maxRecDepth 20000 in
set_option maxHeartbeats 8000000 in
theorem lawRep_any (g : Nat) (ρ : Nat → Nat) (tv tk nv nk av ak : Value) (TL TM NL AL : List Value) (NS AS : List Int) (nx : Int) (s : ByteArray) (w : World) (hB : BkN w g ρ tv tk nv nk av ak TL TM NL (NS.map (Value.int .i64)) AL (AS.map (Value.int .i64)) nx)
    (hs : s.size ≤ maxLen) (hN : NL.length ≤ 890000000) (hAL : AL.length ≤ 890000000) (hx0 : 0 ≤ nx) (hx1 : nx ≤ 890000000) :
    Calls Try.prog 15 #[.pointer (some ⟨g, 0, none⟩), .string s] w fun e w' => e = .returned (.bool true) ∧ Chg (fun b => ρ b ≠ 0) w w' ∧
      ∃ (ρ' : Nat → Nat) (nv' nk' av' ak' : Value) (NL' : List Value) (NS' : List Int) (AL' : List Value) (AS' : List Int) (n : Nat), n ≤ 93 ∧ BkN w' g ρ' tv tk nv' nk' av' ak' TL TM NL' (NS'.map (Value.int .i64)) AL' (AS'.map (Value.int .i64)) (nx + 2 * n + 2) ∧
        NL'.length = NL.length + 8 * n ∧ AL'.length = AL.length + 8 ∧ (∀ b, b < w.heap.size → ρ' b = ρ b) := by
  have HB : Hid (BkN w g ρ tv tk nv nk av ak TL TM NL (NS.map (Value.int .i64)) AL (AS.map (Value.int .i64)) nx) := hB
  have hgw := hB.lt
  have Hcl := repR_len s
  obtain ⟨R, hR⟩ : ∃ R, mapN ((repR s).getD []) = R := ⟨_, rfl⟩
  obtain ⟨er, her⟩ : ∃ er, errR (repR s) = er := ⟨_, rfl⟩
  have P1 : Hid (∀ W, Calls Try.prog 24 #[.string s] W fun e w' => Below W.heap.size W w' ∧ ∃ lv xs, e = .returned (.tuple #[lv, .int .i64 er]) ∧ OwnAsks w' W.heap.size lv xs ∧ mapA xs = R) := fun W =>
    (parseReport_any s W hs).mono fun e w' h => ⟨h.1, by rw [← hR, ← her]; exact rep_as h.2⟩
  have P2 : Hid (∀ W, Calls Try.prog 43 #[.string s] W fun e w' => Below W.heap.size W w' ∧ ∃ lv xs, e = .returned (.tuple #[lv, .int .i64 er]) ∧ OwnAsks w' W.heap.size lv xs ∧ mapA xs = R) := fun W =>
    (refRep_any s W hs).mono fun e w' h => ⟨h.1, by rw [← hR, ← her]; exact rep_as h.2⟩
  have hRl : R.length ≤ 93 := by rw [← hR]; unfold mapN; rw [List.length_map]; exact Hcl
  clear hR her hB hs Hcl
  go_enter Try.func15, Try.ntmps15
  go_wp2_with fail
  refine (P1.out _).mono ?_
  rintro e w1 ⟨hb1, v1, xs1, rfl, ho1, hm1⟩
  obtain ⟨a1, c1, rfl⟩ := rowA_shape ho1.row
  have Hb1 : Hid (Below w.heap.size w w1) := hb1
  have Ho1 : Hid (OwnAsks w1 w.heap.size (.slice a1 xs1.length c1) xs1) := ho1
  have Hm1 : Hid (mapA xs1 = R) := hm1
  have s1 := hb1.size
  have hl1 : xs1.length ≤ 93 := by rw [← hm1] at hRl; unfold mapA at hRl; rw [List.length_map] at hRl; exact hRl
  clear hb1 ho1 hm1
  go_wp2_with fail
  refine (P1.out _).mono ?_
  rintro e w2 ⟨hb2, v2, xs2, rfl, ho2, hm2⟩
  obtain ⟨a2, c2, rfl⟩ := rowA_shape ho2.row
  have Ho1' : Hid (OwnAsks w2 w.heap.size (.slice a1 xs1.length c1) xs1) := Ho1.out.below hb2
  have Hb2 : Hid (Below w.heap.size w w2) := Hb1.out.trans (hb2.mono s1)
  have s2 := hb2.size
  have Ho2 : Hid (OwnAsks w2 w1.heap.size (.slice a2 xs2.length c2) xs2) := ho2
  have Hm2 : Hid (mapA xs2 = R) := hm2
  have hl2 : xs2.length ≤ 93 := by rw [← hm2] at hRl; unfold mapA at hRl; rw [List.length_map] at hRl; exact hRl
  have Hl1 : Hid _ := Ho1.out.lt
  clear hb2 ho2 Ho1 Hb1 hm2
  go_wp2_with fail
  refine (P2.out _).mono ?_
  rintro e w3 ⟨hb3, v3, xs3, rfl, ho3, hm3⟩
  obtain ⟨a3, c3, rfl⟩ := rowA_shape ho3.row
  have Ho1 : Hid (OwnAsks w3 w.heap.size (.slice a1 xs1.length c1) xs1) := Ho1'.out.below hb3
  have Ho2' : Hid (OwnAsks w3 w1.heap.size (.slice a2 xs2.length c2) xs2) := Ho2.out.below hb3
  have Hb3 : Hid (Below w.heap.size w w3) := Hb2.out.trans (hb3.mono (by omega))
  have s3 := hb3.size
  have Hl2 : Hid _ := Ho2.out.lt
  have Ho3 : Hid (OwnAsks w3 w2.heap.size (.slice a3 xs3.length c3) xs3) := ho3
  have Hm3 : Hid (mapA xs3 = R) := hm3
  clear hb3 ho3 Ho2 Hb2 Ho1' hm3
  go_wp2_with fail
  refine (sameAskings_any w.heap.size w2.heap.size _ _ xs1 xs3 _ Ho1.out Ho3.out (by rw [Hm1.out, Hm3.out]) (by omega)).mono ?_
  rintro e w4 ⟨rfl, n4, rfl⟩
  go_wp2_with fail
  refine (sameAskings_any w1.heap.size w2.heap.size _ _ xs2 xs3 _ (Ho2'.out.drewN _) (Ho3.out.drewN _) (by rw [Hm2.out, Hm3.out]) (by omega)).mono ?_
  rintro e w5 ⟨rfl, n5, rfl⟩
  have Hb5 : Hid (Below w.heap.size w ((w3.drewN n4).drewN n5)) := below_drewN (below_drewN Hb3.out _) _
  have Q1 : Hid (OwnAsks ((w3.drewN n4).drewN n5) w.heap.size (.slice a1 xs1.length c1) xs1) := (Ho1.out.drewN _).drewN _
  have Q2 : Hid (OwnAsks ((w3.drewN n4).drewN n5) w1.heap.size (.slice a2 xs2.length c2) xs2) := (Ho2'.out.drewN _).drewN _
  have hs5 : ((w3.drewN n4).drewN n5).heap.size = w3.heap.size := by simp
  generalize hw5 : (w3.drewN n4).drewN n5 = w5 at *
  have B5 : Hid (BkN w5 g ρ tv tk nv nk av ak TL TM NL (NS.map (Value.int .i64)) AL (AS.map (Value.int .i64)) nx) := HB.out.chg (T := fun _ => False) (Chg.ofBelow Hb5.out) (fun _ h => h.elim)
  have hz : Hid (∀ b, w.heap.size ≤ b → ρ b = 0) := HB.out.hi
  clear Hb3 Ho1 Ho2' Ho3 hw5 n4 n5
  have HF : Hid (∀ b, ((Value.slice a2 xs2.length c2).ownBlock = some b ∨ ∃ (i : Nat) (x : Ask1), xs2[i]? = some x ∧ x.v.ownBlock = some b) → w1.heap.size ≤ b ∧ b < w2.heap.size) := by
    rintro b (hb | ⟨i, x, hx, hb⟩)
    · exact Hl2.out.1 b hb
    · exact Hl2.out.2 i x hx b hb
  go_wp2_with fail
  refine (ownsA_any (fun b => ((Value.slice a2 xs2.length c2).ownBlock = some b ∨ ∃ (i : Nat) (x : Ask1), xs2[i]? = some x ∧ x.v.ownBlock = some b) ∨ (b < w.heap.size ∧ ρ b = 0)) g ρ tv tk nv nk av ak TL TM NL AL NS AS nx _ xs1 _ B5.out (Q1.out.mono (by omega)) (fun b hb => hz.out b (Hl1.out.1 b hb).1) (fun i x hx b hb => hz.out b (Hl1.out.2 i x hx b hb).1) ?_ (by omega) (by omega) (by omega) hx0 (by omega)).mono ?_
  · rintro b (hb | ⟨hb, h0⟩)
    · have h := HF.out b hb
      refine ⟨hz.out b (by omega), by omega, fun e => by have := (Hl1.out.1 b e).2; omega, fun i x hx e => by have := (Hl1.out.2 i x hx b e).2; omega⟩
    · refine ⟨h0, by omega, fun e => by have := (Hl1.out.1 b e).1; omega, fun i x hx e => by have := (Hl1.out.2 i x hx b e).1; omega⟩
  rintro e w6 ⟨rfl, ρ6, nv6, nk6, av6, ak6, NL6, NS6, AL6, AS6, B6, hn6, ha6, r6, C6, F6⟩
  have HB6 : Hid (BkN w6 g ρ6 tv tk nv6 nk6 av6 ak6 TL TM NL6 (NS6.map (Value.int .i64)) AL6 (AS6.map (Value.int .i64)) (nx + xs1.length + 1)) := B6
  have Q2' : Hid (OwnAsks w6 w1.heap.size (.slice a2 xs2.length c2) xs2) := Q2.out.chg C6 (fun b hb e => e.2 (.inl (.inl hb))) (fun i x hx b hb e => e.2 (.inl (.inr ⟨i, x, hx, hb⟩)))
  have Hn6 : Hid (NL6.length = NL.length + 4 * xs1.length) := hn6
  have Ha6 : Hid (AL6.length = AL.length + 4) := ha6
  have hn6' : NL6.length ≤ 890000400 := by omega
  have ha6' : AL6.length ≤ 890000400 := by omega
  have s6 := C6.size
  have HC6 : Hid (Chg (fun b => ρ b ≠ 0) w w6) := (Chg.ofBelow Hb5.out).trans C6 (fun b hb e h0 => e.2 (.inr ⟨hb, h0⟩))
  have R6 : Hid (∀ b, b < w.heap.size → ρ6 b = ρ b) := fun b hb => by
    by_cases h0 : ρ b = 0
    · rw [h0]; exact F6 b (.inr ⟨hb, h0⟩)
    · exact r6 b (by omega) h0
  have G6 : Hid (∀ b, ((Value.slice a2 xs2.length c2).ownBlock = some b ∨ ∃ (i : Nat) (x : Ask1), xs2[i]? = some x ∧ x.v.ownBlock = some b) → ρ6 b = 0) := fun b hb => F6 b (.inl hb)
  clear B6 C6 hn6 ha6 r6 F6 B5 Q1 Q2
  go_wp2_with fail
  refine (ownsA_any (fun b => b < w.heap.size ∧ ρ b = 0) g ρ6 tv tk nv6 nk6 av6 ak6 TL TM NL6 AL6 NS6 AS6 (nx + xs1.length + 1) _ xs2 _ HB6.out (Q2'.out.mono (by omega)) (fun b hb => G6.out b (.inl hb)) (fun i x hx b hb => G6.out b (.inr ⟨i, x, hx, hb⟩)) ?_ (by omega) (by omega) (by omega) (by omega) (by omega)).mono ?_
  · rintro b ⟨hb, h0⟩
    refine ⟨by rw [R6.out b hb]; exact h0, by omega, fun e => by have := (Hl2.out.1 b e).1; omega, fun i x hx e => by have := (Hl2.out.2 i x hx b e).1; omega⟩
  rintro e w7 ⟨rfl, ρ7, nv7, nk7, av7, ak7, NL7, NS7, AL7, AS7, B7, hn7, ha7, r7, C7, F7⟩
  have F1 : Hid (Chg (fun b => ρ b ≠ 0) w w7) := HC6.out.trans C7 (fun b hb e h0 => e.2 ⟨hb, h0⟩)
  have hxx : xs2.length = xs1.length := by
    have := congrArg List.length (Hm2.out.trans Hm1.out.symm)
    unfold mapA at this
    simpa using this
  have F2 : Hid (∃ (ρ' : Nat → Nat) (nv' nk' av' ak' : Value) (NL' : List Value) (NS' : List Int) (AL' : List Value) (AS' : List Int) (n : Nat), n ≤ 93 ∧ BkN w7 g ρ' tv tk nv' nk' av' ak' TL TM NL' (NS'.map (Value.int .i64)) AL' (AS'.map (Value.int .i64)) (nx + 2 * n + 2) ∧
        NL'.length = NL.length + 8 * n ∧ AL'.length = AL.length + 8 ∧ (∀ b, b < w.heap.size → ρ' b = ρ b)) := by
    refine ⟨ρ7, nv7, nk7, av7, ak7, NL7, NS7, AL7, AS7, xs1.length, hl1, ?_, ?_, ?_, ?_⟩
    · have e : nx + 2 * (xs1.length : Int) + 2 = nx + xs1.length + 1 + xs2.length + 1 := by rw [hxx]; omega
      rw [e]
      exact B7
    · rw [hn7, Hn6.out]; omega
    · rw [ha7, Ha6.out]
    · intro b hb
      by_cases h0 : ρ b = 0
      · rw [h0]; exact F7 b ⟨hb, h0⟩
      · rw [r7 b (by omega) (by rw [R6.out b hb]; exact h0), R6.out b hb]
  clear B7 C7 hn7 ha7 r7 F7 HB6 HC6 Hn6 Ha6 hxx
  go_wp2_with fail
  refine (errNum_any _ _).mono ?_
  rintro e w8 ⟨rfl, rfl⟩
  go_wp2_with fail
  refine (errNum_any _ _).mono ?_
  rintro e w8 ⟨rfl, rfl⟩
  go_wp2
  go_ret
  exact ⟨rfl, F1.out, F2.out⟩

end Go.Proofs.Ytdjhhnolcafkiaa
