/- menderkeep.Once returns true. -/
import Derived.Test.YtdjhhnolcafkiaaG10
namespace Go.Proofs.Ytdjhhnolcafkiaa
open Go.RowKit
namespace Pk
/-- the list of what has come -/
structure CameAt (cb n : Nat) (cm : Nat → Bool) (W : World) : Prop where
  c : ∀ j, j < n → W.cell? ⟨cb, j, none⟩ = some (.bool (cm j))
  f : ∀ o, W.frozen? ⟨cb, o, none⟩ = false
  lt : cb < W.heap.size
theorem CameAt.chg {T : Nat → Prop} {cb n : Nat} {cm : Nat → Bool} {W W' : World} (h : CameAt cb n cm W) (hc : Chg T W W') (hn : ¬ T cb) : CameAt cb n cm W' :=
  ⟨fun j hj => hc.cell (h.c j hj) hn, fun o => (hc.frozen (p := ⟨cb, o, none⟩) h.lt hn).trans (h.f o), Nat.lt_of_lt_of_le h.lt hc.size⟩
theorem CameAt.set {cb n k : Nat} {cm : Nat → Bool} {W : World} (h : CameAt cb n cm W) : CameAt cb n (updB cm k) (W.setCell ⟨cb, k, none⟩ (.bool true)) := by
  refine ⟨fun j hj => ?_, fun o => ?_, ?_⟩
  · unfold updB
    by_cases e : j = k
    · subst e
      rw [if_pos rfl]
      exact World.cell?_setCell_same _ _ _ (h.c j hj)
    · rw [if_neg e, World.cell?_setCell_other _ _ _ _ (fun e' => e (by injection e' with _ e2 _; exact e2.symm))]
      exact h.c j hj
  · rw [World.frozen?_setCell]
    exact h.f o
  · rw [World.size_setCell]
    exact h.lt
def bgI : Option Nat → Int
  | none => -1
  | some b => b
/-- the state of the loop -/
def OnceAt (w : World) (base wn mb cb : Nat) (i : Nat) (bg : Option Nat) (wr : World) : Prop :=
  ∃ cm M s sd x ρ sv wv SB WB, OnceSt base wn bg cm i M s sd x ∧ MdAt wr ρ mb M sv wv SB WB ∧ (∀ b, b < w.heap.size → ρ b = 0) ∧ ρ cb = 0 ∧ CameAt cb wn cm wr ∧ Below w.heap.size w wr
theorem OnceAt.below {w wr w' : World} {base wn mb cb i : Nat} {bg : Option Nat} (h : OnceAt w base wn mb cb i bg wr) (hb : Below wr.heap.size wr w') : OnceAt w base wn mb cb i bg w' := by
  obtain ⟨cm, M, s, sd, x, ρ, sv, wv, SB, WB, h1, h2, h3, h4, h5, h6⟩ := h
  exact ⟨cm, M, s, sd, x, ρ, sv, wv, SB, WB, h1, h2.below hb, h3, h4, h5.chg (T := fun _ => False) (Chg.ofBelow hb) (fun e => e), h6.trans (hb.mono h6.size)⟩
/-- one more packet has come -/
theorem OnceAt.step {w wr w' : World} {base wn mb cb i k : Nat} {bg : Option Nat} {cm : Nat → Bool} {M : Md} {s : Stt} {sd : Sd} {x : Wn} {ρ : Nat → Nat} {tv cv : Value} {L : List ByteArray}
    (h1 : OnceSt base wn bg cm i M s sd x) (h3 : ∀ b, b < w.heap.size → ρ b = 0) (h4 : ρ cb = 0) (h5 : CameAt cb wn (updB cm k) wr) (h6 : Below w.heap.size w wr) (hw : wn ≤ 200) (hk : k < wn) (py : ByteArray)
    (h : MovedT wr w' ρ mb (packetM M (dataT (base + k) py) cv).1 tv L) :
    OnceAt w base wn mb cb (i + 1) (some (bg.getD k)) w' ∧ w'.ownsRow wr.heap.size 9 1 tv L.length (L.map Value.string) ∧ wr.heap.size ≤ w'.heap.size := by
  obtain ⟨ρ', sv', wv', SB', WB', a1, a2, a3, a4⟩ := h
  obtain ⟨⟨s', sd', x', b1⟩, -⟩ := once_step h1 hw hk py cv
  have hsz := h6.size
  refine ⟨⟨_, _, s', sd', x', ρ', sv', wv', SB', WB', b1, a1, fun b hb => a2.1 b (by omega) (h3 b hb), a2.1 cb h5.lt h4, h5.chg a2.2 (fun e => e h4), h6.trans (a2.2.below hsz (fun y hy => ?_))⟩, a3, a2.2.size⟩
  rcases Nat.lt_or_ge y w.heap.size with e | e
  · exact absurd (h3 y e) hy
  · exact e
theorem replicate_bool (n j : Nat) (h : j < n) : (madeCells (Value.bool false).cells (n * 1)).toList[j]? = some (Value.bool false) := by
  rw [show (Value.bool false).cells = #[Value.bool false] from rfl, toList_madeCells_one]
  simp [h]
end Pk
open Pk

set_option maxRecDepth 20000 in
set_option maxHeartbeats 8000000 in
theorem once_walk (first window : Int) (v : Value) (l : List Int) (w : World) (hv : IsInts w.heap.size w v l) (hf : -9223372036854775808 ≤ first ∧ first ≤ 9223372036854775807) (hwn : -9223372036854775808 ≤ window ∧ window ≤ 9223372036854775807) (hl : ∀ c ∈ l, -9223372036854775808 ≤ c ∧ c ≤ 9223372036854775807) (_hn : l.length ≤ maxLen) :
    Calls Try.prog 7 #[.int .i64 first, v, .int .i64 window] w fun e w' => e = .returned (.bool true) ∧ Below w.heap.size w w' := by
  obtain ⟨ao, cap, rfl, hc⟩ := hv
  have Hl : Hid (∀ c ∈ l, -9223372036854775808 ≤ c ∧ c ≤ 9223372036854775807) := hl
  have Hc : Hid (∀ j, j < l.length → ∃ b off, ao = some ⟨b, off, none⟩ ∧ b < w.heap.size ∧ w.cell? ⟨b, off + j, none⟩ = some (.int .i64 (l.getD j 0))) := hc
  unfold maxLen at _hn
  clear hl hc
  go_enter Try.func7, Try.ntmps7
  go_wp2_with fail
  refine (pick_any _ _ _ hwn.1 hwn.2 (by omega) (by omega)).mono ?_
  rintro e w1 ⟨rfl, hw1⟩
  rw [hw1]
  clear hw1 w1
  have p0 := pickF_lo window 200 (by omega)
  have p1 := pickF_hi window 200 (by omega)
  generalize pickF window 200 = pw at *
  obtain ⟨pn, rfl⟩ := Int.eq_ofNat_of_zero_le p0
  obtain ⟨wn, hwn1⟩ : ∃ wn : Nat, 1 + (pn : Int) = (wn : Int) := ⟨1 + pn, by omega⟩
  have hwl : 1 ≤ wn ∧ wn ≤ 200 := by omega
  have hww : IntKind.i64.wrap (1 + (pn : Int)) = (wn : Int) := by rw [i64_id _ (by omega) (by omega), hwn1]
  clear p0 p1 hwn1
  go_wp2_with fail
  refine (begun_any ⟨4, wn, 0, 0, 0, 1, 1⟩ _ (decide_eq_true (by simp only; omega))).mono ?_
  rintro e w2 ⟨mb, rfl, hb2, ρ, sv, wv, SB, WB, hM, hρ⟩
  have HB2 : Hid (Below w.heap.size w w2) := hb2
  have HM : Hid (MdAt w2 ρ mb (bM ⟨4, wn, 0, 0, 0, 1, 1⟩) sv wv SB WB) := hM
  have HP : Hid (∀ b, b < w.heap.size → ρ b = 0) := hρ
  clear hb2 hM hρ
  go_wp2_with fail
  refine (known_any _).mono ?_
  rintro e w3 ⟨rfl, hb3⟩
  have HB3 : Hid (Below w.heap.size w w3) := HB2.out.trans (hb3.mono HB2.out.size)
  have HM3 : Hid (MdAt w3 ρ mb (bM ⟨4, wn, 0, 0, 0, 1, 1⟩) sv wv SB WB) := HM.out.below hb3
  have hs3 := HB3.out.size
  clear hb3 HM
  go_wp2_with fail
  refine (pick_any _ _ _ hf.1 hf.2 (by omega) (by omega)).mono ?_
  rintro e w4 ⟨rfl, hw4⟩
  rw [hw4]
  clear hw4 w4
  have q0 := pickF_lo first 65536 (by omega)
  have q1 := pickF_hi first 65536 (by omega)
  generalize pickF first 65536 = pb at *
  obtain ⟨base, rfl⟩ := Int.eq_ofNat_of_zero_le q0
  obtain ⟨i0, hi0, hiz, his, hib⟩ : ∃ i0 : TypeInfo, Try.prog.info? 4 = some i0 ∧ i0.zero = some (.bool false) ∧ i0.size = 1 ∧ i0.bytes = 1 := ⟨_, rfl, rfl, rfl, rfl⟩
  have Hi0 : Hid (Try.prog.info? 4 = some i0 ∧ i0.zero = some (.bool false) ∧ i0.size = 1 ∧ i0.bytes = 1) := ⟨hi0, hiz, his, hib⟩
  have Hb0 : Hid (i0.bytes * wn ≤ 281474976710656) := by show _ ≤ _; rw [hib]; omega
  clear hi0 hiz his hib
  go_wp2_with (at_make; refine wpList_make_full _ rfl (.tmp 35) (.tmp 35) 64 rfl w.heap.size 4 i0 (.bool false) 1 Try.underlying64 Hi0.out.1 Hi0.out.2.1 Hi0.out.2.2.1 .i64 .i64 _ _ wn rfl rfl rfl rfl Hb0.out (by unfold maxLen; omega) hs3 ?_; intro w4 hown4 hg4; refine stop_here ?_)
  refine hid_in ?_
  have HB4 : Hid (Below w.heap.size w w4) := HB3.out.trans ((Chg.ofGrown hg4).below hs3 (fun x e => by cases e))
  have HR4 : Hid (CameAt w3.heap.size wn (fun _ => false) w4) := ⟨fun j hj => (hown4.cellAt j (by omega)).trans (replicate_bool wn j hj), fun o => hown4.frozenAt o, (hown4.lt w3.heap.size rfl).2⟩
  have HM4 : Hid (MdAt w4 ρ mb (bM ⟨4, wn, 0, 0, 0, 1, 1⟩) sv wv SB WB) := HM3.out.chg (Chg.ofGrown hg4) (fun b e => by cases e)
  have HO4 : Hid (OnceAt w base wn mb w3.heap.size 0 none w4) := ⟨fun _ => false, _, _, _, _, ρ, sv, wv, SB, WB, once_begin base wn, HM4.out, HP.out, HM3.out.hi _ (Nat.le_refl _), HR4.out, HB4.out⟩
  have hs4 := hg4.size
  have HCB : Hid (w.heap.size ≤ w3.heap.size) := hs3
  clear hown4 hg4 HM3 HM4 HR4 HB4 HB3 HB2 hs3
  generalize w3.heap.size = cb at *
  go_wp2
  go_loopw [11, 13] (fun s11 s13 wr => ∃ (i : Nat) (bg : Option Nat), i ≤ l.length ∧ i ≤ 100000 ∧ s13 = .int .i64 i ∧ s11 = .int .i64 (bgI bg) ∧ OnceAt w base wn mb cb i bg wr) (fun _ s13 _ => l.length - (intOf s13).toNat)
  case atStart => exact ⟨0, none, Nat.zero_le _, by omega, rfl, rfl, HO4.out⟩
  case round =>
    obtain ⟨i, bg, hil, hi5, rfl, rfl, hO⟩ := hrel
    have HO : Hid (OnceAt w base wn mb cb i bg wr) := hO
    clear hO
    by_cases hgo : i < l.length ∧ i < 100000
    · have h1 : (i : Int) < l.length := by omega
      have h2 : (i : Int) < 100000 := by omega
      obtain ⟨b, off, rfl, hb, hcell⟩ := Hc.out i hgo.1
      obtain ⟨cm, M, s, sd, x, ρ, sv, wv, SB, WB, o1, o2, o3, o4, o5, o6⟩ := HO.out
      have d0 : wr.cell? ⟨b, off + i, none⟩ = some (.int .i64 (l.getD i 0)) := (o6.cell (p := ⟨b, off + i, none⟩) hb).trans hcell
      have Hcr : Hid (-9223372036854775808 ≤ l.getD i 0 ∧ l.getD i 0 ≤ 9223372036854775807) := getD_in Hl.out i
      have O1 : Hid (OnceSt base wn bg cm i M s sd x) := o1
      have O2 : Hid (MdAt wr ρ mb M sv wv SB WB) := o2
      have O3 : Hid (∀ b, b < w.heap.size → ρ b = 0) := o3
      have O4 : Hid (ρ cb = 0) := o4
      have O5 : Hid (CameAt cb wn cm wr) := o5
      have O6 : Hid (Below w.heap.size w wr) := o6
      clear hcell o1 o2 o3 o4 o5 o6 HO
      generalize l.getD i 0 = ci at *
      go_wp2_with fail
      refine (pick_any ci wn _ Hcr.out.1 Hcr.out.2 (by omega) (by omega)).mono ?_
      rintro e wq ⟨rfl, hwq⟩
      rw [hwq]
      clear hwq wq
      go_simp
      have r0 := pickF_lo ci wn (by omega)
      have r1 := pickF_hi ci wn (by omega)
      generalize pickF ci (wn : Int) = pk at *
      obtain ⟨k, rfl⟩ := Int.eq_ofNat_of_zero_le r0
      have hk : k < wn := by omega
      have e0 := O5.out.c k hk
      have ef := O5.out.f k
      have hbk : IntKind.i64.wrap ((base : Int) + (k : Int)) = ((base + k : Nat) : Int) := by rw [i64_id _ (by omega) (by omega)]; rfl
      have hS := O5.out.set (k := k)
      have OM : Hid (MdAt (wr.setCell ⟨cb, k, none⟩ (.bool true)) ρ mb M sv wv SB WB) := O2.out.chg ((Chg.refl (fun b => b = cb) _).setCell ⟨cb, k, none⟩ (.inl rfl) _) (fun b e => by subst e; exact O4.out)
      have OS : Hid (CameAt cb wn (updB cm k) (wr.setCell ⟨cb, k, none⟩ (.bool true))) := hS
      have OB : Hid (Below w.heap.size w (wr.setCell ⟨cb, k, none⟩ (.bool true))) := O6.out.trans ((((Chg.refl (fun b => b = cb) wr).setCell ⟨cb, k, none⟩ (.inl rfl) (.bool true))).below O6.out.size (fun y e => by subst e; exact HCB.out))
      clear hS O2 O5 O6
      cases bg with
      | none =>
        have hst := O1.out.st
        have hcm : cm k = false := hst.2.2.2.2.2.2 k
        rw [hcm] at e0
        have HPS : Hid ((none : Option Nat).getD k ≤ k ∧ cm k = false) := ⟨Nat.le_refl _, hcm⟩
        clear hst hcm
        rw [show bgI none = -1 from rfl]
        go_wp2_with fail
        refine (data_any (base + k) ⟨#[120]⟩ _ (by omega) (by unfold maxLen; decide)).mono ?_
        rintro e w5 ⟨rfl, hb5⟩
        have OM5 : Hid (MdAt w5 ρ mb M sv wv SB WB) := OM.out.below hb5
        have OS5 : Hid (CameAt cb wn (updB cm k) w5) := OS.out.chg (T := fun _ => False) (Chg.ofBelow hb5) (fun e => e)
        have OB5 : Hid (Below w.heap.size w w5) := OB.out.trans (hb5.mono OB.out.size)
        clear hb5 OM OS OB
        have Hok : Hid (MOk M) := O1.out.ok hwl.1 hwl.2 (by omega)
        have Hst : Hid (∀ cv, (packetM M (dataT (base + k) ⟨#[120]⟩) cv).2.2 = 0 ∧ (packetM M (dataT (base + k) ⟨#[120]⟩) cv).2.1 = [textOf x (dataP (base + k) ⟨#[120]⟩)]) := fun cv => by
          obtain ⟨-, a1, a2, -⟩ := once_step O1.out hwl.2 hk ⟨#[120]⟩ cv
          refine ⟨a1, a2.trans ?_⟩
          exact if_pos HPS.out
        have Hmv : Hid (∀ (w' : World) (tv cv : Value) (L : List ByteArray), MovedT w5 w' ρ mb (packetM M (dataT (base + k) ⟨#[120]⟩) cv).1 tv L → OnceAt w base wn mb cb (i + 1) (some k) w' ∧ w'.ownsRow w5.heap.size 9 1 tv L.length (L.map Value.string) ∧ w5.heap.size ≤ w'.heap.size) := fun w' tv cv L h => OnceAt.step O1.out O3.out O4.out OS5.out OB5.out hwl.2 hk ⟨#[120]⟩ h
        have hds := (dataT_read (base + k) ⟨#[120]⟩).2
        have Hnum : Hid (numOf x ((base + k) % 65536) = (65530 + k - k) % 65536) := (once_step O1.out hwl.2 hk ⟨#[120]⟩ (.bool true)).2.2.2 HPS.out.1
        obtain ⟨htr, hts⟩ := textOf_read x (base + k) ⟨#[120]⟩ (by rw [O1.out.pl]; decide) (by rw [O1.out.src]; decide)
        rw [Hnum.out, O1.out.pl, O1.out.src] at htr
        have Htr : Hid (readP (textOf x (dataP (base + k) ⟨#[120]⟩)) = some ⟨false, false, 100, (((65530 + k - k) % 65536 : Nat) : Int), 5, 7, 0, 0, [], ⟨#[]⟩, ⟨#[120]⟩⟩) := htr
        generalize textOf x (dataP (base + k) ⟨#[120]⟩) = tx at *
        clear htr Hnum
        rw [show (65530 + k - k) % 65536 = 65530 by omega] at Htr
        generalize dataT (base + k) ⟨#[120]⟩ = dt at *
        go_wp2_with fail
        refine (packet_any ρ mb M sv wv SB WB dt _ OM5.out Hok.out (by unfold maxLen; omega)).mono ?_
        rintro e w6 ⟨cv, tv, rfl, hmv⟩
        obtain ⟨a1, a2⟩ := Hst.out cv
        obtain ⟨hO6, hrow, hs6⟩ := Hmv.out w6 tv cv _ hmv
        rw [a2] at hrow
        rw [a1]
        have HO6 : Hid (OnceAt w base wn mb cb (i + 1) (some k) w6) := hO6
        clear hmv a1 a2 hO6 Hst Hmv
        obtain ⟨g, cap, rfl, hcell, hg⟩ := row_one hrow
        clear hrow
        go_wp2_with fail
        refine (parsePacket_any tx _ (by unfold maxLen; omega)).mono ?_
        rintro e w7 ⟨hb7, hr7⟩
        rw [Htr.out] at hr7
        obtain ⟨v7, he7, hown7⟩ := hr7
        obtain ⟨a7, c7, hv7⟩ := hown7.shape
        subst hv7
        simp only [okV] at he7
        subst he7
        have HO7 : Hid (OnceAt w base wn mb cb (i + 1) (some k) w7) := HO6.out.below hb7
        clear hb7 hown7 hcell HO6
        go_wp2
        go_roundw
        case rel => exact ⟨i + 1, some k, by omega, by omega, by go_num, rfl, HO7.out.below ((Below.refl _ _).alloc (Nat.le_refl _) _)⟩
        case measure => simp [intOf]; omega
      | some b0 =>
        rw [show bgI (some b0) = (b0 : Int) from rfl]
        have hbn : ¬ (b0 : Int) < 0 := by omega
        by_cases hkb : b0 ≤ k
        · have hkb' : (b0 : Int) ≤ (k : Int) := by omega
          cases hcm : cm k with
          | false =>
            rw [hcm] at e0
            have HPS : Hid ((some b0).getD k ≤ k ∧ cm k = false) := ⟨hkb, hcm⟩
            clear hcm
            go_wp2_with fail
            refine (data_any (base + k) ⟨#[120]⟩ _ (by omega) (by unfold maxLen; decide)).mono ?_
            rintro e w5 ⟨rfl, hb5⟩
            have OM5 : Hid (MdAt w5 ρ mb M sv wv SB WB) := OM.out.below hb5
            have OS5 : Hid (CameAt cb wn (updB cm k) w5) := OS.out.chg (T := fun _ => False) (Chg.ofBelow hb5) (fun e => e)
            have OB5 : Hid (Below w.heap.size w w5) := OB.out.trans (hb5.mono OB.out.size)
            clear hb5 OM OS OB
            have Hok : Hid (MOk M) := O1.out.ok hwl.1 hwl.2 (by omega)
            have Hst : Hid (∀ cv, (packetM M (dataT (base + k) ⟨#[120]⟩) cv).2.2 = 0 ∧ (packetM M (dataT (base + k) ⟨#[120]⟩) cv).2.1 = [textOf x (dataP (base + k) ⟨#[120]⟩)]) := fun cv => by
              obtain ⟨-, a1, a2, -⟩ := once_step O1.out hwl.2 hk ⟨#[120]⟩ cv
              refine ⟨a1, a2.trans ?_⟩
              exact if_pos HPS.out
            have Hmv : Hid (∀ (w' : World) (tv cv : Value) (L : List ByteArray), MovedT w5 w' ρ mb (packetM M (dataT (base + k) ⟨#[120]⟩) cv).1 tv L → OnceAt w base wn mb cb (i + 1) (some b0) w' ∧ w'.ownsRow w5.heap.size 9 1 tv L.length (L.map Value.string) ∧ w5.heap.size ≤ w'.heap.size) := fun w' tv cv L h => OnceAt.step O1.out O3.out O4.out OS5.out OB5.out hwl.2 hk ⟨#[120]⟩ h
            have hds := (dataT_read (base + k) ⟨#[120]⟩).2
            have Hnum : Hid (numOf x ((base + k) % 65536) = (65530 + k - b0) % 65536) := (once_step O1.out hwl.2 hk ⟨#[120]⟩ (.bool true)).2.2.2 HPS.out.1
            obtain ⟨htr, hts⟩ := textOf_read x (base + k) ⟨#[120]⟩ (by rw [O1.out.pl]; decide) (by rw [O1.out.src]; decide)
            rw [Hnum.out, O1.out.pl, O1.out.src] at htr
            have Htr : Hid (readP (textOf x (dataP (base + k) ⟨#[120]⟩)) = some ⟨false, false, 100, (((65530 + k - b0) % 65536 : Nat) : Int), 5, 7, 0, 0, [], ⟨#[]⟩, ⟨#[120]⟩⟩) := htr
            generalize textOf x (dataP (base + k) ⟨#[120]⟩) = tx at *
            clear htr Hnum
            obtain ⟨nq, hnq⟩ : ∃ nq : Nat, (65530 + k - b0) % 65536 = nq := ⟨_, rfl⟩
            rw [hnq] at Htr
            have hm1 : (65530 + (k : Int) - (b0 : Int)).tmod 65536 = (nq : Int) := by rw [Int.tmod_eq_emod_of_nonneg (by omega)]; omega
            have hm2 : (65530 + (k : Int) - (b0 : Int)) % 65536 = (nq : Int) := by omega
            clear hnq
            generalize dataT (base + k) ⟨#[120]⟩ = dt at *
            go_wp2_with fail
            refine (packet_any ρ mb M sv wv SB WB dt _ OM5.out Hok.out (by unfold maxLen; omega)).mono ?_
            rintro e w6 ⟨cv, tv, rfl, hmv⟩
            obtain ⟨a1, a2⟩ := Hst.out cv
            obtain ⟨hO6, hrow, hs6⟩ := Hmv.out w6 tv cv _ hmv
            rw [a2] at hrow
            rw [a1]
            have HO6 : Hid (OnceAt w base wn mb cb (i + 1) (some b0) w6) := hO6
            clear hmv a1 a2 hO6 Hst Hmv
            obtain ⟨g, cap, rfl, hcell, hg⟩ := row_one hrow
            clear hrow
            go_wp2_with fail
            refine (parsePacket_any tx _ (by unfold maxLen; omega)).mono ?_
            rintro e w7 ⟨hb7, hr7⟩
            rw [Htr.out] at hr7
            obtain ⟨v7, he7, hown7⟩ := hr7
            obtain ⟨a7, c7, hv7⟩ := hown7.shape
            subst hv7
            simp only [okV] at he7
            subst he7
            have HO7 : Hid (OnceAt w base wn mb cb (i + 1) (some b0) w7) := HO6.out.below hb7
            clear hb7 hown7 hcell HO6
            go_wp2
            go_roundw
            case rel => exact ⟨i + 1, some b0, by omega, by omega, by go_num, rfl, HO7.out.below ((Below.refl _ _).alloc (Nat.le_refl _) _)⟩
            case measure => simp [intOf]; omega
          | true =>
            rw [hcm] at e0
            have HPS : Hid (¬ ((some b0).getD k ≤ k ∧ cm k = false)) := fun h => by rw [hcm] at h; exact absurd h.2 (by decide)
            clear hcm
            go_wp2_with fail
            refine (data_any (base + k) ⟨#[120]⟩ _ (by omega) (by unfold maxLen; decide)).mono ?_
            rintro e w5 ⟨rfl, hb5⟩
            have OM5 : Hid (MdAt w5 ρ mb M sv wv SB WB) := OM.out.below hb5
            have OS5 : Hid (CameAt cb wn (updB cm k) w5) := OS.out.chg (T := fun _ => False) (Chg.ofBelow hb5) (fun e => e)
            have OB5 : Hid (Below w.heap.size w w5) := OB.out.trans (hb5.mono OB.out.size)
            clear hb5 OM OS OB
            have Hok : Hid (MOk M) := O1.out.ok hwl.1 hwl.2 (by omega)
            have Hst : Hid (∀ cv, (packetM M (dataT (base + k) ⟨#[120]⟩) cv).2.2 = 0 ∧ (packetM M (dataT (base + k) ⟨#[120]⟩) cv).2.1 = []) := fun cv => by
              obtain ⟨-, a1, a2, -⟩ := once_step O1.out hwl.2 hk ⟨#[120]⟩ cv
              refine ⟨a1, a2.trans ?_⟩
              exact if_neg HPS.out
            have Hmv : Hid (∀ (w' : World) (tv cv : Value) (L : List ByteArray), MovedT w5 w' ρ mb (packetM M (dataT (base + k) ⟨#[120]⟩) cv).1 tv L → OnceAt w base wn mb cb (i + 1) (some b0) w' ∧ w'.ownsRow w5.heap.size 9 1 tv L.length (L.map Value.string) ∧ w5.heap.size ≤ w'.heap.size) := fun w' tv cv L h => OnceAt.step O1.out O3.out O4.out OS5.out OB5.out hwl.2 hk ⟨#[120]⟩ h
            have hds := (dataT_read (base + k) ⟨#[120]⟩).2
            generalize dataT (base + k) ⟨#[120]⟩ = dt at *
            go_wp2_with fail
            refine (packet_any ρ mb M sv wv SB WB dt _ OM5.out Hok.out (by unfold maxLen; omega)).mono ?_
            rintro e w6 ⟨cv, tv, rfl, hmv⟩
            obtain ⟨a1, a2⟩ := Hst.out cv
            obtain ⟨hO6, hrow, hs6⟩ := Hmv.out w6 tv cv _ hmv
            rw [a2] at hrow
            rw [a1]
            have HO6 : Hid (OnceAt w base wn mb cb (i + 1) (some b0) w6) := hO6
            clear hmv a1 a2 hO6 Hst Hmv
            obtain ⟨a6, c6, rfl⟩ := row_none hrow
            clear hrow
            go_wp2
            go_roundw
            case rel => exact ⟨i + 1, some b0, by omega, by omega, by go_num, rfl, HO6.out⟩
            case measure => simp [intOf]; omega
        · have hkb' : ¬ (b0 : Int) ≤ (k : Int) := by omega
          have HPS : Hid (¬ ((some b0).getD k ≤ k ∧ cm k = false)) := fun h => hkb h.1
          go_wp2_with fail
          refine (data_any (base + k) ⟨#[120]⟩ _ (by omega) (by unfold maxLen; decide)).mono ?_
          rintro e w5 ⟨rfl, hb5⟩
          have OM5 : Hid (MdAt w5 ρ mb M sv wv SB WB) := OM.out.below hb5
          have OS5 : Hid (CameAt cb wn (updB cm k) w5) := OS.out.chg (T := fun _ => False) (Chg.ofBelow hb5) (fun e => e)
          have OB5 : Hid (Below w.heap.size w w5) := OB.out.trans (hb5.mono OB.out.size)
          clear hb5 OM OS OB
          have Hok : Hid (MOk M) := O1.out.ok hwl.1 hwl.2 (by omega)
          have Hst : Hid (∀ cv, (packetM M (dataT (base + k) ⟨#[120]⟩) cv).2.2 = 0 ∧ (packetM M (dataT (base + k) ⟨#[120]⟩) cv).2.1 = []) := fun cv => by
            obtain ⟨-, a1, a2, -⟩ := once_step O1.out hwl.2 hk ⟨#[120]⟩ cv
            refine ⟨a1, a2.trans ?_⟩
            exact if_neg HPS.out
          have Hmv : Hid (∀ (w' : World) (tv cv : Value) (L : List ByteArray), MovedT w5 w' ρ mb (packetM M (dataT (base + k) ⟨#[120]⟩) cv).1 tv L → OnceAt w base wn mb cb (i + 1) (some b0) w' ∧ w'.ownsRow w5.heap.size 9 1 tv L.length (L.map Value.string) ∧ w5.heap.size ≤ w'.heap.size) := fun w' tv cv L h => OnceAt.step O1.out O3.out O4.out OS5.out OB5.out hwl.2 hk ⟨#[120]⟩ h
          have hds := (dataT_read (base + k) ⟨#[120]⟩).2
          generalize dataT (base + k) ⟨#[120]⟩ = dt at *
          go_wp2_with fail
          refine (packet_any ρ mb M sv wv SB WB dt _ OM5.out Hok.out (by unfold maxLen; omega)).mono ?_
          rintro e w6 ⟨cv, tv, rfl, hmv⟩
          obtain ⟨a1, a2⟩ := Hst.out cv
          obtain ⟨hO6, hrow, hs6⟩ := Hmv.out w6 tv cv _ hmv
          rw [a2] at hrow
          rw [a1]
          have HO6 : Hid (OnceAt w base wn mb cb (i + 1) (some b0) w6) := hO6
          clear hmv a1 a2 hO6 Hst Hmv
          obtain ⟨a6, c6, rfl⟩ := row_none hrow
          clear hrow
          go_wp2
          go_roundw
          case rel => exact ⟨i + 1, some b0, by omega, by omega, by go_num, rfl, HO6.out⟩
          case measure => simp [intOf]; omega
    · by_cases h1 : (i : Int) < l.length
      · have h2 : ¬ (i : Int) < 100000 := by omega
        obtain ⟨_, _, _, _, _, _, _, _, _, _, _, _, _, _, _, o6⟩ := HO.out
        have O6 : Hid (Below w.heap.size w wr) := o6
        clear o6
        go_wp2
        go_ret
        exact ⟨rfl, O6.out⟩
      · obtain ⟨_, _, _, _, _, _, _, _, _, _, _, _, _, _, _, o6⟩ := HO.out
        have O6 : Hid (Below w.heap.size w wr) := o6
        clear o6
        go_wp2
        go_ret
        exact ⟨rfl, O6.out⟩

end Go.Proofs.Ytdjhhnolcafkiaa
