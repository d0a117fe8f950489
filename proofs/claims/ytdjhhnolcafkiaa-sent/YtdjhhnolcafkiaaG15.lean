/- Sent: what is kept, against what went last; the bytes against the tokens. -/
import Derived.Test.YtdjhhnolcafkiaaG14
import Derived.Test.YtdjhhnolcafkiaaRows
import Derived.ProofKit
import Derived.OpenShut
import Derived.ShutString
import Derived.ChangeOld
import Derived.Below
import Derived.Test.YtdjhhnolcafkiaaG01
import Derived.JoinedCond
import Derived.Deep.Slices
namespace Go.Proofs.Ytdjhhnolcafkiaa
open Go.RowKit
namespace Pk
def hashB : ByteArray := ⟨#[35]⟩
def updS (f : Nat → ByteArray) (k : Nat) (v : ByteArray) : Nat → ByteArray := fun j => if j = k then v else f j
structure SentSt (c : Cfg) (x : Wn) (s : Stt) (last : Nat → ByteArray) (bytes time : Int) : Prop where
  kp : ∀ k ∈ x.kept, last k.n = hashB ++ k.x.py
  by_ : 0 ≤ bytes ∧ bytes + s.tokens ≤ c.burst + c.rate * time
  now : s.now = time
theorem told_read2 (ty nu so : Int) (py : ByteArray) (h1 : 0 ≤ ty ∧ ty ≤ 127) (h2 : 0 ≤ nu ∧ nu ≤ 65535) (h3 : 0 ≤ so ∧ so ≤ 4294967295) (hp : py.size ≤ 200) :
    readP (tellR false false ty nu 5 so 0 0 [] ⟨#[]⟩ py).1 = some ⟨false, false, ty, nu, 5, so, 0, 0, [], ⟨#[]⟩, py⟩ ∧ (tellR false false ty nu 5 so 0 0 [] ⟨#[]⟩ py).1.size ≤ 1500 := by
  have hok : tellOk false ty nu 5 so 0 0 [] ⟨#[]⟩ = true := by
    have hh : headOk ty nu 5 so [] = true := by
      simp only [headOk, allIn, Bool.and_eq_true, decide_eq_true_eq]
      exact ⟨⟨⟨⟨⟨h1, h2⟩, by omega⟩, h3⟩, by simp⟩, by simp⟩
    unfold tellOk
    rw [hh]
    rfl
  have hl : plen false [] ⟨#[]⟩ py 0 ≤ 1500 := by
    unfold plen
    simp
    omega
  have hs := tellB_length false false ty nu 5 so 0 0 [] ⟨#[]⟩ py (by omega)
  unfold tellR
  rw [if_pos hok, if_neg (by omega)]
  refine ⟨read_of_told false false ty nu 5 so 0 0 [] ⟨#[]⟩ py hok hl, ?_⟩
  rw [Lib.size_eq]
  simp only
  omega
theorem numB_size (n : Nat) : (numB n).size = 2 := rfl
theorem numB_data (n : Nat) (py : ByteArray) : (numB n ++ py).data.toList = UInt8.ofNat (n / 256 % 256) :: UInt8.ofNat (n % 256) :: py.data.toList := by
  rw [ByteArray.data_append, Array.toList_append]
  rfl
theorem numB_tail (n : Nat) (py : ByteArray) : (numB n ++ py).extract 2 (2 + py.size) = py := by
  apply ByteArray.ext
  apply Array.toList_inj.1
  rw [Lib.extract_data, numB_data, List.drop_succ_cons, List.drop_succ_cons, List.drop_zero]
  rw [show 2 + py.size - 2 = py.data.toList.length by rw [← Lib.size_eq]; omega, List.take_length]
theorem at_getElem (s : ByteArray) (i : Nat) (h : i < s.size) : s.data.toList[i]? = some (s[i]'h) := by
  rw [Array.getElem?_toList]
  exact Array.getElem?_eq_getElem (show i < s.data.size from h)
theorem numB_get0 (n : Nat) (py : ByteArray) (hn : n < 65536) (h : 0 < (numB n ++ py).size) : ((numB n ++ py)[0]'h).toNat = n / 256 := by
  have h1 : (numB n ++ py).data.toList[0]? = some (UInt8.ofNat (n / 256 % 256)) := by rw [numB_data]; rfl
  have h2 : (numB n ++ py).data.toList[0]? = some ((numB n ++ py)[0]'h) := at_getElem _ _ h
  rw [h2, Option.some.injEq] at h1
  rw [h1, UInt8.toNat_ofNat']
  omega
theorem numB_get1 (n : Nat) (py : ByteArray) (h : 1 < (numB n ++ py).size) : ((numB n ++ py)[1]'h).toNat = n % 256 := by
  have h1 : (numB n ++ py).data.toList[1]? = some (UInt8.ofNat (n % 256)) := by rw [numB_data]; rfl
  have h2 : (numB n ++ py).data.toList[1]? = some ((numB n ++ py)[1]'h) := at_getElem _ _ h
  rw [h2, Option.some.injEq] at h1
  rw [h1, UInt8.toNat_ofNat']
  omega
theorem keepsF_ne {x : Wn} {p : PP} {cv : Value} {ring : Nat} {k : Kp} (hnd : (x.kept.map Kp.n).Nodup) (h : k ∈ keepsF x p cv ring) : (k ∈ x.kept ∧ k.n ≠ numOf x p.nu.toNat) ∨ k = ⟨numOf x p.nu.toNat, passP x p, cv, 0⟩ := by
  have h1 : k ∈ rmF Kp.n (numOf x p.nu.toNat) x.kept ++ [(⟨numOf x p.nu.toNat, passP x p, cv, 0⟩ : Kp)] := by
    unfold keepsF at h
    split at h
    · exact List.mem_of_mem_drop h
    · exact h
  rcases List.mem_append.1 h1 with h2 | h2
  · refine .inl ⟨rmF_mem h2, ?_⟩
    have h3 : k.n ∈ (rmF Kp.n (numOf x p.nu.toNat) x.kept).map Kp.n := List.mem_map.2 ⟨k, h2, rfl⟩
    rw [rmF_names] at h3
    exact ((hnd.mem_erase_iff).1 h3).1
  · exact .inr (by simpa using h2)
section
variable {c : Cfg} {base i : Nat} {bg : Option (Nat × Nat × List Og)} {M : Md} {s : Stt} {sd : Sd} {x : Wn} {last : Nat → ByteArray} {bytes time : Int}
theorem SentSt.pass (h : SentSt c x s last bytes time) (hL : LiveM c base i bg M s sd x) (n : Nat) (py : ByteArray) (cv : Value) (f g : Nat) :
    SentSt c (passW x (dataP n py) cv c.ring.toNat) (pktS s f g) (updS last (numOf x (n % 65536)) (hashB ++ cutF py 100)) bytes time := by
  refine ⟨fun k hk => ?_, by rw [(pktS_now s f g).2]; exact h.by_, by rw [(pktS_now s f g).1]; exact h.now⟩
  have hnu : (dataP n py).nu.toNat = n % 65536 := by unfold dataP; simp only; omega
  rcases keepsF_ne hL.w.nd hk with ⟨h1, h2⟩ | rfl
  · rw [hnu] at h2
    unfold updS
    rw [if_neg h2]
    exact h.kp k h1
  · unfold updS
    simp only
    rw [hnu, if_pos rfl]
    rfl
theorem SentSt.stay (h : SentSt c x s last bytes time) (f g : Nat) : SentSt c x (pktS s f g) last bytes time :=
  ⟨h.kp, by rw [(pktS_now s f g).2]; exact h.by_, by rw [(pktS_now s f g).1]; exact h.now⟩
theorem SentSt.refused (h : SentSt c x s last bytes time) : SentSt c x (repS s none) last bytes time := ⟨h.kp, h.by_, h.now⟩
theorem SentSt.tick (h : SentSt c x s last bytes time) (t : Int) (a g : Nat) : SentSt c x (tickS c s t a g) last bytes (time + t) := by
  refine ⟨h.kp, ⟨h.by_.1, ?_⟩, by show s.now + t = _; rw [h.now]⟩
  have h1 := h.by_.2
  show bytes + min (s.tokens + c.rate * t) c.burst ≤ _
  rw [Int.mul_add]
  omega
theorem SentSt.bound (h : SentSt c x s last bytes time) (hL : LiveM c base i bg M s sd x) (hi : i ≤ 1000000) : 0 ≤ c.rate * time ∧ c.rate * time ≤ 4000000000000 ∧ 0 ≤ bytes ∧ bytes ≤ c.burst + c.rate * time ∧ bytes ≤ 5000000000000 ∧ (0 ≤ c.burst ∧ c.burst ≤ 1000000) ∧ 0 ≤ time ∧ time ≤ 40000000 := by
  have hcf := of_decide_eq_true hL.cfg
  have hn := hL.now
  rw [h.now] at hn
  have h1 : 0 ≤ c.rate * time := Int.mul_nonneg hcf.2.2.2.1.1 hn.1
  have h2 : c.rate * time ≤ 100000 * 40000000 := Int.mul_le_mul hcf.2.2.2.1.2 (by omega) hn.1 (by omega)
  have h3 := h.by_
  have h4 := hL.tok
  omega
/-- what is sent again, as it is read -/
theorem SentSt.again (h : SentSt c x s last bytes time) (hL : LiveM c base i bg M s sd x) (n : Nat) {t : ByteArray} (ht : (againF x n s.now c.delay s.tokens).2 = some t) :
    ∃ (kn : Nat) (py : ByteArray), kn < 65536 ∧ py.size ≤ 100 ∧ readP t = some ⟨false, false, 101, (x.second : Int), 5, 8, 0, 0, [], ⟨#[]⟩, numB kn ++ py⟩ ∧ t.size ≤ 1500 ∧ last kn = hashB ++ py ∧ (againF x n s.now c.delay s.tokens).1.second = (x.second + 1) % 65536 ∧ SentSt c (againF x n s.now c.delay s.tokens).1 (repS s (some t)) last (bytes + t.size) time := by
  have hw := hL.w
  have hsec := hw.sec
  rcases posF_cases n (x.kept.map Kp.n) with ⟨hp, -⟩ | ⟨p, hpl, hp, -, -⟩
  · rw [again_none hp] at ht
    cases ht
  · rw [List.length_map] at hpl
    rw [again_at hp (List.getElem?_eq_getElem hpl)] at ht ⊢
    split at ht
    · cases ht
    · rename_i h1
      split at ht
      · cases ht
      · rename_i h2
        rw [if_neg h1, if_neg h2]
        have hmem : x.kept[p] ∈ x.kept := List.getElem_mem hpl
        obtain ⟨k1, py, k2, k3⟩ := hw.kp x.kept[p] hmem
        have hlast := h.kp x.kept[p] hmem
        have hr : againR x x.kept[p] = tellR false false 101 (x.second : Int) 5 8 0 0 [] ⟨#[]⟩ (numB x.kept[p].n ++ py) := by
          unfold againR
          rw [k3, hw.pl]
          rfl
        have hrd := told_read2 101 (x.second : Int) 8 (numB x.kept[p].n ++ py) (by omega) (by omega) (by omega) (by rw [ByteArray.size_append, numB_size]; omega)
        have ht2 : (againR x x.kept[p]).1 = t := by simpa using ht
        rw [hr] at ht2
        rw [ht2] at hrd
        refine ⟨x.kept[p].n, py, k1, k2, hrd.1, hrd.2, by rw [hlast, k3]; rfl, rfl, ⟨fun q hq => ?_, ?_, h.now⟩⟩
        · rcases List.mem_or_eq_of_mem_set hq with hq | rfl
          · exact h.kp q hq
          · exact hlast
        · have := h.by_
          show _ ∧ bytes + (t.size : Int) + (s.tokens - (t.size : Int)) ≤ _
          omega
end
theorem sent_begin (c : Cfg) : SentSt c (newW 1 3 plan0 65534) ⟨0, c.burst, 0, 0, 0, 0, 0, 0, 0, 0, 0⟩ (fun _ => ⟨#[]⟩) 0 0 :=
  ⟨fun k hk => by simp [newW] at hk, by simp, rfl⟩
end Pk
end Go.Proofs.Ytdjhhnolcafkiaa

/- menderkeep.Sent returns true. -/
namespace Go.Proofs.Ytdjhhnolcafkiaa
open Go.RowKit
open Pk
namespace Pk
/-- the row of the law -/
structure SRow (lb xb : Nat) (c : Cfg) (last : Nat → ByteArray) (W : World) : Prop where
  r : RowAt lb 65536 (fun k => .string (last k)) W
  x3 : W.cell? ⟨xb, 3, none⟩ = some (.int .i64 c.rate)
  x4 : W.cell? ⟨xb, 4, none⟩ = some (.int .i64 c.burst)
theorem SRow.chg {T : Nat → Prop} {lb xb : Nat} {c : Cfg} {last : Nat → ByteArray} {W W' : World} (h : SRow lb xb c last W) (hc : Chg T W W') (h1 : ¬ T lb) (h2 : ¬ T xb) : SRow lb xb c last W' :=
  ⟨h.r.chg hc h1, hc.cell h.x3 h2, hc.cell h.x4 h2⟩
theorem SRow.set {lb xb k : Nat} {c : Cfg} {last : Nat → ByteArray} {W : World} (h : SRow lb xb c last W) (hd : xb ≠ lb) (v : ByteArray) : SRow lb xb c (updS last k v) (W.setCell ⟨lb, k, none⟩ (.string v)) := by
  have hc1 : Chg (fun y => y = lb) W (W.setCell ⟨lb, k, none⟩ (.string v)) := (Chg.refl (fun y => y = lb) _).setCell ⟨lb, k, none⟩ (.inl rfl) _
  refine ⟨(h.r.set (k := k) (.string v)).eq (fun q hq => ?_), hc1.cell h.x3 (fun e => hd e), hc1.cell h.x4 (fun e => hd e)⟩
  unfold updV updS
  split <;> rfl
def SentAt (w : World) (c : Cfg) (mb lb xb i second : Nat) (bytes time : Int) (wr : World) : Prop :=
  ∃ bg last M s sd x ρ, WMen w c 70 mb lb lb lb xb i bg M s sd x ρ wr ∧ SentSt c x s last bytes time ∧ x.second = second ∧ SRow lb xb c last wr
end Pk

set_option maxRecDepth 20000 in
set_option maxHeartbeats 8000000 in
theorem sent_walk (cv : Value) (cl : List Int) (sv0 : Value) (l : List StepR) (w : World) (hv : IsInts w.heap.size w cv cl) (hin : ∀ c ∈ cl, -9223372036854775808 ≤ c ∧ c ≤ 9223372036854775807) (hcl : cl.length ≤ maxLen) (hs : IsSteps w.heap.size w sv0 l) (hl : ∀ r ∈ l, StOk r) (_hll : l.length ≤ maxLen) :
    Calls Try.prog 9 #[cv, sv0] w fun e w' => e = .returned (.bool true) ∧ Below w.heap.size w w' := by
  have Hv : Hid (IsInts w.heap.size w cv cl) := hv
  obtain ⟨ai, ci, rfl, _⟩ := hv
  obtain ⟨ao, cap, rfl, hc⟩ := hs
  have Hl : Hid (∀ r ∈ l, StOk r) := hl
  have Hc : Hid (∀ (j : Nat) (r : StepR), l[j]? = some r → ∃ b off, ao = some ⟨b, off, none⟩ ∧ b < w.heap.size ∧ w.cell? ⟨b, off + j * 3, none⟩ = some (.int .i64 r.what) ∧ w.cell? ⟨b, off + j * 3 + 1, none⟩ = some (.int .i64 r.n) ∧ w.cell? ⟨b, off + j * 3 + 2, none⟩ = some (.string r.py)) := hc
  unfold maxLen at _hll
  clear hl hc
  go_enter Try.func9, Try.ntmps9
  go_wp2_with fail
  refine (config_any _ cl w Hv.out hin hcl).mono ?_
  rintro e w1 ⟨rfl, hb1⟩
  have HB1 : Hid (Below w.heap.size w w1) := hb1
  have hs1 := hb1.size
  have Hcf : Hid (cfgOk (cfgF cl) = true) := cfgF_ok cl
  clear hb1 hin hcl Hv
  generalize cfgF cl = c at *
  go_wp2_with fail
  refine (begun_any c _ Hcf.out).mono ?_
  rintro e w2 ⟨mb, rfl, hb2, ρ, sv, wv, SB, WB, hM, hρ⟩
  have hxb : w1.heap.size < w2.heap.size := by have := hb2.size; simp at this; omega
  have HB2 : Hid (Below w.heap.size w w2) := (HB1.out.alloc hs1 _).trans (hb2.mono (by simp; omega))
  have HX2 : Hid (w2.cell? ⟨w1.heap.size, 3, none⟩ = some (.int .i64 c.rate) ∧ w2.cell? ⟨w1.heap.size, 4, none⟩ = some (.int .i64 c.burst)) := ⟨(hb2.cell (p := ⟨w1.heap.size, 3, none⟩) (by simp)).trans (cell_new _ _ _ 3), (hb2.cell (p := ⟨w1.heap.size, 4, none⟩) (by simp)).trans (cell_new _ _ _ 4)⟩
  have HM : Hid (MdAt w2 ρ mb (bM c) sv wv SB WB) := hM
  have HP : Hid (∀ b, b < w1.heap.size + 1 → ρ b = 0) := fun b hb => hρ b (by simp; omega)
  clear hb2 hM hρ
  go_wp2_with fail
  refine (known_any _).mono ?_
  rintro e w3 ⟨rfl, hb3⟩
  have HB3 : Hid (Below w.heap.size w w3) := HB2.out.trans (hb3.mono HB2.out.size)
  have HM3 : Hid (MdAt w3 ρ mb (bM c) sv wv SB WB) := HM.out.below hb3
  have HX3 : Hid (w3.cell? ⟨w1.heap.size, 3, none⟩ = some (.int .i64 c.rate) ∧ w3.cell? ⟨w1.heap.size, 4, none⟩ = some (.int .i64 c.burst)) := ⟨(hb3.cell (p := ⟨w1.heap.size, 3, none⟩) hxb).trans HX2.out.1, (hb3.cell (p := ⟨w1.heap.size, 4, none⟩) hxb).trans HX2.out.2⟩
  have hs3 : w1.heap.size < w3.heap.size := Nat.lt_of_lt_of_le hxb hb3.size
  clear hb3 HM HX2 HB1 HB2
  obtain ⟨i0, hi0, hiz, his, hib⟩ : ∃ i0 : TypeInfo, Try.prog.info? 9 = some i0 ∧ i0.zero = some (.string ⟨#[]⟩) ∧ i0.size = 1 ∧ i0.bytes = 16 := ⟨_, rfl, rfl, rfl, rfl⟩
  have Hi0 : Hid (Try.prog.info? 9 = some i0 ∧ i0.zero = some (.string ⟨#[]⟩) ∧ i0.size = 1 ∧ i0.bytes * 65536 ≤ 281474976710656) := ⟨hi0, hiz, his, by rw [hib]; omega⟩
  clear hi0 hiz his hib
  go_wp2_with (at_make; refine wpList_make_full _ rfl (.const (.int .i64 65536)) (.const (.int .i64 65536)) 22 rfl w3.heap.size 9 i0 (.string ⟨#[]⟩) 1 Try.underlying22 Hi0.out.1 Hi0.out.2.1 Hi0.out.2.2.1 .i64 .i64 _ _ 65536 rfl rfl rfl rfl Hi0.out.2.2.2 (by unfold maxLen; omega) (Nat.le_refl _) ?_; intro w4 hown4 hg4; refine stop_here ?_)
  refine hid_in ?_
  have HC4 : Hid (RowAt w3.heap.size 65536 (fun _ => .string ⟨#[]⟩) w4) := RowAt.made rfl hown4
  have HG : Hid (Chg (fun _ => False) w3 w4) := (Chg.ofGrown hg4).mono (fun x _ e => by cases e)
  clear hown4 hg4
  have HW0 : Hid (SentAt w c mb w3.heap.size w1.heap.size 0 65534 0 0 w4) := by
    refine ⟨none, fun _ => ⟨#[]⟩, _, _, _, _, ρ, ⟨live_begin c 70 Hcf.out, ⟨sv, wv, SB, WB, HM3.out.chg HG.out (fun _ e => e.elim)⟩, fun b hb => HP.out b (by omega), HM3.out.hi _ (Nat.le_refl _), HM3.out.hi _ (Nat.le_refl _), HM3.out.hi _ (Nat.le_refl _), HP.out _ (by omega), HB3.out.trans (HG.out.below HB3.out.size (fun _ e => e.elim))⟩, sent_begin c, rfl, ⟨HC4.out, HG.out.cell HX3.out.1 (fun e => e), HG.out.cell HX3.out.2 (fun e => e)⟩⟩
  have hd4 : w1.heap.size ≠ w3.heap.size := by omega
  have hh1 : w.heap.size ≤ w3.heap.size := by omega
  clear HC4 HG HM3 HX3 HB3 hs3 hxb hs1
  generalize w3.heap.size = lb at *
  generalize w1.heap.size = xb at *
  go_wp2
  go_loopw [9, 10, 11, 12] (fun s9 s10 s11 s12 wr => ∃ (i second : Nat) (time bytes : Int), i ≤ l.length ∧ i ≤ 100000 ∧ s12 = .int .i64 i ∧ s9 = .int .i64 time ∧ s10 = .int .i64 bytes ∧ s11 = .int .i64 second ∧ SentAt w c mb lb xb i second bytes time wr) (fun _ _ _ s12 _ => l.length - (intOf s12).toNat)
  case atStart => exact ⟨0, 65534, 0, 0, Nat.zero_le _, by omega, rfl, rfl, rfl, rfl, HW0.out⟩
  case round =>
    obtain ⟨i, second, time, bytes, hil, hi5, rfl, rfl, rfl, rfl, hO⟩ := hrel
    have HO : Hid (SentAt w c mb lb xb i second bytes time wr) := hO
    clear hO HW0
    by_cases hgo : i < l.length ∧ i < 100000
    · have h1 : (i : Int) < l.length := by omega
      have h2 : (i : Int) < 100000 := by omega
      have hri : l[i]? = some l[i] := List.getElem?_eq_getElem hgo.1
      obtain ⟨r, hr⟩ : ∃ r, l[i] = r := ⟨_, rfl⟩
      rw [hr] at hri
      have hrO := Hl.out r (List.mem_of_getElem? hri)
      obtain ⟨b, off, rfl, hb, hc0, hc1, hc2⟩ := Hc.out i r hri
      obtain ⟨bg, last, M, s, sd, x, ρ, o1, o3, o2, o4⟩ := HO.out
      obtain ⟨what, n, py⟩ := r
      simp only at hc0 hc1 hc2
      have d0 : wr.cell? ⟨b, off + i * 3, none⟩ = some (.int .i64 what) := (o1.bel.cell (p := ⟨b, off + i * 3, none⟩) hb).trans hc0
      have d1 : wr.cell? ⟨b, off + i * 3 + 1, none⟩ = some (.int .i64 n) := (o1.bel.cell (p := ⟨b, off + i * 3 + 1, none⟩) hb).trans hc1
      have d2 : wr.cell? ⟨b, off + i * 3 + 2, none⟩ = some (.string py) := (o1.bel.cell (p := ⟨b, off + i * 3 + 2, none⟩) hb).trans hc2
      have Hst : Hid (StOk ⟨what, n, py⟩) := hrO
      have O1 : Hid (WMen w c 70 mb lb lb lb xb i bg M s sd x ρ wr) := o1
      have O2 : Hid (x.second = second) := o2
      have O3 : Hid (SentSt c x s last bytes time) := o3
      have O4 : Hid (SRow lb xb c last wr) := o4
      have Hall : Hid (AllOk M) := o1.live.all (by omega)
      have HD : Hid (w.cell? ⟨b, off + i * 3, none⟩ = some (.int .i64 what) ∧ w.cell? ⟨b, off + i * 3 + 1, none⟩ = some (.int .i64 n)) := ⟨hc0, hc1⟩
      have hllt := o4.r.lt
      have hxl : xb < wr.heap.size := lt_of_cell o4.x3
      have Hbd : Hid (0 ≤ c.rate * time ∧ c.rate * time ≤ 4000000000000 ∧ 0 ≤ bytes ∧ bytes ≤ c.burst + c.rate * time ∧ bytes ≤ 5000000000000 ∧ (0 ≤ c.burst ∧ c.burst ≤ 1000000) ∧ 0 ≤ time ∧ time ≤ 40000000) := o3.bound o1.live (by omega)
      clear hr hri hrO hc0 hc1 hc2 o1 o2 o3 o4 HO
      obtain ⟨sv, wv, SB, WB, hmd⟩ := O1.out.md
      go_wp2_with fail
      refine (does_any ρ mb M sv wv SB WB what n py 70 _ hmd Hall.out Hst.out.1 Hst.out.2.1 Hst.out.2.2 (by omega)).mono ?_
      rintro e w2 ⟨cv, tv, rfl, hmv⟩
      have k0 := pickF_lo what 5 (by omega)
      have k1 := pickF_hi what 5 (by omega)
      have HDs : Hid (∀ cv, doesM M what n py 70 cv = if pickF what 5 ≤ 2 then packetM M (dataT (70 + (pickF n 50).toNat) py) cv else if pickF what 5 = 3 then reportM M 1 (askT (65530 + (pickF n 60).toNat)) else tickM M (pickF n 40)) := fun _ => rfl
      obtain ⟨kd, hkd⟩ : ∃ kd, pickF what 5 = kd := ⟨_, rfl⟩
      rw [hkd] at k0 k1 HDs
      have HKD : Hid (pickF what 5 = kd) := hkd
      clear hkd hmd
      rcases (show kd = 0 ∨ kd = 1 ∨ kd = 2 ∨ kd = 3 ∨ kd = 4 by omega) with rfl | rfl | rfl | rfl | rfl
      · have p0 := pickF_lo n 50 (by omega)
        have p1 := pickF_hi n 50 (by omega)
        obtain ⟨j, hj⟩ : ∃ j : Nat, pickF n 50 = (j : Int) := Int.eq_ofNat_of_zero_le p0
        have hjl : j < 50 := by omega
        have HDe : doesM M what n py 70 cv = packetM M (dataT (70 + j) py) cv := by rw [HDs.out cv, if_pos (by decide), hj]; rfl
        rw [HDe] at hmv ⊢
        obtain ⟨sd', hp1, hp2, hp3⟩ := O1.out.live.packet hjl py cv
        obtain ⟨⟨ρ', hw2⟩, hchg, hrow⟩ := O1.out.step hllt hllt hllt hxl hp2 hmv
        have he0 : (packetM M (dataT (70 + j) py) cv).2.2 = 0 := by rw [hp1]
        have hL1 : (packetM M (dataT (70 + j) py) cv).2.1 = if (nextG c.window.toNat s.now bg j).2.1 = 0 then [textOf x (dataP (70 + j) py)] else [] := by rw [hp1]
        rw [he0]
        rw [hL1] at hrow
        obtain ⟨ta, tc, rfl⟩ := rowA_shape hrow
        have HR2 : Hid (SRow lb xb c last w2) := O4.out.chg hchg (fun e => e O1.out.zl) (fun e => e O1.out.zx)
        have d0' := (hw2.bel.cell (p := ⟨b, off + i * 3, none⟩) hb).trans HD.out.1
        by_cases hf : (nextG c.window.toNat s.now bg j).2.1 = 0
        · simp only [hf, if_true] at hrow hw2 ⊢
          have HW2 : Hid (WMen w c 70 mb lb lb lb xb (i + 1) (some (nextG c.window.toNat s.now bg j).1) (packetM M (dataT (70 + j) py) cv).1 (pktS s 0 (nextG c.window.toNat s.now bg j).2.2) sd' (passW x (dataP (70 + j) py) cv c.ring.toNat) ρ' w2) := hw2
          have HS2 : Hid (SentSt c (passW x (dataP (70 + j) py) cv c.ring.toNat) (pktS s 0 (nextG c.window.toNat s.now bg j).2.2) (updS last (numOf x ((70 + j) % 65536)) (hashB ++ cutF py 100)) bytes time) := O3.out.pass O1.out.live (70 + j) py cv _ _
          have hsec2 : (passW x (dataP (70 + j) py) cv c.ring.toNat).second = second := O2.out
          obtain ⟨htr, hts⟩ := textOf_read x (70 + j) py (by rw [O1.out.live.w.pl]; decide) (by rw [O1.out.live.w.src]; decide)
          rw [O1.out.live.w.pl, O1.out.live.w.src] at htr
          have hnl : numOf x ((70 + j) % 65536) < 65536 := Nat.mod_lt _ (by decide)
          have HFin : Hid (∀ wi, WMen w c 70 mb lb lb lb xb (i + 1) (some (nextG c.window.toNat s.now bg j).1) (packetM M (dataT (70 + j) py) cv).1 (pktS s 0 (nextG c.window.toNat s.now bg j).2.2) sd' (passW x (dataP (70 + j) py) cv c.ring.toNat) ρ' wi → SRow lb xb c (updS last (numOf x ((70 + j) % 65536)) (hashB ++ cutF py 100)) wi → SentAt w c mb lb xb (i + 1) second bytes time wi) := fun wi h1 h2 => ⟨_, _, _, _, _, _, ρ', h1, HS2.out, hsec2, h2⟩
          obtain ⟨g, cap2, hsl, hcell, hglt⟩ := row_one hrow
          simp only [List.length_cons, List.length_nil, Nat.zero_add, Value.slice.injEq] at hsl
          obtain ⟨rfl, -, rfl⟩ := hsl
          have Hgg : Hid (wr.heap.size ≤ g) := (hrow.lt g rfl).1
          have hgl : g ≠ lb := by have := Hgg.out; omega
          clear hmv hp1 hp2 hp3 hw2 hchg hrow he0 hL1 d0 d1 d2 HDe HS2 hsec2 Hgg
          generalize hN : numOf x ((70 + j) % 65536) = nq at *
          generalize hX : textOf x (dataP (70 + j) py) = tx at *
          generalize (packetM M (dataT (70 + j) py) cv).1 = M3 at *
          generalize (nextG c.window.toNat s.now bg j).1 = bg3 at *
          generalize pktS s 0 (nextG c.window.toNat s.now bg j).2.2 = s3 at *
          generalize passW x (dataP (70 + j) py) cv c.ring.toNat = x3 at *
          generalize hC : cutF py 100 = py2 at *
          have Htr : Hid (readP tx = some ⟨false, false, 100, (nq : Int), 5, 7, 0, 0, [], ⟨#[]⟩, py2⟩) := htr
          have HC0 : Hid (w2.cell? ⟨g, 0, none⟩ = some (.string tx)) := hcell
          have hpz : py2.size ≤ 100 := by rw [← hC]; exact cutF_size py 100
          clear hN hX htr hcell hC hj hf
          simp only [List.length_cons, List.length_nil, Nat.zero_add]
          go_wp2_with fail
          refine (pick_any what 5 _ Hst.out.1.1 Hst.out.1.2 (by omega) (by omega)).mono ?_
          rintro e w3 ⟨rfl, hw3⟩
          rw [hw3, HKD.out]
          clear hw3 w3
          go_wp2
          go_loopw [19] (fun s19 wi => ∃ q : Nat, q ≤ 1 ∧ s19 = .int .i64 q ∧ WMen w c 70 mb lb lb lb xb (i + 1) (some bg3) M3 s3 sd' x3 ρ' wi ∧ SRow lb xb c (if q = 0 then last else updS last nq (hashB ++ py2)) wi ∧ wi.cell? ⟨g, 0, none⟩ = some (.string tx)) (fun s19 _ => 1 - (intOf s19).toNat)
          case atStart => exact ⟨0, by omega, rfl, HW2.out, HR2.out, HC0.out⟩
          case round =>
            obtain ⟨q, hq, rfl, m1, m2, m3⟩ := hrel
            rcases (show q = 0 ∨ q = 1 by omega) with rfl | rfl
            · simp only [if_true] at m2
              have M1 : Hid (WMen w c 70 mb lb lb lb xb (i + 1) (some bg3) M3 s3 sd' x3 ρ' wr) := m1
              have M2 : Hid (SRow lb xb c last wr) := m2
              clear m1 m2
              go_wp2_with fail
              refine (parsePacket_any tx _ (by unfold maxLen; omega)).mono ?_
              rintro e w7 ⟨hb7, hr7⟩
              rw [Htr.out] at hr7
              obtain ⟨v7, he7, hown7⟩ := hr7
              obtain ⟨a7, c7, hv7⟩ := hown7.shape
              subst hv7
              simp only [okV] at he7
              subst he7
              have M7 : Hid (WMen w c 70 mb lb lb lb xb (i + 1) (some bg3) M3 s3 sd' x3 ρ' w7) := M1.out.below hb7
              have R7 : Hid (SRow lb xb c last w7) := M2.out.chg (T := fun _ => False) (Chg.ofBelow hb7) (fun e => e) (fun e => e)
              have C7 : Hid (w7.cell? ⟨g, 0, none⟩ = some (.string tx)) := (Chg.ofBelow (T := fun _ => False) hb7).cell m3 (fun e => e)
              have HA : Hid (∀ bk, WMen w c 70 mb lb lb lb xb (i + 1) (some bg3) M3 s3 sd' x3 ρ' ((w7.alloc bk).setCell ⟨lb, nq, none⟩ (.string (hashB ++ py2))) ∧ SRow lb xb c (updS last nq (hashB ++ py2)) ((w7.alloc bk).setCell ⟨lb, nq, none⟩ (.string (hashB ++ py2))) ∧ ((w7.alloc bk).setCell ⟨lb, nq, none⟩ (.string (hashB ++ py2))).cell? ⟨g, 0, none⟩ = some (.string tx)) := fun bk => by
                have b8 : Below w7.heap.size w7 (w7.alloc bk) := (Below.refl _ _).alloc (Nat.le_refl _) _
                have c8 : Chg (fun _ => False) w7 (w7.alloc bk) := Chg.ofBelow b8
                refine ⟨(M7.out.below b8).put lb nq _ M7.out.zl hh1, (R7.out.chg c8 (fun e => e) (fun e => e)).set hd4 _, ?_⟩
                rw [World.cell?_setCell_other _ _ _ _ (fun e => hgl (by injection e with e1; exact e1.symm))]
                exact c8.cell C7.out (fun e => e)
              have e0 : ∀ bk, ((w7.alloc bk).cell? ⟨lb, nq, none⟩ = some (.string (last nq))) := fun bk => (Chg.ofBelow (T := fun _ => False) ((Below.refl _ _).alloc (Nat.le_refl _) bk)).cell (R7.out.r.c nq hnl) (fun e => e)
              have ef : ∀ bk, (w7.alloc bk).frozen? ⟨lb, nq, none⟩ = false := fun bk => ((Chg.ofBelow (T := fun _ => False) ((Below.refl _ _).alloc (Nat.le_refl _) bk)).frozen (p := ⟨lb, nq, none⟩) R7.out.r.lt (fun e => e)).trans (R7.out.r.f nq)
              clear hb7 hown7 m3 M1 M2
              go_wp2
              go_roundw
              case rel => exact ⟨1, by omega, by go_num, (HA.out _).1, (HA.out _).2.1, (HA.out _).2.2⟩
              case measure => simp [intOf]
            · simp only [show ¬ (1 = 0) by omega, if_false] at m2
              have HNW : Hid (SentAt w c mb lb xb (i + 1) second bytes time wr) := HFin.out wr m1 m2
              have HR3 : Hid (SRow lb xb c (updS last nq (hashB ++ py2)) wr) := m2
              have hbd := Hbd.out
              clear m1 m2 m3
              have cx3 := HR3.out.x3
              have cx4 := HR3.out.x4
              obtain ⟨RT, hRT⟩ : ∃ RT, c.rate * time = RT := ⟨_, rfl⟩
              rw [hRT] at hbd
              have hq1 : IntKind.i64.wrap (c.rate * time) = RT := by rw [hRT]; exact i64_id _ (by omega) (by omega)
              obtain ⟨BR, hBR⟩ : ∃ BR, c.burst + RT = BR := ⟨_, rfl⟩
              have hq2 : IntKind.i64.wrap (c.burst + RT) = BR := by rw [hBR]; exact i64_id _ (by omega) (by omega)
              have hq3 : ¬ (BR < bytes) := by omega
              clear HR3 hRT hBR hbd
              go_wp2
              go_roundw
              case rel => exact ⟨i + 1, second, time, bytes, by omega, by omega, by go_num, rfl, rfl, rfl, HNW.out⟩
              case measure => simp [intOf]; omega
        · simp only [if_neg hf] at hrow hw2 ⊢
          have HNW : Hid (SentAt w c mb lb xb (i + 1) second bytes time w2) := ⟨_, _, _, _, _, _, ρ', hw2, O3.out.stay _ _, O2.out, HR2.out⟩
          have HR3 : Hid (SRow lb xb c last w2) := HR2.out
          have hbd := Hbd.out
          clear hmv hp1 hp2 hp3 hw2 hchg hrow he0 hL1 d0 d1 d2 HDe hf hj
          simp only [List.length_nil]
          go_wp2_with fail
          refine (pick_any what 5 _ Hst.out.1.1 Hst.out.1.2 (by omega) (by omega)).mono ?_
          rintro e w3 ⟨rfl, hw3⟩
          rw [hw3, HKD.out]
          clear hw3 w3
          go_wp2
          go_loopw [19] (fun s19 wi => s19 = .int .i64 0 ∧ wi = w2) (fun _ _ => 0)
          case atStart => exact ⟨rfl, rfl⟩
          case round =>
            obtain ⟨rfl, rfl⟩ := hrel
            have cx3 := HR3.out.x3
            have cx4 := HR3.out.x4
            obtain ⟨RT, hRT⟩ : ∃ RT, c.rate * time = RT := ⟨_, rfl⟩
            rw [hRT] at hbd
            have hq1 : IntKind.i64.wrap (c.rate * time) = RT := by rw [hRT]; exact i64_id _ (by omega) (by omega)
            obtain ⟨BR, hBR⟩ : ∃ BR, c.burst + RT = BR := ⟨_, rfl⟩
            have hq2 : IntKind.i64.wrap (c.burst + RT) = BR := by rw [hBR]; exact i64_id _ (by omega) (by omega)
            have hq3 : ¬ (BR < bytes) := by omega
            clear HR3 hRT hBR hbd
            go_wp2
            go_roundw
            case rel => exact ⟨i + 1, second, time, bytes, by omega, by omega, by go_num, rfl, rfl, rfl, HNW.out⟩
            case measure => simp [intOf]; omega
      · have p0 := pickF_lo n 50 (by omega)
        have p1 := pickF_hi n 50 (by omega)
        obtain ⟨j, hj⟩ : ∃ j : Nat, pickF n 50 = (j : Int) := Int.eq_ofNat_of_zero_le p0
        have hjl : j < 50 := by omega
        have HDe : doesM M what n py 70 cv = packetM M (dataT (70 + j) py) cv := by rw [HDs.out cv, if_pos (by decide), hj]; rfl
        rw [HDe] at hmv ⊢
        obtain ⟨sd', hp1, hp2, hp3⟩ := O1.out.live.packet hjl py cv
        obtain ⟨⟨ρ', hw2⟩, hchg, hrow⟩ := O1.out.step hllt hllt hllt hxl hp2 hmv
        have he0 : (packetM M (dataT (70 + j) py) cv).2.2 = 0 := by rw [hp1]
        have hL1 : (packetM M (dataT (70 + j) py) cv).2.1 = if (nextG c.window.toNat s.now bg j).2.1 = 0 then [textOf x (dataP (70 + j) py)] else [] := by rw [hp1]
        rw [he0]
        rw [hL1] at hrow
        obtain ⟨ta, tc, rfl⟩ := rowA_shape hrow
        have HR2 : Hid (SRow lb xb c last w2) := O4.out.chg hchg (fun e => e O1.out.zl) (fun e => e O1.out.zx)
        have d0' := (hw2.bel.cell (p := ⟨b, off + i * 3, none⟩) hb).trans HD.out.1
        by_cases hf : (nextG c.window.toNat s.now bg j).2.1 = 0
        · simp only [hf, if_true] at hrow hw2 ⊢
          have HW2 : Hid (WMen w c 70 mb lb lb lb xb (i + 1) (some (nextG c.window.toNat s.now bg j).1) (packetM M (dataT (70 + j) py) cv).1 (pktS s 0 (nextG c.window.toNat s.now bg j).2.2) sd' (passW x (dataP (70 + j) py) cv c.ring.toNat) ρ' w2) := hw2
          have HS2 : Hid (SentSt c (passW x (dataP (70 + j) py) cv c.ring.toNat) (pktS s 0 (nextG c.window.toNat s.now bg j).2.2) (updS last (numOf x ((70 + j) % 65536)) (hashB ++ cutF py 100)) bytes time) := O3.out.pass O1.out.live (70 + j) py cv _ _
          have hsec2 : (passW x (dataP (70 + j) py) cv c.ring.toNat).second = second := O2.out
          obtain ⟨htr, hts⟩ := textOf_read x (70 + j) py (by rw [O1.out.live.w.pl]; decide) (by rw [O1.out.live.w.src]; decide)
          rw [O1.out.live.w.pl, O1.out.live.w.src] at htr
          have hnl : numOf x ((70 + j) % 65536) < 65536 := Nat.mod_lt _ (by decide)
          have HFin : Hid (∀ wi, WMen w c 70 mb lb lb lb xb (i + 1) (some (nextG c.window.toNat s.now bg j).1) (packetM M (dataT (70 + j) py) cv).1 (pktS s 0 (nextG c.window.toNat s.now bg j).2.2) sd' (passW x (dataP (70 + j) py) cv c.ring.toNat) ρ' wi → SRow lb xb c (updS last (numOf x ((70 + j) % 65536)) (hashB ++ cutF py 100)) wi → SentAt w c mb lb xb (i + 1) second bytes time wi) := fun wi h1 h2 => ⟨_, _, _, _, _, _, ρ', h1, HS2.out, hsec2, h2⟩
          obtain ⟨g, cap2, hsl, hcell, hglt⟩ := row_one hrow
          simp only [List.length_cons, List.length_nil, Nat.zero_add, Value.slice.injEq] at hsl
          obtain ⟨rfl, -, rfl⟩ := hsl
          have Hgg : Hid (wr.heap.size ≤ g) := (hrow.lt g rfl).1
          have hgl : g ≠ lb := by have := Hgg.out; omega
          clear hmv hp1 hp2 hp3 hw2 hchg hrow he0 hL1 d0 d1 d2 HDe HS2 hsec2 Hgg
          generalize hN : numOf x ((70 + j) % 65536) = nq at *
          generalize hX : textOf x (dataP (70 + j) py) = tx at *
          generalize (packetM M (dataT (70 + j) py) cv).1 = M3 at *
          generalize (nextG c.window.toNat s.now bg j).1 = bg3 at *
          generalize pktS s 0 (nextG c.window.toNat s.now bg j).2.2 = s3 at *
          generalize passW x (dataP (70 + j) py) cv c.ring.toNat = x3 at *
          generalize hC : cutF py 100 = py2 at *
          have Htr : Hid (readP tx = some ⟨false, false, 100, (nq : Int), 5, 7, 0, 0, [], ⟨#[]⟩, py2⟩) := htr
          have HC0 : Hid (w2.cell? ⟨g, 0, none⟩ = some (.string tx)) := hcell
          have hpz : py2.size ≤ 100 := by rw [← hC]; exact cutF_size py 100
          clear hN hX htr hcell hC hj hf
          simp only [List.length_cons, List.length_nil, Nat.zero_add]
          go_wp2_with fail
          refine (pick_any what 5 _ Hst.out.1.1 Hst.out.1.2 (by omega) (by omega)).mono ?_
          rintro e w3 ⟨rfl, hw3⟩
          rw [hw3, HKD.out]
          clear hw3 w3
          go_wp2
          go_loopw [19] (fun s19 wi => ∃ q : Nat, q ≤ 1 ∧ s19 = .int .i64 q ∧ WMen w c 70 mb lb lb lb xb (i + 1) (some bg3) M3 s3 sd' x3 ρ' wi ∧ SRow lb xb c (if q = 0 then last else updS last nq (hashB ++ py2)) wi ∧ wi.cell? ⟨g, 0, none⟩ = some (.string tx)) (fun s19 _ => 1 - (intOf s19).toNat)
          case atStart => exact ⟨0, by omega, rfl, HW2.out, HR2.out, HC0.out⟩
          case round =>
            obtain ⟨q, hq, rfl, m1, m2, m3⟩ := hrel
            rcases (show q = 0 ∨ q = 1 by omega) with rfl | rfl
            · simp only [if_true] at m2
              have M1 : Hid (WMen w c 70 mb lb lb lb xb (i + 1) (some bg3) M3 s3 sd' x3 ρ' wr) := m1
              have M2 : Hid (SRow lb xb c last wr) := m2
              clear m1 m2
              go_wp2_with fail
              refine (parsePacket_any tx _ (by unfold maxLen; omega)).mono ?_
              rintro e w7 ⟨hb7, hr7⟩
              rw [Htr.out] at hr7
              obtain ⟨v7, he7, hown7⟩ := hr7
              obtain ⟨a7, c7, hv7⟩ := hown7.shape
              subst hv7
              simp only [okV] at he7
              subst he7
              have M7 : Hid (WMen w c 70 mb lb lb lb xb (i + 1) (some bg3) M3 s3 sd' x3 ρ' w7) := M1.out.below hb7
              have R7 : Hid (SRow lb xb c last w7) := M2.out.chg (T := fun _ => False) (Chg.ofBelow hb7) (fun e => e) (fun e => e)
              have C7 : Hid (w7.cell? ⟨g, 0, none⟩ = some (.string tx)) := (Chg.ofBelow (T := fun _ => False) hb7).cell m3 (fun e => e)
              have HA : Hid (∀ bk, WMen w c 70 mb lb lb lb xb (i + 1) (some bg3) M3 s3 sd' x3 ρ' ((w7.alloc bk).setCell ⟨lb, nq, none⟩ (.string (hashB ++ py2))) ∧ SRow lb xb c (updS last nq (hashB ++ py2)) ((w7.alloc bk).setCell ⟨lb, nq, none⟩ (.string (hashB ++ py2))) ∧ ((w7.alloc bk).setCell ⟨lb, nq, none⟩ (.string (hashB ++ py2))).cell? ⟨g, 0, none⟩ = some (.string tx)) := fun bk => by
                have b8 : Below w7.heap.size w7 (w7.alloc bk) := (Below.refl _ _).alloc (Nat.le_refl _) _
                have c8 : Chg (fun _ => False) w7 (w7.alloc bk) := Chg.ofBelow b8
                refine ⟨(M7.out.below b8).put lb nq _ M7.out.zl hh1, (R7.out.chg c8 (fun e => e) (fun e => e)).set hd4 _, ?_⟩
                rw [World.cell?_setCell_other _ _ _ _ (fun e => hgl (by injection e with e1; exact e1.symm))]
                exact c8.cell C7.out (fun e => e)
              have e0 : ∀ bk, ((w7.alloc bk).cell? ⟨lb, nq, none⟩ = some (.string (last nq))) := fun bk => (Chg.ofBelow (T := fun _ => False) ((Below.refl _ _).alloc (Nat.le_refl _) bk)).cell (R7.out.r.c nq hnl) (fun e => e)
              have ef : ∀ bk, (w7.alloc bk).frozen? ⟨lb, nq, none⟩ = false := fun bk => ((Chg.ofBelow (T := fun _ => False) ((Below.refl _ _).alloc (Nat.le_refl _) bk)).frozen (p := ⟨lb, nq, none⟩) R7.out.r.lt (fun e => e)).trans (R7.out.r.f nq)
              clear hb7 hown7 m3 M1 M2
              go_wp2
              go_roundw
              case rel => exact ⟨1, by omega, by go_num, (HA.out _).1, (HA.out _).2.1, (HA.out _).2.2⟩
              case measure => simp [intOf]
            · simp only [show ¬ (1 = 0) by omega, if_false] at m2
              have HNW : Hid (SentAt w c mb lb xb (i + 1) second bytes time wr) := HFin.out wr m1 m2
              have HR3 : Hid (SRow lb xb c (updS last nq (hashB ++ py2)) wr) := m2
              have hbd := Hbd.out
              clear m1 m2 m3
              have cx3 := HR3.out.x3
              have cx4 := HR3.out.x4
              obtain ⟨RT, hRT⟩ : ∃ RT, c.rate * time = RT := ⟨_, rfl⟩
              rw [hRT] at hbd
              have hq1 : IntKind.i64.wrap (c.rate * time) = RT := by rw [hRT]; exact i64_id _ (by omega) (by omega)
              obtain ⟨BR, hBR⟩ : ∃ BR, c.burst + RT = BR := ⟨_, rfl⟩
              have hq2 : IntKind.i64.wrap (c.burst + RT) = BR := by rw [hBR]; exact i64_id _ (by omega) (by omega)
              have hq3 : ¬ (BR < bytes) := by omega
              clear HR3 hRT hBR hbd
              go_wp2
              go_roundw
              case rel => exact ⟨i + 1, second, time, bytes, by omega, by omega, by go_num, rfl, rfl, rfl, HNW.out⟩
              case measure => simp [intOf]; omega
        · simp only [if_neg hf] at hrow hw2 ⊢
          have HNW : Hid (SentAt w c mb lb xb (i + 1) second bytes time w2) := ⟨_, _, _, _, _, _, ρ', hw2, O3.out.stay _ _, O2.out, HR2.out⟩
          have HR3 : Hid (SRow lb xb c last w2) := HR2.out
          have hbd := Hbd.out
          clear hmv hp1 hp2 hp3 hw2 hchg hrow he0 hL1 d0 d1 d2 HDe hf hj
          simp only [List.length_nil]
          go_wp2_with fail
          refine (pick_any what 5 _ Hst.out.1.1 Hst.out.1.2 (by omega) (by omega)).mono ?_
          rintro e w3 ⟨rfl, hw3⟩
          rw [hw3, HKD.out]
          clear hw3 w3
          go_wp2
          go_loopw [19] (fun s19 wi => s19 = .int .i64 0 ∧ wi = w2) (fun _ _ => 0)
          case atStart => exact ⟨rfl, rfl⟩
          case round =>
            obtain ⟨rfl, rfl⟩ := hrel
            have cx3 := HR3.out.x3
            have cx4 := HR3.out.x4
            obtain ⟨RT, hRT⟩ : ∃ RT, c.rate * time = RT := ⟨_, rfl⟩
            rw [hRT] at hbd
            have hq1 : IntKind.i64.wrap (c.rate * time) = RT := by rw [hRT]; exact i64_id _ (by omega) (by omega)
            obtain ⟨BR, hBR⟩ : ∃ BR, c.burst + RT = BR := ⟨_, rfl⟩
            have hq2 : IntKind.i64.wrap (c.burst + RT) = BR := by rw [hBR]; exact i64_id _ (by omega) (by omega)
            have hq3 : ¬ (BR < bytes) := by omega
            clear HR3 hRT hBR hbd
            go_wp2
            go_roundw
            case rel => exact ⟨i + 1, second, time, bytes, by omega, by omega, by go_num, rfl, rfl, rfl, HNW.out⟩
            case measure => simp [intOf]; omega
      · have p0 := pickF_lo n 50 (by omega)
        have p1 := pickF_hi n 50 (by omega)
        obtain ⟨j, hj⟩ : ∃ j : Nat, pickF n 50 = (j : Int) := Int.eq_ofNat_of_zero_le p0
        have hjl : j < 50 := by omega
        have HDe : doesM M what n py 70 cv = packetM M (dataT (70 + j) py) cv := by rw [HDs.out cv, if_pos (by decide), hj]; rfl
        rw [HDe] at hmv ⊢
        obtain ⟨sd', hp1, hp2, hp3⟩ := O1.out.live.packet hjl py cv
        obtain ⟨⟨ρ', hw2⟩, hchg, hrow⟩ := O1.out.step hllt hllt hllt hxl hp2 hmv
        have he0 : (packetM M (dataT (70 + j) py) cv).2.2 = 0 := by rw [hp1]
        have hL1 : (packetM M (dataT (70 + j) py) cv).2.1 = if (nextG c.window.toNat s.now bg j).2.1 = 0 then [textOf x (dataP (70 + j) py)] else [] := by rw [hp1]
        rw [he0]
        rw [hL1] at hrow
        obtain ⟨ta, tc, rfl⟩ := rowA_shape hrow
        have HR2 : Hid (SRow lb xb c last w2) := O4.out.chg hchg (fun e => e O1.out.zl) (fun e => e O1.out.zx)
        have d0' := (hw2.bel.cell (p := ⟨b, off + i * 3, none⟩) hb).trans HD.out.1
        by_cases hf : (nextG c.window.toNat s.now bg j).2.1 = 0
        · simp only [hf, if_true] at hrow hw2 ⊢
          have HW2 : Hid (WMen w c 70 mb lb lb lb xb (i + 1) (some (nextG c.window.toNat s.now bg j).1) (packetM M (dataT (70 + j) py) cv).1 (pktS s 0 (nextG c.window.toNat s.now bg j).2.2) sd' (passW x (dataP (70 + j) py) cv c.ring.toNat) ρ' w2) := hw2
          have HS2 : Hid (SentSt c (passW x (dataP (70 + j) py) cv c.ring.toNat) (pktS s 0 (nextG c.window.toNat s.now bg j).2.2) (updS last (numOf x ((70 + j) % 65536)) (hashB ++ cutF py 100)) bytes time) := O3.out.pass O1.out.live (70 + j) py cv _ _
          have hsec2 : (passW x (dataP (70 + j) py) cv c.ring.toNat).second = second := O2.out
          obtain ⟨htr, hts⟩ := textOf_read x (70 + j) py (by rw [O1.out.live.w.pl]; decide) (by rw [O1.out.live.w.src]; decide)
          rw [O1.out.live.w.pl, O1.out.live.w.src] at htr
          have hnl : numOf x ((70 + j) % 65536) < 65536 := Nat.mod_lt _ (by decide)
          have HFin : Hid (∀ wi, WMen w c 70 mb lb lb lb xb (i + 1) (some (nextG c.window.toNat s.now bg j).1) (packetM M (dataT (70 + j) py) cv).1 (pktS s 0 (nextG c.window.toNat s.now bg j).2.2) sd' (passW x (dataP (70 + j) py) cv c.ring.toNat) ρ' wi → SRow lb xb c (updS last (numOf x ((70 + j) % 65536)) (hashB ++ cutF py 100)) wi → SentAt w c mb lb xb (i + 1) second bytes time wi) := fun wi h1 h2 => ⟨_, _, _, _, _, _, ρ', h1, HS2.out, hsec2, h2⟩
          obtain ⟨g, cap2, hsl, hcell, hglt⟩ := row_one hrow
          simp only [List.length_cons, List.length_nil, Nat.zero_add, Value.slice.injEq] at hsl
          obtain ⟨rfl, -, rfl⟩ := hsl
          have Hgg : Hid (wr.heap.size ≤ g) := (hrow.lt g rfl).1
          have hgl : g ≠ lb := by have := Hgg.out; omega
          clear hmv hp1 hp2 hp3 hw2 hchg hrow he0 hL1 d0 d1 d2 HDe HS2 hsec2 Hgg
          generalize hN : numOf x ((70 + j) % 65536) = nq at *
          generalize hX : textOf x (dataP (70 + j) py) = tx at *
          generalize (packetM M (dataT (70 + j) py) cv).1 = M3 at *
          generalize (nextG c.window.toNat s.now bg j).1 = bg3 at *
          generalize pktS s 0 (nextG c.window.toNat s.now bg j).2.2 = s3 at *
          generalize passW x (dataP (70 + j) py) cv c.ring.toNat = x3 at *
          generalize hC : cutF py 100 = py2 at *
          have Htr : Hid (readP tx = some ⟨false, false, 100, (nq : Int), 5, 7, 0, 0, [], ⟨#[]⟩, py2⟩) := htr
          have HC0 : Hid (w2.cell? ⟨g, 0, none⟩ = some (.string tx)) := hcell
          have hpz : py2.size ≤ 100 := by rw [← hC]; exact cutF_size py 100
          clear hN hX htr hcell hC hj hf
          simp only [List.length_cons, List.length_nil, Nat.zero_add]
          go_wp2_with fail
          refine (pick_any what 5 _ Hst.out.1.1 Hst.out.1.2 (by omega) (by omega)).mono ?_
          rintro e w3 ⟨rfl, hw3⟩
          rw [hw3, HKD.out]
          clear hw3 w3
          go_wp2
          go_loopw [19] (fun s19 wi => ∃ q : Nat, q ≤ 1 ∧ s19 = .int .i64 q ∧ WMen w c 70 mb lb lb lb xb (i + 1) (some bg3) M3 s3 sd' x3 ρ' wi ∧ SRow lb xb c (if q = 0 then last else updS last nq (hashB ++ py2)) wi ∧ wi.cell? ⟨g, 0, none⟩ = some (.string tx)) (fun s19 _ => 1 - (intOf s19).toNat)
          case atStart => exact ⟨0, by omega, rfl, HW2.out, HR2.out, HC0.out⟩
          case round =>
            obtain ⟨q, hq, rfl, m1, m2, m3⟩ := hrel
            rcases (show q = 0 ∨ q = 1 by omega) with rfl | rfl
            · simp only [if_true] at m2
              have M1 : Hid (WMen w c 70 mb lb lb lb xb (i + 1) (some bg3) M3 s3 sd' x3 ρ' wr) := m1
              have M2 : Hid (SRow lb xb c last wr) := m2
              clear m1 m2
              go_wp2_with fail
              refine (parsePacket_any tx _ (by unfold maxLen; omega)).mono ?_
              rintro e w7 ⟨hb7, hr7⟩
              rw [Htr.out] at hr7
              obtain ⟨v7, he7, hown7⟩ := hr7
              obtain ⟨a7, c7, hv7⟩ := hown7.shape
              subst hv7
              simp only [okV] at he7
              subst he7
              have M7 : Hid (WMen w c 70 mb lb lb lb xb (i + 1) (some bg3) M3 s3 sd' x3 ρ' w7) := M1.out.below hb7
              have R7 : Hid (SRow lb xb c last w7) := M2.out.chg (T := fun _ => False) (Chg.ofBelow hb7) (fun e => e) (fun e => e)
              have C7 : Hid (w7.cell? ⟨g, 0, none⟩ = some (.string tx)) := (Chg.ofBelow (T := fun _ => False) hb7).cell m3 (fun e => e)
              have HA : Hid (∀ bk, WMen w c 70 mb lb lb lb xb (i + 1) (some bg3) M3 s3 sd' x3 ρ' ((w7.alloc bk).setCell ⟨lb, nq, none⟩ (.string (hashB ++ py2))) ∧ SRow lb xb c (updS last nq (hashB ++ py2)) ((w7.alloc bk).setCell ⟨lb, nq, none⟩ (.string (hashB ++ py2))) ∧ ((w7.alloc bk).setCell ⟨lb, nq, none⟩ (.string (hashB ++ py2))).cell? ⟨g, 0, none⟩ = some (.string tx)) := fun bk => by
                have b8 : Below w7.heap.size w7 (w7.alloc bk) := (Below.refl _ _).alloc (Nat.le_refl _) _
                have c8 : Chg (fun _ => False) w7 (w7.alloc bk) := Chg.ofBelow b8
                refine ⟨(M7.out.below b8).put lb nq _ M7.out.zl hh1, (R7.out.chg c8 (fun e => e) (fun e => e)).set hd4 _, ?_⟩
                rw [World.cell?_setCell_other _ _ _ _ (fun e => hgl (by injection e with e1; exact e1.symm))]
                exact c8.cell C7.out (fun e => e)
              have e0 : ∀ bk, ((w7.alloc bk).cell? ⟨lb, nq, none⟩ = some (.string (last nq))) := fun bk => (Chg.ofBelow (T := fun _ => False) ((Below.refl _ _).alloc (Nat.le_refl _) bk)).cell (R7.out.r.c nq hnl) (fun e => e)
              have ef : ∀ bk, (w7.alloc bk).frozen? ⟨lb, nq, none⟩ = false := fun bk => ((Chg.ofBelow (T := fun _ => False) ((Below.refl _ _).alloc (Nat.le_refl _) bk)).frozen (p := ⟨lb, nq, none⟩) R7.out.r.lt (fun e => e)).trans (R7.out.r.f nq)
              clear hb7 hown7 m3 M1 M2
              go_wp2
              go_roundw
              case rel => exact ⟨1, by omega, by go_num, (HA.out _).1, (HA.out _).2.1, (HA.out _).2.2⟩
              case measure => simp [intOf]
            · simp only [show ¬ (1 = 0) by omega, if_false] at m2
              have HNW : Hid (SentAt w c mb lb xb (i + 1) second bytes time wr) := HFin.out wr m1 m2
              have HR3 : Hid (SRow lb xb c (updS last nq (hashB ++ py2)) wr) := m2
              have hbd := Hbd.out
              clear m1 m2 m3
              have cx3 := HR3.out.x3
              have cx4 := HR3.out.x4
              obtain ⟨RT, hRT⟩ : ∃ RT, c.rate * time = RT := ⟨_, rfl⟩
              rw [hRT] at hbd
              have hq1 : IntKind.i64.wrap (c.rate * time) = RT := by rw [hRT]; exact i64_id _ (by omega) (by omega)
              obtain ⟨BR, hBR⟩ : ∃ BR, c.burst + RT = BR := ⟨_, rfl⟩
              have hq2 : IntKind.i64.wrap (c.burst + RT) = BR := by rw [hBR]; exact i64_id _ (by omega) (by omega)
              have hq3 : ¬ (BR < bytes) := by omega
              clear HR3 hRT hBR hbd
              go_wp2
              go_roundw
              case rel => exact ⟨i + 1, second, time, bytes, by omega, by omega, by go_num, rfl, rfl, rfl, HNW.out⟩
              case measure => simp [intOf]; omega
        · simp only [if_neg hf] at hrow hw2 ⊢
          have HNW : Hid (SentAt w c mb lb xb (i + 1) second bytes time w2) := ⟨_, _, _, _, _, _, ρ', hw2, O3.out.stay _ _, O2.out, HR2.out⟩
          have HR3 : Hid (SRow lb xb c last w2) := HR2.out
          have hbd := Hbd.out
          clear hmv hp1 hp2 hp3 hw2 hchg hrow he0 hL1 d0 d1 d2 HDe hf hj
          simp only [List.length_nil]
          go_wp2_with fail
          refine (pick_any what 5 _ Hst.out.1.1 Hst.out.1.2 (by omega) (by omega)).mono ?_
          rintro e w3 ⟨rfl, hw3⟩
          rw [hw3, HKD.out]
          clear hw3 w3
          go_wp2
          go_loopw [19] (fun s19 wi => s19 = .int .i64 0 ∧ wi = w2) (fun _ _ => 0)
          case atStart => exact ⟨rfl, rfl⟩
          case round =>
            obtain ⟨rfl, rfl⟩ := hrel
            have cx3 := HR3.out.x3
            have cx4 := HR3.out.x4
            obtain ⟨RT, hRT⟩ : ∃ RT, c.rate * time = RT := ⟨_, rfl⟩
            rw [hRT] at hbd
            have hq1 : IntKind.i64.wrap (c.rate * time) = RT := by rw [hRT]; exact i64_id _ (by omega) (by omega)
            obtain ⟨BR, hBR⟩ : ∃ BR, c.burst + RT = BR := ⟨_, rfl⟩
            have hq2 : IntKind.i64.wrap (c.burst + RT) = BR := by rw [hBR]; exact i64_id _ (by omega) (by omega)
            have hq3 : ¬ (BR < bytes) := by omega
            clear HR3 hRT hBR hbd
            go_wp2
            go_roundw
            case rel => exact ⟨i + 1, second, time, bytes, by omega, by omega, by go_num, rfl, rfl, rfl, HNW.out⟩
            case measure => simp [intOf]; omega
      · have HDe : doesM M what n py 70 cv = reportM M 1 (askT (65530 + (pickF n 60).toNat)) := by rw [HDs.out cv, if_neg (by decide), if_pos rfl]
        rw [HDe] at hmv ⊢
        obtain ⟨hp1, hp2⟩ := O1.out.live.report (65530 + (pickF n 60).toNat)
        obtain ⟨⟨ρ', hw2⟩, hchg, hrow⟩ := O1.out.step hllt hllt hllt hxl hp2 hmv
        have he0 : (reportM M 1 (askT (65530 + (pickF n 60).toNat))).2.2 = 0 := by rw [hp1]
        have hL1 : (reportM M 1 (askT (65530 + (pickF n 60).toNat))).2.1 = (againF x ((65530 + (pickF n 60).toNat) % 65536) s.now c.delay s.tokens).2.toList := by rw [hp1]
        rw [he0]
        rw [hL1] at hrow
        obtain ⟨ta, tc, rfl⟩ := rowA_shape hrow
        have HR2 : Hid (SRow lb xb c last w2) := O4.out.chg hchg (fun e => e O1.out.zl) (fun e => e O1.out.zx)
        have d0' := (hw2.bel.cell (p := ⟨b, off + i * 3, none⟩) hb).trans HD.out.1
        have hag := fun t => O3.out.again (t := t) O1.out.live ((65530 + (pickF n 60).toNat) % 65536)
        have hno := (againF_facts x ((65530 + (pickF n 60).toNat) % 65536) s.now c.delay s.tokens O1.out.live.w.kok).2.2.2.2.2.1
        generalize (reportM M 1 (askT (65530 + (pickF n 60).toNat))).1 = M3 at *
        generalize againF x ((65530 + (pickF n 60).toNat) % 65536) s.now c.delay s.tokens = A at *
        obtain ⟨x3, A2⟩ := A
        simp only at hp1 hp2 hw2 hrow hag hno ⊢
        cases A2 with
        | none =>
          obtain rfl := hno rfl
          have HNW : Hid (SentAt w c mb lb xb (i + 1) second bytes time w2) := ⟨_, _, _, _, _, _, ρ', hw2, O3.out.refused, O2.out, HR2.out⟩
          have HR3 : Hid (SRow lb xb c last w2) := HR2.out
          have hbd := Hbd.out
          clear hmv hp1 hp2 hw2 hchg hrow he0 hL1 d0 d1 d2 HDe hag hno
          simp only [Option.toList_none, List.length_nil]
          go_wp2_with fail
          refine (pick_any what 5 _ Hst.out.1.1 Hst.out.1.2 (by omega) (by omega)).mono ?_
          rintro e w3 ⟨rfl, hw3⟩
          rw [hw3, HKD.out]
          clear hw3 w3
          go_wp2
          go_loopw [10, 11, 15] (fun s10 s11 s15 wi => s15 = .int .i64 0 ∧ s10 = .int .i64 bytes ∧ s11 = .int .i64 second ∧ wi = w2) (fun _ _ _ _ => 0)
          case atStart => exact ⟨rfl, rfl, rfl, rfl⟩
          case round =>
            obtain ⟨rfl, rfl, rfl, rfl⟩ := hrel
            have cx3 := HR3.out.x3
            have cx4 := HR3.out.x4
            obtain ⟨RT, hRT⟩ : ∃ RT, c.rate * time = RT := ⟨_, rfl⟩
            rw [hRT] at hbd
            have hq1 : IntKind.i64.wrap (c.rate * time) = RT := by rw [hRT]; exact i64_id _ (by omega) (by omega)
            obtain ⟨BR, hBR⟩ : ∃ BR, c.burst + RT = BR := ⟨_, rfl⟩
            have hq2 : IntKind.i64.wrap (c.burst + RT) = BR := by rw [hBR]; exact i64_id _ (by omega) (by omega)
            have hq3 : ¬ (BR < bytes) := by omega
            clear HR3 hRT hBR hbd
            go_wp2
            go_roundw
            case rel => exact ⟨i + 1, second, time, bytes, by omega, by omega, by go_num, rfl, rfl, rfl, HNW.out⟩
            case measure => simp [intOf]; omega
        | some t =>
          obtain ⟨kn, py2, g1, g2, g3, g4, g5, g6, g7⟩ := hag t rfl
          have Htr : Hid (readP t = some ⟨false, false, 101, (second : Int), 5, 8, 0, 0, [], ⟨#[]⟩, numB kn ++ py2⟩) := by
            have h := g3
            rw [O2.out] at h
            exact h
          have hsl : second < 65536 := by have := O1.out.live.w.sec; rw [O2.out] at this; exact this
          have hsec2 : x3.second = (second + 1) % 65536 := by rw [g6, O2.out]
          have HFin : Hid (∀ wi, WMen w c 70 mb lb lb lb xb (i + 1) bg M3 (repS s (some t)) sd x3 ρ' wi → SRow lb xb c last wi → SentAt w c mb lb xb (i + 1) ((second + 1) % 65536) (bytes + t.size) time wi) := fun wi h1 h2 => ⟨_, _, _, _, _, _, ρ', h1, g7, hsec2, h2⟩
          have Hbd7 := g7.bound hp2 (by omega)
          have HW2 : Hid (WMen w c 70 mb lb lb lb xb (i + 1) bg M3 (repS s (some t)) sd x3 ρ' w2) := hw2
          have HL7 : Hid (last kn = hashB ++ py2) := g5
          obtain ⟨g, cap2, hsl2, hcell, hglt⟩ := row_one hrow
          simp only [Option.toList_some, List.length_cons, List.length_nil, Nat.zero_add, Value.slice.injEq] at hsl2
          obtain ⟨rfl, -, rfl⟩ := hsl2
          have Hgg : Hid (wr.heap.size ≤ g) := (hrow.lt g rfl).1
          have hgl : g ≠ lb := by have := Hgg.out; omega
          have HC0 : Hid (w2.cell? ⟨g, 0, none⟩ = some (.string t)) := hcell
          clear hmv hp1 hp2 hw2 hchg hrow he0 hL1 d0 d1 d2 HDe hag hno g3 g5 g6 g7 hsec2 hcell Hgg
          generalize repS s (some t) = s3 at *
          obtain ⟨tz, htz⟩ : ∃ tz : Nat, t.size = tz := ⟨_, rfl⟩
          rw [htz] at HFin Hbd7 g4
          obtain ⟨B7, hB7⟩ : ∃ B7 : Int, bytes + (tz : Int) = B7 := ⟨_, rfl⟩
          obtain ⟨S7, hS7⟩ : ∃ S7 : Nat, (second + 1) % 65536 = S7 := ⟨_, rfl⟩
          have HB7 : Hid (bytes + (tz : Int) = B7) := hB7
          have hS8 : ((second : Int) + 1).tmod 65536 = (S7 : Int) := by rw [Int.tmod_eq_emod_of_nonneg (by omega)]; omega
          have hS9 : ((second : Int) + 1) % 65536 = (S7 : Int) := by omega
          have hW7 : IntKind.i64.wrap (bytes + (tz : Int)) = B7 := by rw [hB7]; exact i64_id _ (by omega) (by omega)
          rw [hB7] at HFin Hbd7
          rw [hS7] at HFin
          have Hbd8 : Hid (0 ≤ c.rate * time ∧ c.rate * time ≤ 4000000000000 ∧ 0 ≤ B7 ∧ B7 ≤ c.burst + c.rate * time ∧ B7 ≤ 5000000000000 ∧ (0 ≤ c.burst ∧ c.burst ≤ 1000000) ∧ 0 ≤ time ∧ time ≤ 40000000) := Hbd7
          clear Hbd7 hB7 hS7
          simp only [Option.toList_some, List.length_cons, List.length_nil, Nat.zero_add]
          go_wp2_with fail
          refine (pick_any what 5 _ Hst.out.1.1 Hst.out.1.2 (by omega) (by omega)).mono ?_
          rintro e w3 ⟨rfl, hw3⟩
          rw [hw3, HKD.out]
          clear hw3 w3
          go_wp2
          go_loopw [10, 11, 15] (fun s10 s11 s15 wi => ∃ q : Nat, q ≤ 1 ∧ s15 = .int .i64 q ∧ s10 = .int .i64 (if q = 0 then bytes else B7) ∧ s11 = .int .i64 ((if q = 0 then second else S7 : Nat) : Int) ∧ WMen w c 70 mb lb lb lb xb (i + 1) bg M3 s3 sd x3 ρ' wi ∧ SRow lb xb c last wi ∧ wi.cell? ⟨g, 0, none⟩ = some (.string t)) (fun _ _ s15 _ => 1 - (intOf s15).toNat)
          case atStart => exact ⟨0, by omega, rfl, rfl, rfl, HW2.out, HR2.out, HC0.out⟩
          case round =>
            obtain ⟨q, hq, rfl, rfl, rfl, m1, m2, m3⟩ := hrel
            rcases (show q = 0 ∨ q = 1 by omega) with rfl | rfl
            · simp only [if_true]
              have M1 : Hid (WMen w c 70 mb lb lb lb xb (i + 1) bg M3 s3 sd x3 ρ' wr) := m1
              have M2 : Hid (SRow lb xb c last wr) := m2
              clear m1 m2
              go_wp2_with fail
              refine (parsePacket_any t _ (by unfold maxLen; omega)).mono ?_
              rintro e w7 ⟨hb7, hr7⟩
              rw [Htr.out] at hr7
              obtain ⟨v7, he7, hown7⟩ := hr7
              obtain ⟨a7, c7, hv7⟩ := hown7.shape
              subst hv7
              simp only [okV] at he7
              subst he7
              have M7 : Hid (WMen w c 70 mb lb lb lb xb (i + 1) bg M3 s3 sd x3 ρ' w7) := M1.out.below hb7
              have R7 : Hid (SRow lb xb c last w7) := M2.out.chg (T := fun _ => False) (Chg.ofBelow hb7) (fun e => e) (fun e => e)
              have C7 : Hid (w7.cell? ⟨g, 0, none⟩ = some (.string t)) := (Chg.ofBelow (T := fun _ => False) hb7).cell m3 (fun e => e)
              clear hb7 hown7 m3 M1 M2
              have hsz : (numB kn ++ py2).size = 2 + py2.size := by rw [ByteArray.size_append, numB_size]
              have hx0 : ∀ h, ((numB kn ++ py2)[0]'h).toNat = kn / 256 := numB_get0 kn py2 g1
              have hx1 : ∀ h, ((numB kn ++ py2)[1]'h).toNat = kn % 256 := numB_get1 kn py2
              have htl := numB_tail kn py2
              generalize numB kn ++ py2 = P at hsz hx0 hx1 htl ⊢
              obtain ⟨u, hu⟩ : ∃ u, kn / 256 = u := ⟨_, rfl⟩
              obtain ⟨v, hv⟩ : ∃ v, kn % 256 = v := ⟨_, rfl⟩
              simp only [hu] at hx0
              simp only [hv] at hx1
              have hul : u < 256 := by omega
              have hvl : v < 256 := by omega
              have hz : (256 : Int) * (u : Int) + (v : Int) = (kn : Int) := by omega
              have HSZ : Hid (P.size = 2 + py2.size) := hsz
              have HTL : Hid (P.extract 2 (2 + py2.size) = py2) := htl
              have hp2 : (2 : Int) ≤ (P.size : Int) := by omega
              have hp3 : (P.size : Int) ≤ 200 := by omega
              have hp4 : ¬ (P.size : Int) < 2 := by omega
              have hp5 : 0 < P.size := by omega
              have hp6 : 1 < P.size := by omega
              have hkI : (kn : Int) < 65536 := by omega
              have e0 : ∀ bk, (w7.alloc bk).cell? ⟨lb, kn, none⟩ = some (.string (last kn)) := fun bk => (Chg.ofBelow (T := fun _ => False) ((Below.refl _ _).alloc (Nat.le_refl _) bk)).cell (R7.out.r.c kn g1) (fun e => e)
              have e1 : ∀ bk, (w7.alloc bk).cell? ⟨g, 0, none⟩ = some (.string t) := fun bk => (Chg.ofBelow (T := fun _ => False) ((Below.refl _ _).alloc (Nat.le_refl _) bk)).cell C7.out (fun e => e)
              have HA : Hid (∀ bk m, WMen w c 70 mb lb lb lb xb (i + 1) bg M3 s3 sd x3 ρ' ((w7.alloc bk).drewN m) ∧ SRow lb xb c last ((w7.alloc bk).drewN m) ∧ ((w7.alloc bk).drewN m).cell? ⟨g, 0, none⟩ = some (.string t)) := fun bk m => by
                have b8 : Below w7.heap.size w7 ((w7.alloc bk).drewN m) := below_drewN ((Below.refl _ _).alloc (Nat.le_refl _) _) m
                have c8 : Chg (fun _ => False) w7 ((w7.alloc bk).drewN m) := Chg.ofBelow b8
                exact ⟨M7.out.below b8, R7.out.chg c8 (fun e => e) (fun e => e), c8.cell C7.out (fun e => e)⟩
              clear hsz htl hu hv HW2 HR2 HC0
              go_simp
              go_wp2
              go_big_quiet (fail)
              go_wp2
              go_big_quiet (fail)
              have hcmp : ((last kn).toList == (({ data := #[35] } : ByteArray) ++ P.extract 2 P.size).toList) = true := by
                rw [HL7.out, HSZ.out, HTL.out]
                exact beq_self_eq_true _
              clear e0 hx0 hx1
              simp only [hcmp, Bool.not_true]
              clear hcmp
              go_simp
              go_wp2
              go_roundw
              case rel => exact ⟨1, by omega, by go_num, by go_num, by go_num, (HA.out _ _).1, (HA.out _ _).2.1, (HA.out _ _).2.2⟩
              case measure => simp [intOf]
            · simp only [show ¬ (1 = 0) by omega, if_false]
              have HNW : Hid (SentAt w c mb lb xb (i + 1) S7 B7 time wr) := HFin.out wr m1 m2
              have HR3 : Hid (SRow lb xb c last wr) := m2
              have hbd := Hbd8.out
              clear m1 m2 m3
              have cx3 := HR3.out.x3
              have cx4 := HR3.out.x4
              obtain ⟨RT, hRT⟩ : ∃ RT, c.rate * time = RT := ⟨_, rfl⟩
              rw [hRT] at hbd
              have hq1 : IntKind.i64.wrap (c.rate * time) = RT := by rw [hRT]; exact i64_id _ (by omega) (by omega)
              obtain ⟨BR, hBR⟩ : ∃ BR, c.burst + RT = BR := ⟨_, rfl⟩
              have hq2 : IntKind.i64.wrap (c.burst + RT) = BR := by rw [hBR]; exact i64_id _ (by omega) (by omega)
              have hq3 : ¬ (BR < B7) := by omega
              clear HR3 hRT hBR hbd
              go_wp2
              go_roundw
              case rel => exact ⟨i + 1, S7, time, B7, by omega, by omega, by go_num, rfl, rfl, rfl, HNW.out⟩
              case measure => simp [intOf]; omega
      · have p0 := pickF_lo n 40 (by omega)
        have p1 := pickF_hi n 40 (by omega)
        have HDe : doesM M what n py 70 cv = tickM M (pickF n 40) := by rw [HDs.out cv, if_neg (by decide), if_neg (by decide)]
        rw [HDe] at hmv ⊢
        obtain ⟨sd', hp1, hp2⟩ := O1.out.live.tick (pickF n 40) ⟨p0, p1⟩
        obtain ⟨⟨ρ', hw2⟩, hchg, hrow⟩ := O1.out.step hllt hllt hllt hxl hp2 hmv
        have he0 : (tickM M (pickF n 40)).2.2 = 0 := by rw [hp1]
        rw [he0]
        obtain ⟨ta, tc, rfl⟩ := rowA_shape hrow
        have hS3 := O3.out.tick (pickF n 40) (bgAsk c (s.now + pickF n 40) bg).2.1.length (bgAsk c (s.now + pickF n 40) bg).2.2
        have hbd := hS3.bound hp2 (by omega)
        have htb : 0 ≤ time ∧ time ≤ 40000000 := Hbd.out.2.2.2.2.2.2
        obtain ⟨tn, htn⟩ : ∃ tn, pickF n 40 = tn := ⟨_, rfl⟩
        have HTN : Hid (pickF n 40 = tn) := htn
        have htw : IntKind.i64.wrap (time + tn) = time + tn := i64_id _ (by rw [htn] at hbd; omega) (by rw [htn] at hbd; omega)
        rw [htn] at hS3 hbd p0 p1
        have HR3 : Hid (SRow lb xb c last w2) := O4.out.chg hchg (fun e => e O1.out.zl) (fun e => e O1.out.zx)
        have d0' := (hw2.bel.cell (p := ⟨b, off + i * 3, none⟩) hb).trans HD.out.1
        have d1' := (hw2.bel.cell (p := ⟨b, off + i * 3 + 1, none⟩) hb).trans HD.out.2
        have HNW : Hid (SentAt w c mb lb xb (i + 1) second bytes (time + tn) w2) := ⟨_, _, _, _, _, _, ρ', hw2, by rw [htn]; exact hS3, O2.out, HR3.out⟩
        clear hmv hp1 hp2 hw2 hchg hrow he0 d0 d1 d2 HDe hS3 htn
        generalize (tickM M (pickF n 40)).2.1.length = rl at *
        go_wp2_with fail
        refine (pick_any what 5 _ Hst.out.1.1 Hst.out.1.2 (by omega) (by omega)).mono ?_
        rintro e w3 ⟨rfl, hw3⟩
        rw [hw3, HKD.out]
        clear hw3 w3
        go_wp2_with fail
        refine (pick_any n 40 _ Hst.out.2.1.1 Hst.out.2.1.2 (by omega) (by omega)).mono ?_
        rintro e w3 ⟨rfl, hw3⟩
        rw [hw3, HTN.out]
        clear hw3 w3
        go_simp
        have cx3 := HR3.out.x3
        have cx4 := HR3.out.x4
        obtain ⟨RT, hRT⟩ : ∃ RT, c.rate * (time + tn) = RT := ⟨_, rfl⟩
        rw [hRT] at hbd
        have hq1 : IntKind.i64.wrap (c.rate * (time + tn)) = RT := by rw [hRT]; exact i64_id _ (by omega) (by omega)
        obtain ⟨BR, hBR⟩ : ∃ BR, c.burst + RT = BR := ⟨_, rfl⟩
        have hq2 : IntKind.i64.wrap (c.burst + RT) = BR := by rw [hBR]; exact i64_id _ (by omega) (by omega)
        have hq3 : ¬ (BR < bytes) := by omega
        clear HR3 hRT hBR hbd
        go_wp2
        go_roundw
        case rel => exact ⟨i + 1, second, (time + tn), bytes, by omega, by omega, by go_num, rfl, rfl, rfl, HNW.out⟩
        case measure => simp [intOf]; omega
    · by_cases h1 : (i : Int) < l.length
      · have h2 : ¬ (i : Int) < 100000 := by omega
        obtain ⟨_, _, _, _, _, _, _, o1, _⟩ := HO.out
        have O6 : Hid (Below w.heap.size w wr) := o1.bel
        clear o1
        go_wp2
        go_ret
        exact ⟨rfl, O6.out⟩
      · obtain ⟨_, _, _, _, _, _, _, o1, _⟩ := HO.out
        have O6 : Hid (Below w.heap.size w wr) := o1.bel
        clear o1
        go_wp2
        go_ret
        exact ⟨rfl, O6.out⟩

end Go.Proofs.Ytdjhhnolcafkiaa

/- menderkeep.Once returns true. -/
namespace Go.Proofs.Ytdjhhnolcafkiaa
open Go.RowKit
namespace Pk
/-- the list of what has come -/
structure CameAt (cb n : Nat) (cm : Nat → Bool) (W : World) : Prop where
  c : ∀ j, j < n → W.cell? ⟨cb, j, none⟩ = some (.bool (cm j))
  f : ∀ o, W.frozen? ⟨cb, o, none⟩ = false
  lt : cb < W.heap.size
theorem CameAt.chg {T : Nat → Prop} {cb n : Nat} {cm : Nat → Bool} {W W' : World} (h : CameAt cb n cm W) (hc : Chg T W W') (hn : ¬ T cb) : CameAt cb n cm W' :=
  ⟨fun j hj => hc.cell (h.c j hj) hn, fun o => (hc.frozen (p := ⟨cb, o, none⟩) h.lt hn).trans (h.f o), Nat.lt_of_lt_of_le h.lt hc.size⟩
theorem CameAt.set {cb n k : Nat} {cm : Nat → Bool} {W : World} (h : CameAt cb n cm W) : CameAt cb n (updB cm k) (W.setCell ⟨cb, k, none⟩ (.bool true)) := by
  refine ⟨fun j hj => ?_, fun o => ?_, ?_⟩
  · unfold updB
    by_cases e : j = k
    · subst e
      rw [if_pos rfl]
      exact World.cell?_setCell_same _ _ _ (h.c j hj)
    · rw [if_neg e, World.cell?_setCell_other _ _ _ _ (fun e' => e (by injection e' with _ e2 _; exact e2.symm))]
      exact h.c j hj
  · rw [World.frozen?_setCell]
    exact h.f o
  · rw [World.size_setCell]
    exact h.lt
def bgI : Option Nat → Int
  | none => -1
  | some b => b
/-- the state of the loop -/
def OnceAt (w : World) (base wn mb cb : Nat) (i : Nat) (bg : Option Nat) (wr : World) : Prop :=
  ∃ cm M s sd x ρ sv wv SB WB, OnceSt base wn bg cm i M s sd x ∧ MdAt wr ρ mb M sv wv SB WB ∧ (∀ b, b < w.heap.size → ρ b = 0) ∧ ρ cb = 0 ∧ CameAt cb wn cm wr ∧ Below w.heap.size w wr
theorem OnceAt.below {w wr w' : World} {base wn mb cb i : Nat} {bg : Option Nat} (h : OnceAt w base wn mb cb i bg wr) (hb : Below wr.heap.size wr w') : OnceAt w base wn mb cb i bg w' := by
  obtain ⟨cm, M, s, sd, x, ρ, sv, wv, SB, WB, h1, h2, h3, h4, h5, h6⟩ := h
  exact ⟨cm, M, s, sd, x, ρ, sv, wv, SB, WB, h1, h2.below hb, h3, h4, h5.chg (T := fun _ => False) (Chg.ofBelow hb) (fun e => e), h6.trans (hb.mono h6.size)⟩
/-- one more packet has come -/
theorem OnceAt.step {w wr w' : World} {base wn mb cb i k : Nat} {bg : Option Nat} {cm : Nat → Bool} {M : Md} {s : Stt} {sd : Sd} {x : Wn} {ρ : Nat → Nat} {tv cv : Value} {L : List ByteArray}
    (h1 : OnceSt base wn bg cm i M s sd x) (h3 : ∀ b, b < w.heap.size → ρ b = 0) (h4 : ρ cb = 0) (h5 : CameAt cb wn (updB cm k) wr) (h6 : Below w.heap.size w wr) (hw : wn ≤ 200) (hk : k < wn) (py : ByteArray)
    (h : MovedT wr w' ρ mb (packetM M (dataT (base + k) py) cv).1 tv L) :
    OnceAt w base wn mb cb (i + 1) (some (bg.getD k)) w' ∧ w'.ownsRow wr.heap.size 9 1 tv L.length (L.map Value.string) ∧ wr.heap.size ≤ w'.heap.size := by
  obtain ⟨ρ', sv', wv', SB', WB', a1, a2, a3, a4⟩ := h
  obtain ⟨⟨s', sd', x', b1⟩, -⟩ := once_step h1 hw hk py cv
  have hsz := h6.size
  refine ⟨⟨_, _, s', sd', x', ρ', sv', wv', SB', WB', b1, a1, fun b hb => a2.1 b (by omega) (h3 b hb), a2.1 cb h5.lt h4, h5.chg a2.2 (fun e => e h4), h6.trans (a2.2.below hsz (fun y hy => ?_))⟩, a3, a2.2.size⟩
  rcases Nat.lt_or_ge y w.heap.size with e | e
  · exact absurd (h3 y e) hy
  · exact e
theorem replicate_bool (n j : Nat) (h : j < n) : (madeCells (Value.bool false).cells (n * 1)).toList[j]? = some (Value.bool false) := by
  rw [show (Value.bool false).cells = #[Value.bool false] from rfl, toList_madeCells_one]
  simp [h]
end Pk
open Pk

set_option maxRecDepth 20000 in
set_option maxHeartbeats 8000000 in
theorem once_walk (first window : Int) (v : Value) (l : List Int) (w : World) (hv : IsInts w.heap.size w v l) (hf : -9223372036854775808 ≤ first ∧ first ≤ 9223372036854775807) (hwn : -9223372036854775808 ≤ window ∧ window ≤ 9223372036854775807) (hl : ∀ c ∈ l, -9223372036854775808 ≤ c ∧ c ≤ 9223372036854775807) (_hn : l.length ≤ maxLen) :
    Calls Try.prog 7 #[.int .i64 first, v, .int .i64 window] w fun e w' => e = .returned (.bool true) ∧ Below w.heap.size w w' := by
  obtain ⟨ao, cap, rfl, hc⟩ := hv
  have Hl : Hid (∀ c ∈ l, -9223372036854775808 ≤ c ∧ c ≤ 9223372036854775807) := hl
  have Hc : Hid (∀ j, j < l.length → ∃ b off, ao = some ⟨b, off, none⟩ ∧ b < w.heap.size ∧ w.cell? ⟨b, off + j, none⟩ = some (.int .i64 (l.getD j 0))) := hc
  unfold maxLen at _hn
  clear hl hc
  go_enter Try.func7, Try.ntmps7
  go_wp2_with fail
  refine (pick_any _ _ _ hwn.1 hwn.2 (by omega) (by omega)).mono ?_
  rintro e w1 ⟨rfl, hw1⟩
  rw [hw1]
  clear hw1 w1
  have p0 := pickF_lo window 200 (by omega)
  have p1 := pickF_hi window 200 (by omega)
  generalize pickF window 200 = pw at *
  obtain ⟨pn, rfl⟩ := Int.eq_ofNat_of_zero_le p0
  obtain ⟨wn, hwn1⟩ : ∃ wn : Nat, 1 + (pn : Int) = (wn : Int) := ⟨1 + pn, by omega⟩
  have hwl : 1 ≤ wn ∧ wn ≤ 200 := by omega
  have hww : IntKind.i64.wrap (1 + (pn : Int)) = (wn : Int) := by rw [i64_id _ (by omega) (by omega), hwn1]
  clear p0 p1 hwn1
  go_wp2_with fail
  refine (begun_any ⟨4, wn, 0, 0, 0, 1, 1⟩ _ (decide_eq_true (by simp only; omega))).mono ?_
  rintro e w2 ⟨mb, rfl, hb2, ρ, sv, wv, SB, WB, hM, hρ⟩
  have HB2 : Hid (Below w.heap.size w w2) := hb2
  have HM : Hid (MdAt w2 ρ mb (bM ⟨4, wn, 0, 0, 0, 1, 1⟩) sv wv SB WB) := hM
  have HP : Hid (∀ b, b < w.heap.size → ρ b = 0) := hρ
  clear hb2 hM hρ
  go_wp2_with fail
  refine (known_any _).mono ?_
  rintro e w3 ⟨rfl, hb3⟩
  have HB3 : Hid (Below w.heap.size w w3) := HB2.out.trans (hb3.mono HB2.out.size)
  have HM3 : Hid (MdAt w3 ρ mb (bM ⟨4, wn, 0, 0, 0, 1, 1⟩) sv wv SB WB) := HM.out.below hb3
  have hs3 := HB3.out.size
  clear hb3 HM
  go_wp2_with fail
  refine (pick_any _ _ _ hf.1 hf.2 (by omega) (by omega)).mono ?_
  rintro e w4 ⟨rfl, hw4⟩
  rw [hw4]
  clear hw4 w4
  have q0 := pickF_lo first 65536 (by omega)
  have q1 := pickF_hi first 65536 (by omega)
  generalize pickF first 65536 = pb at *
  obtain ⟨base, rfl⟩ := Int.eq_ofNat_of_zero_le q0
  obtain ⟨i0, hi0, hiz, his, hib⟩ : ∃ i0 : TypeInfo, Try.prog.info? 4 = some i0 ∧ i0.zero = some (.bool false) ∧ i0.size = 1 ∧ i0.bytes = 1 := ⟨_, rfl, rfl, rfl, rfl⟩
  have Hi0 : Hid (Try.prog.info? 4 = some i0 ∧ i0.zero = some (.bool false) ∧ i0.size = 1 ∧ i0.bytes = 1) := ⟨hi0, hiz, his, hib⟩
  have Hb0 : Hid (i0.bytes * wn ≤ 281474976710656) := by show _ ≤ _; rw [hib]; omega
  clear hi0 hiz his hib
  go_wp2_with (at_make; refine wpList_make_full _ rfl (.tmp 35) (.tmp 35) 64 rfl w.heap.size 4 i0 (.bool false) 1 Try.underlying64 Hi0.out.1 Hi0.out.2.1 Hi0.out.2.2.1 .i64 .i64 _ _ wn rfl rfl rfl rfl Hb0.out (by unfold maxLen; omega) hs3 ?_; intro w4 hown4 hg4; refine stop_here ?_)
  refine hid_in ?_
  have HB4 : Hid (Below w.heap.size w w4) := HB3.out.trans ((Chg.ofGrown hg4).below hs3 (fun x e => by cases e))
  have HR4 : Hid (CameAt w3.heap.size wn (fun _ => false) w4) := ⟨fun j hj => (hown4.cellAt j (by omega)).trans (replicate_bool wn j hj), fun o => hown4.frozenAt o, (hown4.lt w3.heap.size rfl).2⟩
  have HM4 : Hid (MdAt w4 ρ mb (bM ⟨4, wn, 0, 0, 0, 1, 1⟩) sv wv SB WB) := HM3.out.chg (Chg.ofGrown hg4) (fun b e => by cases e)
  have HO4 : Hid (OnceAt w base wn mb w3.heap.size 0 none w4) := ⟨fun _ => false, _, _, _, _, ρ, sv, wv, SB, WB, once_begin base wn, HM4.out, HP.out, HM3.out.hi _ (Nat.le_refl _), HR4.out, HB4.out⟩
  have hs4 := hg4.size
  have HCB : Hid (w.heap.size ≤ w3.heap.size) := hs3
  clear hown4 hg4 HM3 HM4 HR4 HB4 HB3 HB2 hs3
  generalize w3.heap.size = cb at *
  go_wp2
  go_loopw [11, 13] (fun s11 s13 wr => ∃ (i : Nat) (bg : Option Nat), i ≤ l.length ∧ i ≤ 100000 ∧ s13 = .int .i64 i ∧ s11 = .int .i64 (bgI bg) ∧ OnceAt w base wn mb cb i bg wr) (fun _ s13 _ => l.length - (intOf s13).toNat)
  case atStart => exact ⟨0, none, Nat.zero_le _, by omega, rfl, rfl, HO4.out⟩
  case round =>
    obtain ⟨i, bg, hil, hi5, rfl, rfl, hO⟩ := hrel
    have HO : Hid (OnceAt w base wn mb cb i bg wr) := hO
    clear hO
    by_cases hgo : i < l.length ∧ i < 100000
    · have h1 : (i : Int) < l.length := by omega
      have h2 : (i : Int) < 100000 := by omega
      obtain ⟨b, off, rfl, hb, hcell⟩ := Hc.out i hgo.1
      obtain ⟨cm, M, s, sd, x, ρ, sv, wv, SB, WB, o1, o2, o3, o4, o5, o6⟩ := HO.out
      have d0 : wr.cell? ⟨b, off + i, none⟩ = some (.int .i64 (l.getD i 0)) := (o6.cell (p := ⟨b, off + i, none⟩) hb).trans hcell
      have Hcr : Hid (-9223372036854775808 ≤ l.getD i 0 ∧ l.getD i 0 ≤ 9223372036854775807) := getD_in Hl.out i
      have O1 : Hid (OnceSt base wn bg cm i M s sd x) := o1
      have O2 : Hid (MdAt wr ρ mb M sv wv SB WB) := o2
      have O3 : Hid (∀ b, b < w.heap.size → ρ b = 0) := o3
      have O4 : Hid (ρ cb = 0) := o4
      have O5 : Hid (CameAt cb wn cm wr) := o5
      have O6 : Hid (Below w.heap.size w wr) := o6
      clear hcell o1 o2 o3 o4 o5 o6 HO
      generalize l.getD i 0 = ci at *
      go_wp2_with fail
      refine (pick_any ci wn _ Hcr.out.1 Hcr.out.2 (by omega) (by omega)).mono ?_
      rintro e wq ⟨rfl, hwq⟩
      rw [hwq]
      clear hwq wq
      go_simp
      have r0 := pickF_lo ci wn (by omega)
      have r1 := pickF_hi ci wn (by omega)
      generalize pickF ci (wn : Int) = pk at *
      obtain ⟨k, rfl⟩ := Int.eq_ofNat_of_zero_le r0
      have hk : k < wn := by omega
      have e0 := O5.out.c k hk
      have ef := O5.out.f k
      have hbk : IntKind.i64.wrap ((base : Int) + (k : Int)) = ((base + k : Nat) : Int) := by rw [i64_id _ (by omega) (by omega)]; rfl
      have hS := O5.out.set (k := k)
      have OM : Hid (MdAt (wr.setCell ⟨cb, k, none⟩ (.bool true)) ρ mb M sv wv SB WB) := O2.out.chg ((Chg.refl (fun b => b = cb) _).setCell ⟨cb, k, none⟩ (.inl rfl) _) (fun b e => by subst e; exact O4.out)
      have OS : Hid (CameAt cb wn (updB cm k) (wr.setCell ⟨cb, k, none⟩ (.bool true))) := hS
      have OB : Hid (Below w.heap.size w (wr.setCell ⟨cb, k, none⟩ (.bool true))) := O6.out.trans ((((Chg.refl (fun b => b = cb) wr).setCell ⟨cb, k, none⟩ (.inl rfl) (.bool true))).below O6.out.size (fun y e => by subst e; exact HCB.out))
      clear hS O2 O5 O6
      cases bg with
      | none =>
        have hst := O1.out.st
        have hcm : cm k = false := hst.2.2.2.2.2.2 k
        rw [hcm] at e0
        have HPS : Hid ((none : Option Nat).getD k ≤ k ∧ cm k = false) := ⟨Nat.le_refl _, hcm⟩
        clear hst hcm
        rw [show bgI none = -1 from rfl]
        go_wp2_with fail
        refine (data_any (base + k) ⟨#[120]⟩ _ (by omega) (by unfold maxLen; decide)).mono ?_
        rintro e w5 ⟨rfl, hb5⟩
        have OM5 : Hid (MdAt w5 ρ mb M sv wv SB WB) := OM.out.below hb5
        have OS5 : Hid (CameAt cb wn (updB cm k) w5) := OS.out.chg (T := fun _ => False) (Chg.ofBelow hb5) (fun e => e)
        have OB5 : Hid (Below w.heap.size w w5) := OB.out.trans (hb5.mono OB.out.size)
        clear hb5 OM OS OB
        have Hok : Hid (MOk M) := O1.out.ok hwl.1 hwl.2 (by omega)
        have Hst : Hid (∀ cv, (packetM M (dataT (base + k) ⟨#[120]⟩) cv).2.2 = 0 ∧ (packetM M (dataT (base + k) ⟨#[120]⟩) cv).2.1 = [textOf x (dataP (base + k) ⟨#[120]⟩)]) := fun cv => by
          obtain ⟨-, a1, a2, -⟩ := once_step O1.out hwl.2 hk ⟨#[120]⟩ cv
          refine ⟨a1, a2.trans ?_⟩
          exact if_pos HPS.out
        have Hmv : Hid (∀ (w' : World) (tv cv : Value) (L : List ByteArray), MovedT w5 w' ρ mb (packetM M (dataT (base + k) ⟨#[120]⟩) cv).1 tv L → OnceAt w base wn mb cb (i + 1) (some k) w' ∧ w'.ownsRow w5.heap.size 9 1 tv L.length (L.map Value.string) ∧ w5.heap.size ≤ w'.heap.size) := fun w' tv cv L h => OnceAt.step O1.out O3.out O4.out OS5.out OB5.out hwl.2 hk ⟨#[120]⟩ h
        have hds := (dataT_read (base + k) ⟨#[120]⟩).2
        have Hnum : Hid (numOf x ((base + k) % 65536) = (65530 + k - k) % 65536) := (once_step O1.out hwl.2 hk ⟨#[120]⟩ (.bool true)).2.2.2 HPS.out.1
        obtain ⟨htr, hts⟩ := textOf_read x (base + k) ⟨#[120]⟩ (by rw [O1.out.pl]; decide) (by rw [O1.out.src]; decide)
        rw [Hnum.out, O1.out.pl, O1.out.src] at htr
        have Htr : Hid (readP (textOf x (dataP (base + k) ⟨#[120]⟩)) = some ⟨false, false, 100, (((65530 + k - k) % 65536 : Nat) : Int), 5, 7, 0, 0, [], ⟨#[]⟩, ⟨#[120]⟩⟩) := htr
        generalize textOf x (dataP (base + k) ⟨#[120]⟩) = tx at *
        clear htr Hnum
        rw [show (65530 + k - k) % 65536 = 65530 by omega] at Htr
        generalize dataT (base + k) ⟨#[120]⟩ = dt at *
        go_wp2_with fail
        refine (packet_any ρ mb M sv wv SB WB dt _ OM5.out Hok.out (by unfold maxLen; omega)).mono ?_
        rintro e w6 ⟨cv, tv, rfl, hmv⟩
        obtain ⟨a1, a2⟩ := Hst.out cv
        obtain ⟨hO6, hrow, hs6⟩ := Hmv.out w6 tv cv _ hmv
        rw [a2] at hrow
        rw [a1]
        have HO6 : Hid (OnceAt w base wn mb cb (i + 1) (some k) w6) := hO6
        clear hmv a1 a2 hO6 Hst Hmv
        obtain ⟨g, cap, rfl, hcell, hg⟩ := row_one hrow
        clear hrow
        go_wp2_with fail
        refine (parsePacket_any tx _ (by unfold maxLen; omega)).mono ?_
        rintro e w7 ⟨hb7, hr7⟩
        rw [Htr.out] at hr7
        obtain ⟨v7, he7, hown7⟩ := hr7
        obtain ⟨a7, c7, hv7⟩ := hown7.shape
        subst hv7
        simp only [okV] at he7
        subst he7
        have HO7 : Hid (OnceAt w base wn mb cb (i + 1) (some k) w7) := HO6.out.below hb7
        clear hb7 hown7 hcell HO6
        go_wp2
        go_roundw
        case rel => exact ⟨i + 1, some k, by omega, by omega, by go_num, rfl, HO7.out.below ((Below.refl _ _).alloc (Nat.le_refl _) _)⟩
        case measure => simp [intOf]; omega
      | some b0 =>
        rw [show bgI (some b0) = (b0 : Int) from rfl]
        have hbn : ¬ (b0 : Int) < 0 := by omega
        by_cases hkb : b0 ≤ k
        · have hkb' : (b0 : Int) ≤ (k : Int) := by omega
          cases hcm : cm k with
          | false =>
            rw [hcm] at e0
            have HPS : Hid ((some b0).getD k ≤ k ∧ cm k = false) := ⟨hkb, hcm⟩
            clear hcm
            go_wp2_with fail
            refine (data_any (base + k) ⟨#[120]⟩ _ (by omega) (by unfold maxLen; decide)).mono ?_
            rintro e w5 ⟨rfl, hb5⟩
            have OM5 : Hid (MdAt w5 ρ mb M sv wv SB WB) := OM.out.below hb5
            have OS5 : Hid (CameAt cb wn (updB cm k) w5) := OS.out.chg (T := fun _ => False) (Chg.ofBelow hb5) (fun e => e)
            have OB5 : Hid (Below w.heap.size w w5) := OB.out.trans (hb5.mono OB.out.size)
            clear hb5 OM OS OB
            have Hok : Hid (MOk M) := O1.out.ok hwl.1 hwl.2 (by omega)
            have Hst : Hid (∀ cv, (packetM M (dataT (base + k) ⟨#[120]⟩) cv).2.2 = 0 ∧ (packetM M (dataT (base + k) ⟨#[120]⟩) cv).2.1 = [textOf x (dataP (base + k) ⟨#[120]⟩)]) := fun cv => by
              obtain ⟨-, a1, a2, -⟩ := once_step O1.out hwl.2 hk ⟨#[120]⟩ cv
              refine ⟨a1, a2.trans ?_⟩
              exact if_pos HPS.out
            have Hmv : Hid (∀ (w' : World) (tv cv : Value) (L : List ByteArray), MovedT w5 w' ρ mb (packetM M (dataT (base + k) ⟨#[120]⟩) cv).1 tv L → OnceAt w base wn mb cb (i + 1) (some b0) w' ∧ w'.ownsRow w5.heap.size 9 1 tv L.length (L.map Value.string) ∧ w5.heap.size ≤ w'.heap.size) := fun w' tv cv L h => OnceAt.step O1.out O3.out O4.out OS5.out OB5.out hwl.2 hk ⟨#[120]⟩ h
            have hds := (dataT_read (base + k) ⟨#[120]⟩).2
            have Hnum : Hid (numOf x ((base + k) % 65536) = (65530 + k - b0) % 65536) := (once_step O1.out hwl.2 hk ⟨#[120]⟩ (.bool true)).2.2.2 HPS.out.1
            obtain ⟨htr, hts⟩ := textOf_read x (base + k) ⟨#[120]⟩ (by rw [O1.out.pl]; decide) (by rw [O1.out.src]; decide)
            rw [Hnum.out, O1.out.pl, O1.out.src] at htr
            have Htr : Hid (readP (textOf x (dataP (base + k) ⟨#[120]⟩)) = some ⟨false, false, 100, (((65530 + k - b0) % 65536 : Nat) : Int), 5, 7, 0, 0, [], ⟨#[]⟩, ⟨#[120]⟩⟩) := htr
            generalize textOf x (dataP (base + k) ⟨#[120]⟩) = tx at *
            clear htr Hnum
            obtain ⟨nq, hnq⟩ : ∃ nq : Nat, (65530 + k - b0) % 65536 = nq := ⟨_, rfl⟩
            rw [hnq] at Htr
            have hm1 : (65530 + (k : Int) - (b0 : Int)).tmod 65536 = (nq : Int) := by rw [Int.tmod_eq_emod_of_nonneg (by omega)]; omega
            have hm2 : (65530 + (k : Int) - (b0 : Int)) % 65536 = (nq : Int) := by omega
            clear hnq
            generalize dataT (base + k) ⟨#[120]⟩ = dt at *
            go_wp2_with fail
            refine (packet_any ρ mb M sv wv SB WB dt _ OM5.out Hok.out (by unfold maxLen; omega)).mono ?_
            rintro e w6 ⟨cv, tv, rfl, hmv⟩
            obtain ⟨a1, a2⟩ := Hst.out cv
            obtain ⟨hO6, hrow, hs6⟩ := Hmv.out w6 tv cv _ hmv
            rw [a2] at hrow
            rw [a1]
            have HO6 : Hid (OnceAt w base wn mb cb (i + 1) (some b0) w6) := hO6
            clear hmv a1 a2 hO6 Hst Hmv
            obtain ⟨g, cap, rfl, hcell, hg⟩ := row_one hrow
            clear hrow
            go_wp2_with fail
            refine (parsePacket_any tx _ (by unfold maxLen; omega)).mono ?_
            rintro e w7 ⟨hb7, hr7⟩
            rw [Htr.out] at hr7
            obtain ⟨v7, he7, hown7⟩ := hr7
            obtain ⟨a7, c7, hv7⟩ := hown7.shape
            subst hv7
            simp only [okV] at he7
            subst he7
            have HO7 : Hid (OnceAt w base wn mb cb (i + 1) (some b0) w7) := HO6.out.below hb7
            clear hb7 hown7 hcell HO6
            go_wp2
            go_roundw
            case rel => exact ⟨i + 1, some b0, by omega, by omega, by go_num, rfl, HO7.out.below ((Below.refl _ _).alloc (Nat.le_refl _) _)⟩
            case measure => simp [intOf]; omega
          | true =>
            rw [hcm] at e0
            have HPS : Hid (¬ ((some b0).getD k ≤ k ∧ cm k = false)) := fun h => by rw [hcm] at h; exact absurd h.2 (by decide)
            clear hcm
            go_wp2_with fail
            refine (data_any (base + k) ⟨#[120]⟩ _ (by omega) (by unfold maxLen; decide)).mono ?_
            rintro e w5 ⟨rfl, hb5⟩
            have OM5 : Hid (MdAt w5 ρ mb M sv wv SB WB) := OM.out.below hb5
            have OS5 : Hid (CameAt cb wn (updB cm k) w5) := OS.out.chg (T := fun _ => False) (Chg.ofBelow hb5) (fun e => e)
            have OB5 : Hid (Below w.heap.size w w5) := OB.out.trans (hb5.mono OB.out.size)
            clear hb5 OM OS OB
            have Hok : Hid (MOk M) := O1.out.ok hwl.1 hwl.2 (by omega)
            have Hst : Hid (∀ cv, (packetM M (dataT (base + k) ⟨#[120]⟩) cv).2.2 = 0 ∧ (packetM M (dataT (base + k) ⟨#[120]⟩) cv).2.1 = []) := fun cv => by
              obtain ⟨-, a1, a2, -⟩ := once_step O1.out hwl.2 hk ⟨#[120]⟩ cv
              refine ⟨a1, a2.trans ?_⟩
              exact if_neg HPS.out
            have Hmv : Hid (∀ (w' : World) (tv cv : Value) (L : List ByteArray), MovedT w5 w' ρ mb (packetM M (dataT (base + k) ⟨#[120]⟩) cv).1 tv L → OnceAt w base wn mb cb (i + 1) (some b0) w' ∧ w'.ownsRow w5.heap.size 9 1 tv L.length (L.map Value.string) ∧ w5.heap.size ≤ w'.heap.size) := fun w' tv cv L h => OnceAt.step O1.out O3.out O4.out OS5.out OB5.out hwl.2 hk ⟨#[120]⟩ h
            have hds := (dataT_read (base + k) ⟨#[120]⟩).2
            generalize dataT (base + k) ⟨#[120]⟩ = dt at *
            go_wp2_with fail
            refine (packet_any ρ mb M sv wv SB WB dt _ OM5.out Hok.out (by unfold maxLen; omega)).mono ?_
            rintro e w6 ⟨cv, tv, rfl, hmv⟩
            obtain ⟨a1, a2⟩ := Hst.out cv
            obtain ⟨hO6, hrow, hs6⟩ := Hmv.out w6 tv cv _ hmv
            rw [a2] at hrow
            rw [a1]
            have HO6 : Hid (OnceAt w base wn mb cb (i + 1) (some b0) w6) := hO6
            clear hmv a1 a2 hO6 Hst Hmv
            obtain ⟨a6, c6, rfl⟩ := row_none hrow
            clear hrow
            go_wp2
            go_roundw
            case rel => exact ⟨i + 1, some b0, by omega, by omega, by go_num, rfl, HO6.out⟩
            case measure => simp [intOf]; omega
        · have hkb' : ¬ (b0 : Int) ≤ (k : Int) := by omega
          have HPS : Hid (¬ ((some b0).getD k ≤ k ∧ cm k = false)) := fun h => hkb h.1
          go_wp2_with fail
          refine (data_any (base + k) ⟨#[120]⟩ _ (by omega) (by unfold maxLen; decide)).mono ?_
          rintro e w5 ⟨rfl, hb5⟩
          have OM5 : Hid (MdAt w5 ρ mb M sv wv SB WB) := OM.out.below hb5
          have OS5 : Hid (CameAt cb wn (updB cm k) w5) := OS.out.chg (T := fun _ => False) (Chg.ofBelow hb5) (fun e => e)
          have OB5 : Hid (Below w.heap.size w w5) := OB.out.trans (hb5.mono OB.out.size)
          clear hb5 OM OS OB
          have Hok : Hid (MOk M) := O1.out.ok hwl.1 hwl.2 (by omega)
          have Hst : Hid (∀ cv, (packetM M (dataT (base + k) ⟨#[120]⟩) cv).2.2 = 0 ∧ (packetM M (dataT (base + k) ⟨#[120]⟩) cv).2.1 = []) := fun cv => by
            obtain ⟨-, a1, a2, -⟩ := once_step O1.out hwl.2 hk ⟨#[120]⟩ cv
            refine ⟨a1, a2.trans ?_⟩
            exact if_neg HPS.out
          have Hmv : Hid (∀ (w' : World) (tv cv : Value) (L : List ByteArray), MovedT w5 w' ρ mb (packetM M (dataT (base + k) ⟨#[120]⟩) cv).1 tv L → OnceAt w base wn mb cb (i + 1) (some b0) w' ∧ w'.ownsRow w5.heap.size 9 1 tv L.length (L.map Value.string) ∧ w5.heap.size ≤ w'.heap.size) := fun w' tv cv L h => OnceAt.step O1.out O3.out O4.out OS5.out OB5.out hwl.2 hk ⟨#[120]⟩ h
          have hds := (dataT_read (base + k) ⟨#[120]⟩).2
          generalize dataT (base + k) ⟨#[120]⟩ = dt at *
          go_wp2_with fail
          refine (packet_any ρ mb M sv wv SB WB dt _ OM5.out Hok.out (by unfold maxLen; omega)).mono ?_
          rintro e w6 ⟨cv, tv, rfl, hmv⟩
          obtain ⟨a1, a2⟩ := Hst.out cv
          obtain ⟨hO6, hrow, hs6⟩ := Hmv.out w6 tv cv _ hmv
          rw [a2] at hrow
          rw [a1]
          have HO6 : Hid (OnceAt w base wn mb cb (i + 1) (some b0) w6) := hO6
          clear hmv a1 a2 hO6 Hst Hmv
          obtain ⟨a6, c6, rfl⟩ := row_none hrow
          clear hrow
          go_wp2
          go_roundw
          case rel => exact ⟨i + 1, some b0, by omega, by omega, by go_num, rfl, HO6.out⟩
          case measure => simp [intOf]; omega
    · by_cases h1 : (i : Int) < l.length
      · have h2 : ¬ (i : Int) < 100000 := by omega
        obtain ⟨_, _, _, _, _, _, _, _, _, _, _, _, _, _, _, o6⟩ := HO.out
        have O6 : Hid (Below w.heap.size w wr) := o6
        clear o6
        go_wp2
        go_ret
        exact ⟨rfl, O6.out⟩
      · obtain ⟨_, _, _, _, _, _, _, _, _, _, _, _, _, _, _, o6⟩ := HO.out
        have O6 : Hid (Below w.heap.size w wr) := o6
        clear o6
        go_wp2
        go_ret
        exact ⟨rfl, O6.out⟩

end Go.Proofs.Ytdjhhnolcafkiaa

/-
  Whatever first number, whatever offsets and whatever window it is given, menderkeep.Once returns true and leaves its arguments as they were: of packets within one window each goes to the want once, when it comes first, if it is not behind the one that came first of all, and then is as far from that one as it was. No condition beyond the row's own.
-/
namespace Go.Proofs.Ytdjhhnolcafkiaa
open Go.ChangeShapes Go.WideShapes Go.ChangeAt Go.RowKit
open Go.ChangeMaps (open_string shut_string)
namespace Oc

theorem own : ownKnob Try.prog.godebug = none := by kernel_rfl
theorem laidOut : laidOutB Try.prog = true := by kernel_rfl

theorem wf64 {n : Int} (h : (Lit.int .i64 n).wf = true) : -9223372036854775808 ≤ n ∧ n ≤ 9223372036854775807 := by
  simp only [Lit.wf, IntKind.min, IntKind.max, IntKind.signed, IntKind.bits, Bool.and_eq_true, decide_eq_true_eq, if_true] at h
  omega

section
variable {H : Type} {enc : TypeId × Value → H} {W : World} {base : Nat} {spare : Nat → Bool} {held : Bool}

/-- a list of numbers that came in -/
theorem ints_in {fuel : Nat} {c : Value} {x : DataW H × List MemPlace} (h : DataW.trod enc Try.prog W base spare held fuel 27 [c] = some x) :
    ∃ l : List Int, Pk.IsInts W.heap.size W c l ∧ l.length ≤ maxLen ∧ ∀ n ∈ l, -9223372036854775808 ≤ n ∧ n ≤ 9223372036854775807 := by
  rcases open_ints Try.underlying27 Try.underlying3 (by kernel_rfl) h with ⟨hcs, _⟩ | ⟨a, len, cap, zs, hcs, _, hl, hm, hz, _, hcell, hwz⟩
  · simp only [List.cons.injEq, and_true] at hcs
    subst hcs
    exact ⟨[], ⟨none, 0, rfl, fun j hj => absurd hj (by simp)⟩, Nat.zero_le _, by simp⟩
  · simp only [List.cons.injEq, and_true] at hcs
    subst hcs
    have hlz : len ≤ zs.length := by split at hz <;> omega
    have hlen : (zs.take len).length = len := by rw [List.length_take]; omega
    refine ⟨zs.take len, ⟨some a, cap, by rw [hlen], fun j hj => ?_⟩, by omega, fun n hn => wf64 (hwz n (List.mem_of_mem_take hn))⟩
    rw [hlen] at hj
    obtain ⟨b, off, rfl, hcells⟩ := ints_at hcell (by omega)
    have h1 := hcells j (by omega)
    refine ⟨b, off, rfl, Pk.lt_of_cell h1, ?_⟩
    rw [h1]
    simp [List.getD, hj]
end

set_option maxRecDepth 100000 in
theorem lifted (os : Os) (started : os.Started) (H : Type) (enc : TypeId × Value → H) :
    ReturnsInHanded {} Try.checked os 7 .any (Rows.onceSpec.pre6 enc Try.prog Try.f7 Rows.onceRow.domain false) (Rows.onceSpec.post enc Try.prog Try.f7 false true false false) := by
  refine returnsInHanded_of_change (C := Try.checked) own started (by kernel_rfl) Try.func7
    (ChangeSpec.witness6 (enc := enc) (C := Try.checked) false ⟨#[], #[.int .i64 0, .slice none 0 0, .int .i64 0], []⟩ 8 (by kernel_rfl) (by kernel_rfl) (by kernel_rfl) (by kernel_rfl)) ?_
  intro W base args ds gs before hval0 hW hcnd _
  have hval : ∀ (j : Nat) t v, Try.f7.params[j]? = some t → args[j]? = some v → Value.okWide Try.prog W .any base t v := hval0
  have hW' := hW
  obtain ⟨p, q, hA0, hV, rfl, hfz, hnd⟩ := hW
  have hA : DataW.TrodAll enc Try.prog W 0 (fun _ => true) true Try.f7.params.toList args.toList ds p := hA0
  rw [Try.params7] at hA hval
  obtain ⟨v0, vs0, d0, ds0, p0, q0, hargs, rfl, rfl, h0, r0⟩ := trodAll_cons hA
  obtain ⟨v1, vs1, d1, ds1, p1, q1, rfl, rfl, rfl, h1, r1⟩ := trodAll_cons r0
  obtain ⟨v2, vs2, d2, ds2, p2, q2, rfl, rfl, rfl, h2, r2⟩ := trodAll_cons r1
  obtain ⟨rfl, rfl, rfl⟩ := trodAll_nil r2
  obtain rfl : args = #[v0, v1, v2] := by cases args; simp_all
  obtain ⟨rfl, rfl⟩ := trodVars_none hV
  have k1 := h1
  have lt1 : ∀ x ∈ p1, x.block < W.heap.size := by obtain ⟨m, hm⟩ := k1; exact DataW.trod_lt m _ _ _ hm
  obtain ⟨n0, rfl, rfl, rfl, w0⟩ := open_int Try.underlying3 (hval 0 3 v0 rfl rfl) h0
  obtain ⟨n2, rfl, rfl, rfl, w2⟩ := open_int Try.underlying3 (hval 2 3 v2 rfl rfl) h2
  obtain ⟨_, _, _, rfl⟩ := okWide_slice Try.underlying27 (hval 1 27 v1 rfl rfl)
  obtain ⟨_, f1⟩ := h1
  obtain ⟨l, l1, l2, l3⟩ := ints_in f1
  clear hA0 hval0
  refine (once_walk n0 n2 _ l W l1 (wf64 w0) (wf64 w2) l3 l2).mono fun e W' ⟨he, bel⟩ => ?_
  subst he
  exact ⟨_, rfl, _, _, _, [], _, [], hW', trodAll_mk1 (shut_bool Try.underlying4 _), (trodAll_cons_mk (shut_int Try.underlying3 w0) (trodAll_cons_mk (Below.trod laidOut (by kernel_rfl) (of_decide_eq_true (by kernel_rfl)) k1 bel lt1) (trodAll_cons_mk (shut_int Try.underlying3 w2) trodAll_mk0))), rfl, bel.frame _, fun h => by cases h⟩

end Oc

theorem once_holds : Rows.OnceSaid :=
  OpenClaim.holds_of_wide 7 Try.f7 rfl rfl rfl rfl rfl rfl rfl ⟨rfl, rfl, rfl, rfl, rfl⟩ rfl rfl rfl rfl rfl (by kernel_rfl) Try.func7 (by kernel_rfl)
    (of_decide_eq_true (by kernel_rfl)) (by unfold Func.isWrapper; first | (rw [if_pos (by decide +kernel)]; kernel_rfl) | (rw [if_neg (by decide +kernel)]; exact ⟨rfl, rfl⟩))
    (fun os started H enc _ => Oc.lifted os started H enc)

end Go.Proofs.Ytdjhhnolcafkiaa

/- Arguments that came in, of a bulk that is bounded: plain facts. -/
namespace Go.Proofs.Ytdjhhnolcafkiaa
open Go.ChangeShapes Go.WideShapes Go.ChangeAt Go.RowKit Go.Deep
namespace Up

theorem own : ownKnob Try.prog.godebug = none := by kernel_rfl
theorem laidOut : laidOutB Try.prog = true := by kernel_rfl

/-! what the bound gives -/
theorem bulk_pos {H : Type} (d : DataW H) : 0 < Rows.uptoBulk d := by
  cases d with
  | lit l => cases l <;> simp [Rows.uptoBulk]
  | _ => simp [Rows.uptoBulk]
theorem bulk_len {H : Type} : ∀ l : List (DataW H), l.length ≤ Rows.uptoBulkAll l
  | [] => Nat.zero_le _
  | d :: r => by have h1 := bulk_len r; have h2 := bulk_pos d; rw [Rows.uptoBulkAll, List.length_cons]; omega
theorem bulk_mem {H : Type} {d : DataW H} : ∀ {l : List (DataW H)}, d ∈ l → Rows.uptoBulk d ≤ Rows.uptoBulkAll l
  | x :: r, h => by
    rw [Rows.uptoBulkAll]
    rcases List.mem_cons.1 h with rfl | h
    · omega
    · have := bulk_mem h; omega
theorem bulk_row {H : Type} (a b : List (DataW H)) : Rows.uptoBulkAll a + 1 ≤ Rows.uptoBulk (.slice a b) := by rw [Rows.uptoBulk]; omega
theorem bulk_agg {H : Type} (a : List (DataW H)) : Rows.uptoBulkAll a ≤ Rows.uptoBulk (.agg a) := by rw [Rows.uptoBulk]; omega

section
variable {H : Type} {enc : TypeId × Value → H} {W : World} {base : Nat} {spare : Nat → Bool} {held : Bool}

theorem text_in {fuel : Nat} {c : Value} {x : DataW H × List MemPlace} (h : DataW.trod enc Try.prog W base spare held fuel 9 [c] = some x) : ∃ s : ByteArray, c = .string s ∧ s.size + 1 ≤ Rows.uptoBulk x.1 := by
  obtain ⟨s, e, hx, _⟩ := DataW.trod_string Try.underlying9 h
  simp only [List.cons.injEq, and_true] at e
  refine ⟨s, e, ?_⟩
  rw [hx, Rows.uptoBulk, Lib.size_eq]
  exact Nat.le_refl _

/-- the texts that came in -/
theorem texts_in {fuel : Nat} {c : Value} {x : DataW H × List MemPlace} (h : DataW.trod enc Try.prog W base spare held fuel 22 [c] = some x) (hk : Rows.uptoBulk x.1 ≤ 1048576) :
    ∃ ta tn tc, c = .slice ta tn tc ∧ tn ≤ 1048576 ∧ ∀ i, i < tn → ∃ b off s, ta = some ⟨b, off, none⟩ ∧ b < W.heap.size ∧ W.cell? ⟨b, off + i, none⟩ = some (.string s) ∧ s.size ≤ 1048576 := by
  rcases open_slice1 Try.underlying22 (by kernel_rfl) h with ⟨hcs, _⟩ | ⟨a, len, cap, m, n, V, D, Pl, hcs, _, hl, hm, hmm, rfl, hx⟩
  · simp only [List.cons.injEq, and_true] at hcs
    exact ⟨none, 0, 0, hcs, Nat.zero_le _, fun i hi => absurd hi (by omega)⟩
  · simp only [List.cons.injEq, and_true] at hcs
    have hlm : len ≤ m := by rw [hmm]; split <;> omega
    have hb1 := bulk_row ((List.range len).map D) ((List.range (m - len)).map fun j => D (len + j))
    have hb2 := bulk_len ((List.range len).map D)
    rw [List.length_map, List.length_range] at hb2
    simp only at hk
    refine ⟨some a, len, cap, hcs, by omega, fun i hi => ?_⟩
    obtain ⟨h1, h2⟩ := hx i (by omega)
    obtain ⟨s, hs, hsb⟩ := text_in h2
    have hb3 := bulk_mem (d := D i) (l := (List.range len).map D) (List.mem_map.2 ⟨i, List.mem_range.2 hi, rfl⟩)
    obtain ⟨b, off, spot⟩ := a
    have hspot : spot = none := by simpa [Addr.add] using World.cell?_spot (hx 0 (by omega)).1
    subst hspot
    rw [add_plain, hs] at h1
    exact ⟨b, off, s, rfl, Pk.lt_of_cell h1, h1, by simp only at hsb; omega⟩

/-- a list of numbers that came in -/
theorem ints_in {fuel : Nat} {c : Value} {x : DataW H × List MemPlace} (h : DataW.trod enc Try.prog W base spare held fuel 27 [c] = some x) :
    ∃ l : List Int, Pk.IsInts W.heap.size W c l ∧ l.length ≤ Rows.uptoBulk x.1 := by
  rcases open_ints Try.underlying27 Try.underlying3 (by kernel_rfl) h with ⟨hcs, _⟩ | ⟨a, len, cap, zs, hcs, _, hl, hm, hz, _, hcell, hwz⟩
  · simp only [List.cons.injEq, and_true] at hcs
    subst hcs
    exact ⟨[], ⟨none, 0, rfl, fun j hj => absurd hj (by simp)⟩, Nat.zero_le _⟩
  · simp only [List.cons.injEq, and_true] at hcs
    subst hcs
    have hlz : len ≤ zs.length := by split at hz <;> omega
    have hlen : (zs.take len).length = len := by rw [List.length_take]; omega
    have hbk : len ≤ Rows.uptoBulk x.1 := by
      rcases open_slice1 Try.underlying27 (by kernel_rfl) h with ⟨hcs, _⟩ | ⟨a', len', cap', m, n, V, D, Pl, hcs, _, hl', hm', hmm, rfl, hx⟩
      · simp at hcs
      · simp only [List.cons.injEq, and_true, Value.slice.injEq] at hcs
        have hb1 := bulk_row ((List.range len').map D) ((List.range (m - len')).map fun j => D (len' + j))
        have hb2 := bulk_len ((List.range len').map D)
        rw [List.length_map, List.length_range] at hb2
        have := hcs.2.1
        simp only
        omega
    refine ⟨zs.take len, ⟨some a, cap, by rw [hlen], fun j hj => ?_⟩, by rw [hlen]; exact hbk⟩
    rw [hlen] at hj
    obtain ⟨b, off, rfl, hcells⟩ := ints_at hcell (by omega)
    have h1 := hcells j (by omega)
    refine ⟨b, off, rfl, Pk.lt_of_cell h1, ?_⟩
    rw [h1]
    simp [List.getD, hj]

end

end Up
end Go.Proofs.Ytdjhhnolcafkiaa

/- Steps that came in. -/
namespace Go.Proofs.Ytdjhhnolcafkiaa
open Go.ChangeShapes Go.WideShapes Go.ChangeAt Go.RowKit Go.Deep
namespace Stp
open Pk Oc

theorem list_of {α : Type} (P : Nat → α → Prop) : ∀ n : Nat, (∀ i, i < n → ∃ a, P i a) → ∃ l : List α, l.length = n ∧ ∀ i a, l[i]? = some a → P i a
  | 0, _ => ⟨[], rfl, fun i a h => by simp at h⟩
  | n + 1, h => by
    obtain ⟨l, h1, h2⟩ := list_of P n (fun i hi => h i (by omega))
    obtain ⟨a, ha⟩ := h n (by omega)
    refine ⟨l ++ [a], by simp [h1], fun i b hb => ?_⟩
    by_cases hi : i < n
    · rw [List.getElem?_append_left (by omega)] at hb
      exact h2 i b hb
    · rw [List.getElem?_append_right (by omega)] at hb
      have hlt : i - l.length < 1 := by
        have := (List.getElem?_eq_some_iff.1 hb).1
        simpa using this
      obtain rfl : i = n := by omega
      rw [h1, Nat.sub_self] at hb
      simp at hb
      rw [← hb]
      exact ha

section
variable {H : Type} {enc : TypeId × Value → H} {W : World} {base : Nat} {spare : Nat → Bool} {held : Bool}

theorem list3 {cs : List Value} (h : cs.length = 3) : ∃ c0 c1 c2, cs = [c0, c1, c2] := by
  match cs, h with
  | [c0, c1, c2], _ => exact ⟨c0, c1, c2, rfl⟩

set_option maxRecDepth 100000 in
theorem step_in {fuel : Nat} {cs : List Value} {x : DataW H × List MemPlace} (h : DataW.trod enc Try.prog W base spare held fuel 73 cs = some x) :
    ∃ r : StepR, cs = [.int .i64 r.what, .int .i64 r.n, .string r.py] ∧ StOk r := by
  have hC : Try.prog.cellsOf 73 = 3 := by kernel_rfl
  obtain ⟨xs, n, _, rfl, hcl, hxl, hx⟩ := DataW.trod_struct Try.underlying73 h
  obtain ⟨c0, c1, c2, rfl⟩ := list3 (hcl.trans hC)
  have k3 : Try.prog.cellsOf 3 = 1 := by kernel_rfl
  have k27 : Try.prog.cellsOf 9 = 1 := by kernel_rfl
  have hlen : xs.length = 3 := hxl
  have at_ : ∀ i, i < 3 → ∃ y, xs[i]? = some y := fun i hi => ⟨xs[i], List.getElem?_eq_getElem (by omega)⟩
  obtain ⟨z0, g0⟩ := at_ 0 (by omega); obtain ⟨z1, g1⟩ := at_ 1 (by omega); obtain ⟨z2, g2⟩ := at_ 2 (by omega)
  have e0 := (hx 0 _ rfl).trans g0; have e1 := (hx 1 _ rfl).trans g1; have e2 := (hx 2 _ rfl).trans g2
  simp [k3, k27] at e0 e1 e2
  obtain ⟨se, m0, _, w0⟩ := DataW.trod_int Try.underlying3 e0
  obtain ⟨so, m1, _, w1⟩ := DataW.trod_int Try.underlying3 e1
  obtain ⟨py, m2, _, w2⟩ := DataW.trod_string Try.underlying9 e2
  simp only [List.cons.injEq, and_true] at m0 m1 m2
  subst m0 m1 m2
  exact ⟨⟨se, so, py⟩, rfl, wf64 w0, wf64 w1, w2⟩

/-- the steps that came in -/
theorem steps_in {fuel : Nat} {c : Value} {x : DataW H × List MemPlace} (h : DataW.trod enc Try.prog W base spare held fuel 69 [c] = some x) :
    ∃ l : List StepR, IsSteps W.heap.size W c l ∧ l.length ≤ maxLen ∧ ∀ r ∈ l, StOk r := by
  have hC : Try.prog.cellsOf 73 = 3 := by kernel_rfl
  rcases open_slice Try.underlying69 h with ⟨hcs, _⟩ | ⟨a, len, cap, m, n, D, Pl, hcs, _, hl, hm, hmm, rfl, hx⟩
  · simp only [List.cons.injEq, and_true] at hcs
    subst hcs
    exact ⟨[], ⟨none, 0, rfl, fun j r hj => by simp at hj⟩, Nat.zero_le _, by simp⟩
  · simp only [List.cons.injEq, and_true] at hcs
    subst hcs
    have hlm : len ≤ m := by rw [hmm]; split <;> omega
    have key : ∀ i, i < len → ∃ r : StepR, StOk r ∧ ∃ b off, a = ⟨b, off, none⟩ ∧ b < W.heap.size ∧ W.cell? ⟨b, off + i * 3, none⟩ = some (.int .i64 r.what) ∧ W.cell? ⟨b, off + i * 3 + 1, none⟩ = some (.int .i64 r.n) ∧ W.cell? ⟨b, off + i * 3 + 2, none⟩ = some (.string r.py) := fun i hi => by
      obtain ⟨cs', h1, h2⟩ := hx i (by omega)
      rw [hC] at h1
      obtain ⟨r, rfl, r1⟩ := step_in h2
      obtain ⟨_, _, hcell⟩ := World.cells?_some h1
      obtain ⟨b, off, spot⟩ := a
      have hspot : spot = none := by
        obtain ⟨cs0, h10, _⟩ := hx 0 (by omega)
        obtain ⟨_, hl0, hc0⟩ := World.cells?_some h10
        have h := (hc0 0 (by omega)).trans (List.getElem?_eq_getElem (by omega))
        simpa [Addr.add] using World.cell?_spot h
      subst hspot
      rw [add_plain] at hcell
      have at_ : ∀ k v, k < 3 → [Value.int .i64 r.what, .int .i64 r.n, .string r.py][k]? = some v → W.cell? ⟨b, off + i * 3 + k, none⟩ = some v := fun k v hk hv => by
        have := hcell k hk
        rw [add_plain] at this
        exact this.trans hv
      have c0 := at_ 0 _ (by omega) rfl
      exact ⟨r, r1, b, off, rfl, Pk.lt_of_cell c0, c0, at_ 1 _ (by omega) rfl, at_ 2 _ (by omega) rfl⟩
    obtain ⟨l, l1, l2⟩ := list_of _ len key
    refine ⟨l, ⟨some a, cap, by rw [l1], fun j r hj => ?_⟩, by omega, fun r hr => ?_⟩
    · obtain ⟨-, b, off, rfl, h1, h2⟩ := l2 j r hj
      exact ⟨b, off, rfl, h1, h2⟩
    · obtain ⟨j, hj⟩ := List.mem_iff_getElem?.1 hr
      exact (l2 j r hj).1
end
end Stp
end Go.Proofs.Ytdjhhnolcafkiaa
