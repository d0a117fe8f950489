import Derived.Test.YtdjhhnolcafkiaaGreatG01
import Derived.Test.YtdjhhnolcafkiaaGreatG16
set_option linter.unusedVariables false
set_option linter.unusedSimpArgs false
set_option maxHeartbeats 40000000
set_option maxRecDepth 20000
namespace Go.Proofs.YtdjhhnolcafkiaaGreat
open Go.RowKit Pk Rl
namespace Rl
def LkS2 (PA ma ra:Nat) (s:Stt) (PB mb rb:Nat) (t:Stt) (W:World):Prop:=W.cell? ⟨PA,0,none⟩=some (.pointer (some ⟨ma,0,none⟩))/\W.cell? ⟨PA,1,none⟩=some (.pointer (some ⟨ra,0,none⟩))/\W.cell? ⟨ra,7,none⟩=some (.int .i64 s.now)/\W.cell? ⟨ra,8,none⟩=some (.int .i64 s.tokens)/\W.cell? ⟨ra,9,none⟩=some (.int .i64 s.passed)/\W.cell? ⟨ra,10,none⟩=some (.int .i64 s.late)/\W.cell? ⟨ra,11,none⟩=some (.int .i64 s.doubled)/\W.cell? ⟨ra,12,none⟩=some (.int .i64 s.wrong)/\W.cell? ⟨ra,13,none⟩=some (.int .i64 s.unknown)/\W.cell? ⟨ra,14,none⟩=some (.int .i64 s.again)/\W.cell? ⟨ra,15,none⟩=some (.int .i64 s.refused)/\W.cell? ⟨ra,16,none⟩=some (.int .i64 s.asked)/\W.cell? ⟨ra,17,none⟩=some (.int .i64 s.givenUp)/\W.cell? ⟨PB,0,none⟩=some (.pointer (some ⟨mb,0,none⟩))/\W.cell? ⟨PB,1,none⟩=some (.pointer (some ⟨rb,0,none⟩))/\W.cell? ⟨rb,7,none⟩=some (.int .i64 t.now)/\W.cell? ⟨rb,8,none⟩=some (.int .i64 t.tokens)/\W.cell? ⟨rb,9,none⟩=some (.int .i64 t.passed)/\W.cell? ⟨rb,10,none⟩=some (.int .i64 t.late)/\W.cell? ⟨rb,11,none⟩=some (.int .i64 t.doubled)/\W.cell? ⟨rb,12,none⟩=some (.int .i64 t.wrong)/\W.cell? ⟨rb,13,none⟩=some (.int .i64 t.unknown)/\W.cell? ⟨rb,14,none⟩=some (.int .i64 t.again)/\W.cell? ⟨rb,15,none⟩=some (.int .i64 t.refused)/\W.cell? ⟨rb,16,none⟩=some (.int .i64 t.asked)/\W.cell? ⟨rb,17,none⟩=some (.int .i64 t.givenUp)
theorem LkS.two {PA ma ra PB mb rb:Nat}{s t:Stt}{W:World}(h:LkS PA ma ra s W) (k:LkS PB mb rb t W):LkS2 PA ma ra s PB mb rb t W:=by
 obtain⟨a0,a1,a2,a3,a4,a5,a6,a7,a8,a9,a10,a11,a12⟩:=h
 obtain⟨b0,b1,b2,b3,b4,b5,b6,b7,b8,b9,b10,b11,b12⟩:=k
 exact⟨a0,a1,a2,a3,a4,a5,a6,a7,a8,a9,a10,a11,a12,b0,b1,b2,b3,b4,b5,b6,b7,b8,b9,b10,b11,b12⟩
structure PLX (w:World) (K:Nat) (pb mb rb:Nat->Nat) (g n i p q:Nat) (F:Nat->Nat->Nat) (M:Nat->Md) (R:Nat->Rm) (W:World):Prop where
 p:p<K
 q:q<K
 st:Sta W F K pb mb rb M R g n
 rel:∀k,k<K->Rel2 i (M k) (R k)
 af:∀b,b<w.heap.size->∀j,F j b=0
 bl:Below w.heap.size w W
section
variable {w W W' : World} {K : Nat} {pb mb rb : Nat -> Nat} {g n i p q : Nat} {F F' : Nat -> Nat -> Nat} {M : Nat -> Md} {R : Nat -> Rm}
theorem PLX.vary (h:PLX w K pb mb rb g n i p q F M R W){M':Nat->Md}{R':Nat->Rm}{n' i':Nat}(hs:Sta W' F' K pb mb rb M' R' g n') (hr:∀k,k<K->Rel2 i' (M' k) (R' k)) (hv:SMv W F W' F'):PLX w K pb mb rb g n' i' p q F' M' R' W':=
 ⟨h.p,h.q,hs,hr,fun b hb=>hv.1 b (Nat.lt_of_lt_of_le hb h.bl.size) (h.af b hb),h.bl.trans (hv.2.below h.bl.size (fun x ⟨j,e⟩=>Nat.le_of_not_lt fun hx=>e (h.af x hx j)))⟩
theorem PLX.step (h:PLX w K pb mb rb g n i p q F M R W){M1:Md}{R1:Rm}(hs:Sta W' F' K pb mb rb (upd M p M1) (upd R p R1) g (n+2)) (hr:Rel2 (i+1) M1 R1) (hv:SMv W F W' F'):PLX w K pb mb rb g (n+2) (i+1) p q F' (upd M p M1) (upd R p R1) W':=
 h.vary hs (fun k hk=>by
  unfold upd
  split
  ·exact hr
  ·exact(h.rel k hk).mono (Nat.le_succ _)) hv
theorem PLX.idle (h:PLX w K pb mb rb g n i p q F M R W) (hb:Below W.heap.size W W'):PLX w K pb mb rb g n i p q F M R W':=h.vary (h.st.below hb) h.rel (SMv.below hb)
theorem PLX.up (h:PLX w K pb mb rb g n i p q F M R W):PLX w K pb mb rb g (n+2) (i+1) p q F M R W:=⟨h.p,h.q,h.st.mono (by omega),fun k hk=>(h.rel k hk).mono (Nat.le_succ _),h.af,h.bl⟩
theorem PLX.swap (h:PLX w K pb mb rb g n i p q F M R W):PLX w K pb mb rb g n i q p F M R W:=⟨h.q,h.p,h.st,h.rel,h.af,h.bl⟩
end
def knownC:Cfg:=⟨4,8,10,5,100,20,2⟩
theorem knownC_ok:cfgOk knownC=true:=by decide
end Rl
set_option maxRecDepth 40000 in
theorem playsM_any (c:Cfg) (L:List OpD) (sv:Value) (w:World) (hsv:IsOps w.heap.size w sv L) (hL:L.length<=1048576) (hok:∀o∈L,OpOx w.heap.size w o) :
  Calls Tryz.prog 6 #[.agg #[.int .i64 c.ring,.int .i64 c.window,.int .i64 c.delay,.int .i64 c.rate,.int .i64 c.burst,.int .i64 c.retry,.int .i64 c.tries],sv,.int .i64 9] w fun e w'=>e = .returned (.bool true)/\Below w.heap.size w w':=by
 obtain⟨ao,cap,rfl,hcs⟩:=hsv
 have Hcs:=hyd hcs
 have Hok:=hyd hok
 obtain⟨N,hN⟩:∃N,L.length=N:=⟨_,rfl⟩
 have HN:=hyd hN
 rw[hN]at hL ⊢
 clear hcs hok hN
 have hp75:Tryz.prog.stoodInHeld 49=false:=by kernel_rfl
 have hm75:Tryz.prog.eqGuardType Tryz.prog.depth 49=false:=by kernel_rfl
 have HBa:Hid (∀bk,Below w.heap.size w (w.alloc bk)):=fun bk=>(Below.refl _ _).alloc (Nat.le_refl _) bk
 go_enter Tryz.func6,Tryz.ntmps6
 go_wp2_with fail
 refine(begun_any c _).mono ?_
 rintro e w1 ⟨hb1,hc1⟩
 have HB1:Hid (Below w.heap.size w w1):=(HBa.out _).trans (hb1.mono (HBa.out _).size)
 have hz1:w.heap.size<=(w.alloc (.cells #[.int .i64 c.ring,.int .i64 c.window,.int .i64 c.delay,.int .i64 c.rate,.int .i64 c.burst,.int .i64 c.retry,.int .i64 c.tries] 23)).heap.size:=by simp
 generalize w.alloc (.cells #[.int .i64 c.ring,.int .i64 c.window,.int .i64 c.delay,.int .i64 c.rate,.int .i64 c.burst,.int .i64 c.retry,.int .i64 c.tries] 23)=w0 at *
 rcases hc1 with⟨hf1,rfl⟩|⟨hf1,pa,ma,ra,ρa,ρb,rfl,hP1⟩
 focus
  clear hb1
  go_wp2_with fail
  refine(begun_any knownC _).mono ?_
  rintro e w2 ⟨hb2,⟨hf2,rfl⟩|⟨hf2,p2,m2,r2,ρm,ρr,rfl,hP2⟩⟩
  ·exact absurd (hf2.symm.trans knownC_ok) (by decide)
  have HB2:Hid (Below w.heap.size w w2):=HB1.out.trans (hb2.mono HB1.out.size)
  have HP2:=hyd hP2
  clear hb2 hP2 hf2
  go_wp2
  have HS0:Hid (∃(K:Nat) (pb mb rb:Nat->Nat) (g p q:Nat) (F:Nat->Nat->Nat) (M:Nat->Md) (R:Nat->Rm),w2.heap.size=g/\p2=pb p/\p2=pb q/\PLX w K pb mb rb g 0 0 p q F M R (w2.alloc (.cells #[.slice none 0 0,.slice none 0 0,.slice none 0 0,.slice none 0 0,.slice none 0 0,.slice none 0 0,.int .i64 0] 37))):=by
   refine⟨1,_,_,_,_,0,0,_,_,_,rfl,rfl,rfl,Nat.one_pos,Nat.one_pos,Sta.init1 _ HP2.out,fun k hk=>Rel2.new _ knownC_ok,fun b hb j=>?_,HB2.out.alloc HB2.out.size _⟩
   have h1:=HB1.out.size
   have h2:=HB2.out.size
   have hpz:w1.heap.size<=p2:=HP2.out.np
   match j with
   | 0=>
    show newRole _ b=0
    unfold newRole
    exact if_neg (by omega)
   | 1=>exact Decidable.byContradiction fun e=>by have:=(HP2.out.nm b e).1;omega
   | 2=>exact Decidable.byContradiction fun e=>by have:=(HP2.out.nr b e).1;omega
   | _+3=>rfl
  generalize w2.alloc (.cells #[.slice none 0 0,.slice none 0 0,.slice none 0 0,.slice none 0 0,.slice none 0 0,.slice none 0 0,.int .i64 0] 37)=W7 at *
  obtain⟨K,pb,mb,rb,g,p0,q0,F0,M0,R0,hg,e1,e2,hPL⟩:=HS0.out
  rw[hg]
  rw[e2]at e1
  rw[e2]
  have HPL:Hid (PLX w K pb mb rb g 0 0 q0 q0 F0 M0 R0 W7):=⟨hPL.q,hPL.q,hPL.st,hPL.rel,hPL.af,hPL.bl⟩
  clear hPL HS0 HB1 HB2 HP2 HBa e1 e2 hg hf1
  go_loopw [7,8,9,12] (fun s7 s8 s9 s12 wr=>∃(i p q:Nat) (F:Nat->Nat->Nat) (M:Nat->Md) (R:Nat->Rm),i<=N/\s12 = .int .i64 i/\s7 = .pointer (some ⟨pb p,0,none⟩)/\s9 = .pointer (some ⟨pb q,0,none⟩)/\s8 = .bool true/\PLX w K pb mb rb g (2*i) i p q F M R wr) (fun _ _ _ s12 _=>N-(intOf s12).toNat)
  case atStart=>exact⟨0,q0,q0,F0,M0,R0,Nat.zero_le _,rfl,rfl,rfl,rfl,HPL.out⟩
 rotate_left
 focus
  have HP1:=hyd hP1
  have Hf1:=hyd hf1
  clear hb1 hP1 hf1
  go_wp2_with fail
  refine(begun_any knownC _).mono ?_
  rintro e w2 ⟨hb2,⟨hf2,rfl⟩|⟨hf2,p2,m2,r2,ρm,ρr,rfl,hP2⟩⟩
  ·exact absurd (hf2.symm.trans knownC_ok) (by decide)
  have HB2:Hid (Below w.heap.size w w2):=HB1.out.trans (hb2.mono HB1.out.size)
  have HV:=hyd hb2
  have HP2:=hyd hP2
  clear hb2 hP2 hf2
  go_wp2
  have HS0:Hid (∃(K:Nat) (pb mb rb:Nat->Nat) (g p q:Nat) (F:Nat->Nat->Nat) (M:Nat->Md) (R:Nat->Rm),w2.heap.size=g/\pa=pb p/\p2=pb q/\PLX w K pb mb rb g 0 0 p q F M R (w2.alloc (.cells #[.slice none 0 0,.slice none 0 0,.slice none 0 0,.slice none 0 0,.slice none 0 0,.slice none 0 0,.int .i64 0] 37))):=by
   refine⟨2,_,_,_,_,0,1,_,_,_,rfl,rfl,rfl,Nat.two_pos,by omega,Sta.init2 _ HP1.out HV.out HP2.out,fun k hk=>?_,fun b hb j=>?_,HB2.out.alloc HB2.out.size _⟩
   ·rcases(by omega:k=0\/k=1)with rfl|rfl
    ·exact Rel2.new _ Hf1.out
    ·exact Rel2.new _ knownC_ok
   have h1:=HB1.out.size
   have h2:=HB2.out.size
   match j with
   | 0=>
    show newRole _ b=0
    unfold newRole
    exact if_neg (by omega)
   | 1=>exact Decidable.byContradiction fun e=>by have:=(HP1.out.nm b e).1;omega
   | 2=>exact Decidable.byContradiction fun e=>by have:=(HP1.out.nr b e).1;omega
   | 3=>exact Decidable.byContradiction fun e=>by have:=(HP2.out.nm b e).1;omega
   | 4=>exact Decidable.byContradiction fun e=>by have:=(HP2.out.nr b e).1;omega
   | _+5=>rfl
  generalize w2.alloc (.cells #[.slice none 0 0,.slice none 0 0,.slice none 0 0,.slice none 0 0,.slice none 0 0,.slice none 0 0,.int .i64 0] 37)=W7 at *
  obtain⟨K,pb,mb,rb,g,p0,q0,F0,M0,R0,hg,e1,e2,hPL⟩:=HS0.out
  rw[hg,e1,e2]
  have HPL:=hyd hPL
  clear hPL HS0 HB1 HB2 HP1 HP2 HV HBa e1 e2 hg Hf1
  go_loopw [7,8,9,12] (fun s7 s8 s9 s12 wr=>∃(i p q:Nat) (F:Nat->Nat->Nat) (M:Nat->Md) (R:Nat->Rm),i<=N/\s12 = .int .i64 i/\s7 = .pointer (some ⟨pb p,0,none⟩)/\s9 = .pointer (some ⟨pb q,0,none⟩)/\s8 = .bool true/\PLX w K pb mb rb g (2*i) i p q F M R wr) (fun _ _ _ s12 _=>N-(intOf s12).toNat)
  case atStart=>exact⟨0,p0,q0,F0,M0,R0,Nat.zero_le _,rfl,rfl,rfl,rfl,HPL.out⟩
 all_goals
  case round=>
   obtain⟨i,p,q,F,M,R,hi,rfl,rfl,rfl,rfl,hP⟩:=hrel
   have HP:=hyd hP
   clear hP HPL
   by_cases hiN:i<N
   ·have hiN':(i:Int)<N:=by omega
    obtain⟨o,ho⟩:∃o,L[i]? = some o:=⟨_,List.getElem?_eq_getElem (by rw[HN.out];exact hiN)⟩
    obtain⟨sb,off,rfl,hsb,hcl⟩:=Hcs.out i o ho
    have HOk:Hid (OpOx w.heap.size w o):=Hok.out o (List.mem_of_getElem? ho)
    have HCl:Hid (∀j u,(opL o)[j]? = some u->wr.cell? (Addr.add ⟨sb,off+i*30,none⟩ j)=some u):=fun j u hu=>by
     have h1:=(HP.out.bl.cell (p:=⟨sb,off+i*30+j,none⟩) hsb).trans (hcl j u hu)
     rw[show(⟨sb,off+i*30,none⟩:Addr).add j=⟨sb,off+i*30+j,none⟩ by unfold Addr.add;split<;>simp_all]
     exact h1
    clear hcl ho hsb
    go_wp2_with (refine wpList_load_list rfl 45 (.tmp 50) rfl ⟨sb,off+i*30,none⟩ rfl (opKL o.kind o) (by kernel_rfl) (by kernel_rfl) HCl.out ?_;refine stop_here ?_)
    refine hid_in ?_
    go_wp2_with (refine wpList_store_new rfl 45 (.tmp 13) (.tmp 51) rfl wr #[.int .i64 0,.int .i64 0,.string ⟨#[]⟩,.int .i64 0,.int .i64 0,.int .i64 0,.int .i64 0,.int .i64 0,.int .i64 0,.int .i64 0,.int .i64 0,.int .i64 0,.int .i64 0,.int .i64 0,.int .i64 0,.int .i64 0,.bool false,.int .i64 0,.int .i64 0,.int .i64 0,.int .i64 0,.slice none 0 0,.bool false,.int .i64 0,.string ⟨#[]⟩,.string ⟨#[]⟩,.int .i64 0,.int .i64 0,.int .i64 0,.slice none 0 0] (opK o.kind o) rfl rfl rfl (by kernel_rfl) rfl (by kernel_rfl) ?_;refine stop_here ?_)
    refine hid_in ?_
    have hC1:∀j u,((opKL o.kind o):List Value)[j]? = some u->(wr.alloc (.cells (opK o.kind o) 45)).cell? (Addr.add ⟨wr.heap.size,0,none⟩ j)=some u:=cells_new _ (opKL o.kind o) _
    have k0:(wr.alloc (.cells (opK o.kind o) 45)).cell? ⟨wr.heap.size,0,none⟩=some (.int .i64 o.kind):=cell_new _ _ _ 0
    have hBb:Below wr.heap.size wr (wr.alloc (.cells (opK o.kind o) 45)):=(Below.refl _ _).alloc (Nat.le_refl _) _
    have HP1:Hid (PLX w K pb mb rb g (2*i) i p q F M R (wr.alloc (.cells (opK o.kind o) 45))):=HP.out.idle hBb
    have HOk1:Hid (OpOx w.heap.size (wr.alloc (.cells (opK o.kind o) 45)) o):=HOk.out.below HP1.out.bl
    have HC1:=hyd hC1
    have hwz:w.heap.size<=(wr.alloc (.cells (opK o.kind o) 45)).heap.size:=HP1.out.bl.size
    clear hBb HP HOk HCl hC1
    generalize wr.alloc (.cells (opK o.kind o) 45)=wb at *
    generalize wr.heap.size=B at *
    by_cases h7:o.kind=7
    ·have h7':(o.kind == 7)=true:=by simp[h7]
     clear h7
     go_wp2_with fail
     refine(st_looks HP1.out.st (by omega)).mono ?_
     rintro e w3 ⟨rfl,s1,s2⟩
     have HP3:Hid (PLX w K pb mb rb g (2*i+2) (i+1) q p F M R w3):=((HP1.out.vary s1 HP1.out.rel s2).up).swap
     clear s1 s2 k0
     go_wp2
     go_roundw
     case rel=>exact⟨i+1,q,p,F,M,R,by omega,by go_num,rfl,rfl,rfl,HP3.out⟩
     case measure=>simp[intOf];omega
    ·have h7':(o.kind == 7)=false:=by rw[beq_eq_false_iff_ne];exact h7
     by_cases h8:o.kind<=9
     ·have h8':decide (o.kind<=9)=true:=decide_eq_true h8
      have hpk:=HP1.out.p
      go_wp2_with (refine wpList_load_list rfl 45 (.tmp 13) rfl ⟨B,0,none⟩ rfl (opKL o.kind o) (by kernel_rfl) (by kernel_rfl) HC1.out ?_;refine stop_here ?_)
      refine hid_in ?_
      go_wp2_with fail
      refine(stepx_any o w.heap.size HP1.out.st hpk (HP1.out.rel p hpk) (by omega) (by omega) HOk1.out hwz h8 h7).mono ?_
      rintro e w2 ⟨rfl,F2,M1,R1,s1,s2,s3⟩
      have HP2:Hid (PLX w K pb mb rb g (2*i+2) (i+1) p q F2 (upd M p M1) (upd R p R1) w2):=HP1.out.step s1 s2 s3
      clear s1 s2 s3 k0
      go_wp2_with fail
      refine(st_looks HP2.out.st (by omega)).mono ?_
      rintro e w3 ⟨rfl,s1,s2⟩
      have HP3:Hid (PLX w K pb mb rb g (2*i+2) (i+1) p q F2 (upd M p M1) (upd R p R1) w3):=HP2.out.vary s1 HP2.out.rel s2
      clear s1 s2
      go_wp2
      go_roundw
      case rel=>exact⟨i+1,p,q,F2,_,_,by omega,by go_num,rfl,rfl,rfl,HP3.out⟩
      case measure=>simp[intOf];omega
     ·have h8':decide (o.kind<=9)=false:=decide_eq_false h8
      go_wp2_with fail
      refine(st_looks HP1.out.st (by omega)).mono ?_
      rintro e w3 ⟨rfl,s1,s2⟩
      have HP3:Hid (PLX w K pb mb rb g (2*i+2) (i+1) p q F M R w3):=(HP1.out.vary s1 HP1.out.rel s2).up
      clear s1 s2 k0
      go_wp2
      go_roundw
      case rel=>exact⟨i+1,p,q,F,M,R,by omega,by go_num,rfl,rfl,rfl,HP3.out⟩
      case measure=>simp[intOf];omega
   ·have hiN':¬(i:Int)<N:=by omega
    obtain⟨S,hS⟩:∃S,(R p).sds.length=S:=⟨_,rfl⟩
    have HS:=hyd hS
    have hS4:S<=4:=by
     have h1:=(HP.out.rel p HP.out.p).r
     have h2:=h1.sl
     have h3:=h1.s4
     omega
    clear hS
    go_wp2
    generalize wr=wo at *
    go_loopw [8,16] (fun s8 s16 wr=>∃(j:Nat) (F:Nat->Nat->Nat),j<=S/\s16 = .int .i64 j/\s8 = .bool true/\PLX w K pb mb rb g (2*i+2*j) i p q F M R wr) (fun _ s16 _=>S-(intOf s16).toNat)
    case atStart=>exact⟨0,F,Nat.zero_le _,rfl,rfl,HP.out⟩
    case round=>
     obtain⟨j,F3,hj,rfl,rfl,hP⟩:=hrel
     have HP3:=hyd hP
     have hpk:=hP.p
     obtain⟨y0,y1,-⟩:=hP.st.pc p hpk
     unfold ptr at y0 y1
     obtain⟨sv,wv,hR⟩:=hP.st.rd p hpk
     obtain⟨aS,cS,hsv⟩:=rowA_shape hR.sr.1
     have y18:wr.cell? ⟨rb p,18,none⟩=some sv:=hR.k 18 _ rfl
     rw[HS.out]at hsv
     rw[hsv]at y18
     clear hP HP
     by_cases hjS:j<S
     ·have hjS':(j:Int)<S:=by omega
      obtain⟨s,hs⟩:∃s,(R p).sds[j]? = some s:=⟨_,List.getElem?_eq_getElem (by rw[HS.out];exact hjS)⟩
      obtain⟨sg,scap,hsl,x0,-⟩:=hR.sndAt hs
      rw[hsv,HS.out]at hsl
      simp only[Value.slice.injEq,true_and]at hsl
      obtain⟨rfl,rfl⟩:=hsl
      clear hR hs hsv
      go_wp2_with fail
      refine(lmissing_any HP3.out.st hpk (HP3.out.rel p hpk).r (by omega) _).mono ?_
      rintro e w4 ⟨rfl,F4,s1,s2⟩
      have HP4:Hid (PLX w K pb mb rb g (2*i+2*j+2) i p q F4 M R w4):=HP3.out.vary s1 HP3.out.rel s2
      clear s1 s2 y0 y1 y18 x0
      go_wp2
      go_roundw
      case rel=>exact⟨j+1,F4,by omega,by go_num,rfl,HP4.out⟩
      case measure=>simp[intOf];omega
     ·have hjS':¬(j:Int)<S:=by omega
      have hqk:=HP3.out.q
      have es:=(HP3.out.rel p hpk).r.s
      have et:=(HP3.out.rel q hqk).r.s
      have Hes:=hyd es
      have Het:=hyd et
      have hS1:LkS2 (pb p) (mb p) (rb p) (R p).s (pb q) (mb q) (rb q) (R q).s wr:=(HP3.out.st.lk hpk).two (HP3.out.st.lk hqk)
      clear hR hsv es et
      go_wp2
      clear y0 y1 y18
      refine wp_region_noPanic ?_
      refine wp_region_held_drew (S:=LkS2 (pb p) (mb p) (rb p) (R p).s (pb q) (mb q) (rb q) (R q).s) (by kernel_rfl) hS1 (fun zH=>?_)
      refine tka 0 ?_
      refine tka 1 ?_
      refine tka 2 ?_
      refine tka 3 ?_
      refine tka 5 ?_
      refine tka 6 ?_
      refine tka 7 ?_
      refine tka 8 ?_
      refine tka 9 ?_
      refine tka 10 ?_
      refine tka 11 ?_
      refine rd1 4 fun K' hK=>?_
      go_simp
      refine(st_look (by first|exact HP3.out.st|exact HP3.out.st.below (Below.refl _ _).drew) hpk).mono ?_
      rintro e w5 ⟨rfl,hb5⟩
      have hB5:Below wr.heap.size wr w5:=by first|exact hb5|exact(Below.refl _ _).drew.trans (hb5.mono (by simp))
      have HP5:Hid (PLX w K pb mb rb g (2*i+2*j) i p q F3 M R w5):=HP3.out.idle hB5
      have hS5:LkS2 (pb p) (mb p) (rb p) (R p).s (pb q) (mb q) (rb q) (R q).s w5:=(HP5.out.st.lk hpk).two (HP5.out.st.lk hqk)
      rw[Hes.out]
      unfold sttA
      clear hb5 hB5
      go_simp
      refine hK.out _ _ hS5 (fun zH=>?_)
      clear hK K' hS1
      refine tka 12 ?_
      refine tka 13 ?_
      refine tka 14 ?_
      refine tka 15 ?_
      refine tka 16 ?_
      refine tka 17 ?_
      refine tka 19 ?_
      refine tka 20 ?_
      refine tka 21 ?_
      refine tka 22 ?_
      refine tka 23 ?_
      refine tka 24 ?_
      refine tka 25 ?_
      refine rd1 18 fun K' hK=>?_
      go_simp
      refine(st_look (by first|exact HP5.out.st|exact HP5.out.st.below (Below.refl _ _).drew) hqk).mono ?_
      rintro e w6 ⟨rfl,hb6⟩
      have hB6:Below w5.heap.size w5 w6:=by first|exact hb6|exact(Below.refl _ _).drew.trans (hb6.mono (by simp))
      have HP6:Hid (PLX w K pb mb rb g (2*i+2*j) i p q F3 M R w6):=HP5.out.idle hB6
      have hS6:LkS2 (pb p) (mb p) (rb p) (R p).s (pb q) (mb q) (rb q) (R q).s w6:=(HP6.out.st.lk hpk).two (HP6.out.st.lk hqk)
      rw[Het.out]
      unfold sttA
      clear hb6 hB6
      go_simp
      refine hK.out _ _ hS6 (fun zH=>?_)
      clear hK K' hS5
      refine tka 26 ?_
      refine tka 27 ?_
      refine tka 28 ?_
      refine doN ?_
      clear zH hS6
      go_wp2
      go_ret
      exact⟨rfl,HP6.out.bl⟩
end Go.Proofs.YtdjhhnolcafkiaaGreat
