import Derived.Test.YtdjhhnolcafkiaaGreatG01
import Derived.Test.YtdjhhnolcafkiaaGreatG07
import Derived.Test.YtdjhhnolcafkiaaGreatG11
import Derived.Test.YtdjhhnolcafkiaaGreatG13
import Derived.Test.YtdjhhnolcafkiaaGreatG12
import Derived.Test.YtdjhhnolcafkiaaGreatG08
set_option linter.unusedVariables false
set_option linter.unusedSimpArgs false
set_option maxHeartbeats 40000000
set_option maxRecDepth 20000
namespace Go.Proofs.YtdjhhnolcafkiaaGreat
open Go.RowKit
open Pk
theorem refAgain_any (ρ:Nat->Nat) (rb g cap:Nat) (R:Rm) (sv:Value) (i ring:Nat) (x:Rw) (n:Int) (w:World) (h:RdAt w ρ rb R sv (.slice (some ⟨g,0,none⟩) R.wns.length cap)) (hx:R.wns[i]? = some x) (hn:0<=n/\n<=65535) (hring:R.c.ring=(ring:Int)) (hrl:ring<=100) (hal:x.all.length<=2000000) (hnow:0<=R.s.now/\R.s.now<=1000000000000000) (htok:0<=R.s.tokens/\R.s.tokens<=1000000000) (hagn:∀e∈x.all,-1<=e.again/\e.again<=1000000000000000) (hsz:∀e∈x.all,e.x.cl.length<=100000/\e.x.en.size<=1000000/\e.x.py.size<=1000000) (hsec:0<=x.second/\x.second<=1000000000000/\0<=x.pl.secondFirst/\x.pl.secondFirst<=65535) :
  Calls Tryz.prog 80 #[.pointer (some ⟨rb,0,none⟩),.pointer (some ⟨g,i*11,none⟩),.int .i64 n] w fun e w'=>e = .returned (ansV (rAgain R i x n ring).2)/\∃ρ',RdAt w' ρ' rb (rAgain R i x n ring).1 sv (.slice (some ⟨g,0,none⟩) R.wns.length cap)/\RMv w ρ w' ρ':=by
 have H:=hyd h
 have Hx:=hyd hx
 have hil:i<R.wns.length:=(List.getElem?_eq_some_iff.1 hx).1
 have Hxe:Hid (R.wns[i]=x):=(List.getElem?_eq_some_iff.1 hx).2
 obtain⟨g',cap',hsl,xs,xf,xl,xr⟩:=h.wntAt hx
 simp only[Value.slice.injEq,Option.some.injEq,Addr.mk.injEq,true_and,and_true]at hsl
 obtain⟨rfl,rfl⟩:=hsl
 obtain⟨hrow,hcon⟩:=h.al i x hx
 obtain⟨ao,ac,hav⟩:=rowA_shape hrow.1
 have Hrow:Hid (RowR w ρ (1000+x.id.toNat) 152 12 (.slice ao x.all.length ac) x.all.length (x.all.flatMap cRe)):=by rw[<-hav];exact hrow
 have Hav:=hyd hav
 have Hcon:=hyd hcon
 have HWs:=hyd xs
 have c8:w.cell? ⟨g,i*11+8,none⟩=some (.slice ao x.all.length ac):=by rw[<-hav];exact xs 8 _ rfl
 have y0:w.cell? ⟨rb,0,none⟩=some (.int .i64 R.c.ring):=h.k 0 _ rfl
 rw[hring]at y0
 have y2:w.cell? ⟨rb,2,none⟩=some (.int .i64 R.c.delay):=h.k 2 _ rfl
 have y7:w.cell? ⟨rb,7,none⟩=some (.int .i64 R.s.now):=h.k 7 _ rfl
 have y8:w.cell? ⟨rb,8,none⟩=some (.int .i64 R.s.tokens):=h.k 8 _ rfl
 have hrb:=h.lt
 have Hrm:Hid (ρ rb=1):=h.rm
 have Hxr:=hyd xr
 have hgr:g≠rb:=fun e=>by rw[e,h.rm]at xr;cases xr
 have Hagn:=hyd hagn
 have Hsz:=hyd hsz
 obtain⟨X,hX⟩:∃X,rAgain R i x n ring=X:=⟨_,rfl⟩
 have HX:=hyd hX
 rw[hX]
 clear h hx xs xf xr hrow hcon hav hX hagn hsz hring
 go_enter Tryz.func80,Tryz.ntmps80
 go_wp2_with fail
 refine(refKept_any g (i*11) ao ac x.all n ring _ c8 Hrow.out.1 (by omega) hrl).mono ?_
 rintro e w1 ⟨rfl,hb1⟩
 have HB1:=hyd hb1
 clear hb1
 cases hk:scanK x.all n ring x.all.length []with
 | none=>
  have E:Hid (X=(R,none)):=by show _=_;rw[<-HX.out];unfold rAgain;rw[hk]
  clear hk
  unfold optI
  go_wp2
  go_ret2
  exact⟨by rw[E.out];rfl,ρ,by rw[E.out];exact H.out.below HB1.out,RMv.below HB1.out⟩
 | some k=>
  obtain⟨hkl,e,hke,-⟩:=scanK_lt _ _ _ hk
  have E0:Hid (X=if 0<=e.again/\R.s.now-e.again<R.c.delay then(R,none)else if(tellX (rAgainX x e n)).2≠0\/R.s.tokens<(tellX (rAgainX x e n)).1.size then(R,none)else({ R with s:={ R.s with tokens:=R.s.tokens-(tellX (rAgainX x e n)).1.size },wns:=R.wns.set i { x with all:=x.all.set k { e with again:=R.s.now },second:=x.second+1 } },some (tellX (rAgainX x e n)).1)):=by
   show _=_
   rw[<-HX.out]
   unfold rAgain
   rw[hk]
   simp only[hke]
  clear hk
  unfold optI
  have hk0:¬(k:Int)<0:=by omega
  have hk1:(k:Int)<(x.all.length:Int):=by omega
  have hkm:e∈x.all:=List.mem_of_getElem? hke
  have hae:=Hagn.out e hkm
  have hse:=Hsz.out e hkm
  have Hke:Hid (x.all[k]=e):=(List.getElem?_eq_some_iff.1 hke).2
  have HIc:Hid (IsC (fun b=>ρ b=4) w e.cv e.x.cl):=Hcon.out e hkm
  obtain⟨gg,rfl⟩:=rowA_some Hrow.out.1 (by omega)
  have hgg:gg<w.heap.size:=(Hrow.out.1.lt gg rfl).2
  have HAs:Hid (∀j u,(cRe e)[j]? = some u->w.cell? ⟨gg,k*12+j,none⟩=some u):=fun j u hj=>by
   have h12:j<12:=by have:=(List.getElem?_eq_some_iff.1 hj).1;rw[cRe_len]at this;exact this
   have h1:=Hrow.out.1.cellAt (k*12+j) (by omega)
   rw[flat_at cRe_len x.all k j hkl h12,Hke.out]at h1
   rw[h1]
   exact hj
  have ca:∀(o:Nat) (u:Value),w.cell? ⟨gg,o,none⟩=some u->w1.cell? ⟨gg,o,none⟩=some u:=fun o u hu=>(HB1.out.cell (p:=⟨gg,o,none⟩) hgg).trans hu
  have cg:∀(o:Nat) (u:Value),w.cell? ⟨g,o,none⟩=some u->w1.cell? ⟨g,o,none⟩=some u:=fun o u hu=>(HB1.out.cell (p:=⟨g,o,none⟩) xl).trans hu
  have cr:∀(o:Nat) (u:Value),w.cell? ⟨rb,o,none⟩=some u->w1.cell? ⟨rb,o,none⟩=some u:=fun o u hu=>(HB1.out.cell (p:=⟨rb,o,none⟩) hrb).trans hu
  have d8:=cg _ _ c8
  have a11:w1.cell? ⟨gg,k*12+11,none⟩=some (.int .i64 e.again):=ca _ _ (HAs.out 11 _ rfl)
  have z2:=cr _ _ y2
  have z7:=cr _ _ y7
  have HFa:Hid (∀m j u,(cRe e)[j]? = some u->(w1.drewN m).cell? ⟨gg,k*12+j,none⟩=some u):=fun m j u hj=>by rw[World.cell?_drewN];exact ca _ _ (HAs.out j u hj)
  have HFw:Hid (∀m j u,(cRw x)[j]? = some u->(w1.drewN m).cell? ⟨g,i*11+j,none⟩=some u):=fun m j u hj=>by rw[World.cell?_drewN];exact cg _ _ (HWs.out j u hj)
  have HFr:Hid (∀m j u,(rmV R sv (.slice (some ⟨g,0,none⟩) R.wns.length cap))[j]? = some u->(w1.drewN m).cell? ⟨rb,j,none⟩=some u):=fun m j u hj=>by rw[World.cell?_drewN];exact cr _ _ (H.out.k j u hj)
  obtain⟨ea,hea⟩:∃ea,e.again=ea:=⟨_,rfl⟩
  have HEA:=hyd hea
  rw[hea]at a11 hae
  have hwr:IntKind.i64.wrap (R.s.now-ea)=R.s.now-ea:=i64_id _ (by omega) (by omega)
  clear ca cg cr hea hke
  by_cases hag:0<=ea
  focus
   have hag':decide ((0:Int)<=ea)=true:=decide_eq_true hag
   by_cases hdl:R.s.now-ea<R.c.delay
   ·have E:Hid (X=(R,none)):=by show _=_;rw[E0.out,if_pos (by rw[HEA.out];exact⟨hag,hdl⟩)]
    go_wp2
    go_big_quiet (fail)
    go_wp2
    go_ret2
    exact⟨by rw[E.out];rfl,ρ,by rw[E.out];exact H.out.below (below_drewN HB1.out _),RMv.below (below_drewN HB1.out _)⟩
   focus
    have hdl':decide (R.s.now-ea<R.c.delay)=false:=decide_eq_false hdl
    have HG:Hid (¬(0<=e.again/\R.s.now-e.again<R.c.delay)):=by rw[HEA.out];exact fun e=>hdl e.2
  rotate_left
  focus
   have hag':decide ((0:Int)<=ea)=false:=decide_eq_false hag
   have HG:Hid (¬(0<=e.again/\R.s.now-e.again<R.c.delay)):=by rw[HEA.out];exact fun e=>hag e.1
  all_goals
   obtain⟨cva,cvc,hcv⟩:∃a c,e.cv = .slice a e.x.cl.length c:=by obtain⟨a,c,e1,_⟩:=HIc.out;exact⟨a,c,e1⟩
   have Hcv:=hyd hcv
   clear hcv
   go_wp2
   go_big_quiet (fail)
   have HB2:Hid (Below w.heap.size w (w1.drewN nq)):=below_drewN HB1.out _
   have FA:=HFa.out nq
   have FW:=HFw.out nq
   have FR:=HFr.out nq
   have d8':(w1.drewN nq).cell? ⟨g,i*11+8,none⟩=some (.slice (some ⟨gg,0,none⟩) x.all.length ac):=by rw[World.cell?_drewN];exact d8
   clear d8 a11 z2 z7 HFa HFw HFr HB1
   generalize w1.drewN nq=w2 at *
   have HFA:=hyd FA
   have HFW:=hyd FW
   have HFR:=hyd FR
   clear FA FW FR
   have ag0:w2.cell? ⟨gg,k*12,none⟩=some (.bool e.x.mrk):=HFA.out 0 _ rfl
   have ag1:=HFA.out 1 _ rfl
   have ag2:=HFA.out 2 _ rfl
   have ag3:=HFA.out 3 _ rfl
   have ag4:=HFA.out 4 _ rfl
   have ag5:w2.cell? ⟨gg,k*12+5,none⟩=some (.slice cva e.x.cl.length cvc):=by rw[<-Hcv.out];exact HFA.out 5 _ rfl
   have ag6:=HFA.out 6 _ rfl
   have ag7:=HFA.out 7 _ rfl
   have ag8:=HFA.out 8 _ rfl
   have ag9:=HFA.out 9 _ rfl
   have ag10:=HFA.out 10 _ rfl
   have hg2:g<w2.heap.size:=Nat.lt_of_lt_of_le xl HB2.out.size
   have hr2:rb<w2.heap.size:=Nat.lt_of_lt_of_le hrb HB2.out.size
   have hgn:g≠w2.heap.size:=by omega
   have hgn':w2.heap.size≠g:=by omega
   have w3:∀bk,(w2.alloc bk).cell? ⟨g,i*11+3,none⟩=some (.int .i64 x.pl.second):=fun bk=>(Below.cell ((Below.refl _ _).alloc (Nat.le_refl _) bk) (p:=⟨g,i*11+3,none⟩) hg2).trans (HFW.out 3 _ rfl)
   have w5:∀bk,(w2.alloc bk).cell? ⟨g,i*11+5,none⟩=some (.int .i64 x.pl.secondTy):=fun bk=>(Below.cell ((Below.refl _ _).alloc (Nat.le_refl _) bk) (p:=⟨g,i*11+5,none⟩) hg2).trans (HFW.out 5 _ rfl)
   go_wp2
   clear ag0 ag1 ag2 ag3 ag4 ag5 ag6 ag7 ag8 ag9 ag10 w3 w5 d8'
   have P3:Hid (PxAt w2.heap.size (w2.alloc (.cells #[.bool e.x.mrk,.int .i64 x.pl.secondTy,.int .i64 e.x.nu,.int .i64 e.x.ti,.int .i64 x.pl.second,.slice cva e.x.cl.length cvc,.bool e.x.ex,.int .i64 e.x.pr,.string e.x.en,.string e.x.py,.int .i64 e.x.pa] 41)) ⟨e.x.mrk,e.x.ex,x.pl.secondTy,e.x.nu,e.x.ti,x.pl.second,e.x.pr,e.x.pa,e.x.cl,e.x.en,e.x.py⟩ (.slice cva e.x.cl.length cvc)):=PxAt.new w2 ⟨e.x.mrk,e.x.ex,x.pl.secondTy,e.x.nu,e.x.ti,x.pl.second,e.x.pr,e.x.pa,e.x.cl,e.x.en,e.x.py⟩ (.slice cva e.x.cl.length cvc) 41
   have HB3:Hid (Below w.heap.size w (w2.alloc (.cells #[.bool e.x.mrk,.int .i64 x.pl.secondTy,.int .i64 e.x.nu,.int .i64 e.x.ti,.int .i64 x.pl.second,.slice cva e.x.cl.length cvc,.bool e.x.ex,.int .i64 e.x.pr,.string e.x.en,.string e.x.py,.int .i64 e.x.pa] 41))):=HB2.out.alloc HB2.out.size _
   have hs0:w.heap.size<=w2.heap.size:=HB2.out.size
   generalize w2.alloc (.cells #[.bool e.x.mrk,.int .i64 x.pl.secondTy,.int .i64 e.x.nu,.int .i64 e.x.ti,.int .i64 x.pl.second,.slice cva e.x.cl.length cvc,.bool e.x.ex,.int .i64 e.x.pr,.string e.x.en,.string e.x.py,.int .i64 e.x.pa] 41)=W3 at *
   clear HFA HFW HFR HB2
   generalize w2.heap.size=s0 at *
   have HS3:Hid (Two ⟨g,i*11+7,none⟩ ⟨g,i*11+10,none⟩ (.int .i64 x.pl.secondFirst) (.int .i64 x.second) W3):=⟨(HB3.out.cell (p:=⟨g,i*11+7,none⟩) xl).trans (HWs.out 7 _ rfl),(HB3.out.cell (p:=⟨g,i*11+10,none⟩) xl).trans (HWs.out 10 _ rfl)⟩
   have hw6:IntKind.i64.wrap (x.pl.secondFirst+x.second)=x.pl.secondFirst+x.second:=i64_id _ (by omega) (by omega)
   refine wp_region_noPanic ?_
   refine wp_region_held_drew (S:=Two ⟨g,i*11+7,none⟩ ⟨g,i*11+10,none⟩ (.int .i64 x.pl.secondFirst) (.int .i64 x.second)) (by kernel_rfl) HS3.out (fun zH=>?_)
   refine tka 0 ?_
   refine tka 1 ?_
   refine tka 2 ?_
   refine tka 3 ?_
   refine tka 4 ?_
   refine tka 5 ?_
   refine tka 6 ?_
   refine tka 7 ?_
   refine tka 8 ?_
   refine tka 9 ?_
   refine rd1 10 fun K hK=>?_
   go_simp
   refine(refRound_any _ _).mono ?_
   rintro e' w4 ⟨rfl,hw4⟩
   rw[hw4]
   clear hw4
   go_simp
   refine hK.out _ _ zH (fun zH=>?_)
   clear hK K
   refine tka 11 ?_
   have P3d:=P3.out.below (Below.refl _ _).drew
   have q2:=P3d.k 2 _ rfl
   have qf:=P3d.f
   refine rd1 12 fun K hK=>?_
   go_simp
   have P4:=(P3.out.set (x':=⟨e.x.mrk,e.x.ex,x.pl.secondTy,(x.pl.secondFirst+x.second)%65536,e.x.ti,x.pl.second,e.x.pr,e.x.pa,e.x.cl,e.x.en,e.x.py⟩) 2 (.int .i64 ((x.pl.secondFirst+x.second)%65536)) rfl).below (Below.refl _ _).drew
   have B4:=(HB3.out.setCell (p:=⟨s0,2,none⟩) hs0 (.int .i64 ((x.pl.secondFirst+x.second)%65536))).drew
   refine hK.out _ _ (Two.chg zH ((Chg.refl (fun b=>b=s0) _).setCell ⟨s0,2,none⟩ (.inl rfl) _) hgn hgn) (fun zH=>?_)
   clear hK K
   refine doN ?_
   have HP4:=hyd P4
   have HB4:=hyd B4
   clear P3 P3d P4 B4 HB3 HS3 zH q2 qf
   generalize (W3.setCell ⟨s0,2,none⟩ (.int .i64 ((x.pl.secondFirst+x.second)%65536))).drew=W4 at *
   generalize hnu:(x.pl.secondFirst+x.second)%65536=nu' at *
   have Hnu:=hyd hnu
   clear hnu
   have q10:W4.cell? ⟨s0,10,none⟩=some (.int .i64 e.x.pa):=HP4.out.k 10 _ rfl
   have qf:∀o,W4.frozen? ⟨s0,o,none⟩=false:=HP4.out.f
   have HP5:Hid (PxAt s0 (W4.setCell ⟨s0,10,none⟩ (.int .i64 0)) ⟨e.x.mrk,e.x.ex,x.pl.secondTy,nu',e.x.ti,x.pl.second,e.x.pr,0,e.x.cl,e.x.en,e.x.py⟩ (.slice cva e.x.cl.length cvc)):=HP4.out.set 10 _ rfl
   have HB5:Hid (Below w.heap.size w (W4.setCell ⟨s0,10,none⟩ (.int .i64 0))):=HB4.out.setCell (p:=⟨s0,10,none⟩) hs0 _
   go_simp
   go_wp2
   clear q10 qf HP4 HB4
   generalize W4.setCell ⟨s0,10,none⟩ (.int .i64 0)=W5 at *
   have g0:W5.cell? ⟨s0,0,none⟩=some (.bool e.x.mrk):=HP5.out.k 0 _ rfl
   refine wp_region_noPanic ?_
   refine wp_region_held_drew (S:=fun W=>W.cell? ⟨s0,0,none⟩=some (.bool e.x.mrk)) (by kernel_rfl) g0 (fun zH=>?_)
   have g9:W5.cell? ⟨s0,9,none⟩=some (.string e.x.py):=HP5.out.k 9 _ rfl
   refine tka 0 ?_
   refine tka 2 ?_
   refine wpAnyH_ready (rs:=[1,3]) (by kernel_rfl) (by simp) ?_
   refine AllReadyH.cons rfl (fun K hK=>?_) (AllReadyH.cons rfl (fun K hK=>?_) AllReadyH.nil)
   focus
    go_simp
    refine(refTold_int 2 n _ (by omega) hn.1 (by omega)).mono ?_
    rintro e' w6 ⟨⟨tt,rfl,htt,hts⟩,hb6⟩
    obtain rfl:=numB_of htt
    have P6:=(HP5.out.below (Below.refl _ _).drew).below hb6
    have B6:=(HB5.out.drew).trans (hb6.mono (by simpa using HB5.out.size))
    clear hb6 htt
    go_simp
    have p0:w6.cell? ⟨s0,0,none⟩=some (.bool e.x.mrk):=P6.k 0 _ rfl
    refine hK.out _ _ p0 (fun zH=>?_)
    clear hK K
    have g9:w6.cell? ⟨s0,9,none⟩=some (.string e.x.py):=P6.k 9 _ rfl
    refine rd1 3 fun K hK=>?_
    go_simp
    refine hK.out _ _ zH (fun zH=>?_)
    clear hK K
   rotate_left
   focus
    go_simp
    refine hK.out _ _ zH (fun zH=>?_)
    clear hK K
    refine rd1 1 fun K hK=>?_
    go_simp
    refine(refTold_int 2 n _ (by omega) hn.1 (by omega)).mono ?_
    rintro e' w6 ⟨⟨tt,rfl,htt,hts⟩,hb6⟩
    obtain rfl:=numB_of htt
    have P6:=(HP5.out.below (Below.refl _ _).drew).below hb6
    have B6:=(HB5.out.drew).trans (hb6.mono (by simpa using HB5.out.size))
    clear hb6 htt
    go_simp
    have p0:w6.cell? ⟨s0,0,none⟩=some (.bool e.x.mrk):=P6.k 0 _ rfl
    refine hK.out _ _ p0 (fun zH=>?_)
    clear hK K
    have g9:w6.cell? ⟨s0,9,none⟩=some (.string e.x.py):=P6.k 9 _ rfl
   all_goals
    have hsum:¬9223372036854775807<2+e.x.py.size:=by omega
    have hnbs:(numB n.toNat).size=2:=rfl
    refine rd1 4 fun K hK=>?_
    go_simp
    refine hK.out _ _ zH (fun zH=>?_)
    clear hK K
    refine tka 5 ?_
    have qf6:=P6.f
    refine rd1 6 fun K hK=>?_
    go_simp
    have P7:=P6.set (x':=⟨e.x.mrk,e.x.ex,x.pl.secondTy,nu',e.x.ti,x.pl.second,e.x.pr,0,e.x.cl,e.x.en,numB n.toNat++e.x.py⟩) 9 (.string (numB n.toNat++e.x.py)) rfl
    have B7:=B6.setCell (p:=⟨s0,9,none⟩) hs0 (.string (numB n.toNat++e.x.py))
    have p7:(w6.setCell ⟨s0,9,none⟩ (.string (numB n.toNat++e.x.py))).cell? ⟨s0,0,none⟩=some (.bool e.x.mrk):=P7.k 0 _ rfl
    refine hK.out _ _ p7 (fun zH=>?_)
    clear hK K
    refine doN ?_
    have HP7:=hyd P7
    have HB7:=hyd B7
    have hps:(numB n.toNat++e.x.py).size<=1000002:=by rw[ByteArray.size_append,hnbs];omega
    clear P7 B7 p7 P6 B6 qf6 g9 zH hts hsum hnbs
    generalize w6.setCell ⟨s0,9,none⟩ (.string (numB n.toNat++e.x.py))=W7 at *
    generalize hpp:numB n.toNat++e.x.py=py' at *
    have HTX:Hid (tellX (rAgainX x e n)=tellR e.x.mrk e.x.ex x.pl.secondTy nu' e.x.ti x.pl.second e.x.pr 0 e.x.cl e.x.en py'):=by
     show _=_
     unfold tellX rAgainX
     simp only
     rw[hpp,Hnu.out]
    clear hpp
    have q0:W7.cell? ⟨s0,0,none⟩=some (.bool e.x.mrk):=HP7.out.k 0 _ rfl
    have q1:W7.cell? ⟨s0,1,none⟩=some (.int .i64 x.pl.secondTy):=HP7.out.k 1 _ rfl
    have q2:W7.cell? ⟨s0,2,none⟩=some (.int .i64 nu'):=HP7.out.k 2 _ rfl
    have q3:W7.cell? ⟨s0,3,none⟩=some (.int .i64 e.x.ti):=HP7.out.k 3 _ rfl
    have q4:W7.cell? ⟨s0,4,none⟩=some (.int .i64 x.pl.second):=HP7.out.k 4 _ rfl
    have q5:W7.cell? ⟨s0,5,none⟩=some (.slice cva e.x.cl.length cvc):=HP7.out.k 5 _ rfl
    have q6:W7.cell? ⟨s0,6,none⟩=some (.bool e.x.ex):=HP7.out.k 6 _ rfl
    have q7:W7.cell? ⟨s0,7,none⟩=some (.int .i64 e.x.pr):=HP7.out.k 7 _ rfl
    have q8:W7.cell? ⟨s0,8,none⟩=some (.string e.x.en):=HP7.out.k 8 _ rfl
    have q9:W7.cell? ⟨s0,9,none⟩=some (.string py'):=HP7.out.k 9 _ rfl
    have q10:W7.cell? ⟨s0,10,none⟩=some (.int .i64 0):=HP7.out.k 10 _ rfl
    have HIs:Hid (IsInts w.heap.size W7 (.slice cva e.x.cl.length cvc) e.x.cl):=by
     rw[<-Hcv.out]
     exact HIc.out.isInts.carry HB7.out
    go_wp2_with fail
    refine(refTell_any e.x.mrk e.x.ex x.pl.secondTy nu' e.x.ti x.pl.second e.x.pr 0 (.slice cva e.x.cl.length cvc) e.x.cl e.x.en py' _ w.heap.size HB7.out.size HIs.out (by omega) (by omega) (by omega)).mono ?_
    rintro e' w8 ⟨rfl,hb8⟩
    have HB8:Hid (Below w.heap.size w w8):=HB7.out.trans (hb8.mono HB7.out.size)
    clear hb8 q0 q1 q2 q3 q4 q5 q6 q7 q8 q9 q10 HIs HP7 HB7
    generalize tellR e.x.mrk e.x.ex x.pl.secondTy nu' e.x.ti x.pl.second e.x.pr 0 e.x.cl e.x.en py'=TR at *
    obtain⟨t1,t2⟩:=TR
    have E1:Hid (X=if t2≠0\/R.s.tokens<t1.size then(R,none)else({ R with s:={ R.s with tokens:=R.s.tokens-t1.size },wns:=R.wns.set i { x with all:=x.all.set k { e with again:=R.s.now },second:=x.second+1 } },some t1)):=by
     show _=_
     rw[E0.out,if_neg HG.out,HTX.out]
    have z8:w8.cell? ⟨rb,8,none⟩=some (.int .i64 R.s.tokens):=(HB8.out.cell (p:=⟨rb,8,none⟩) hrb).trans y8
    go_simp
    by_cases ht2:t2=0
    ·by_cases htk:R.s.tokens<t1.size
     ·have E:Hid (X=(R,none)):=by show _=_;rw[E1.out,if_pos (.inr htk)]
      have h2b:(t2 != 0)=false:=by simp[ht2]
      subst ht2
      go_wp2
      go_ret2
      exact⟨by rw[E.out];rfl,ρ,by rw[E.out];exact H.out.below HB8.out,RMv.below HB8.out⟩
     ·have htk':decide (R.s.tokens<(t1.size:Int))=false:=decide_eq_false htk
      have E:Hid (X=({ R with s:={ R.s with tokens:=R.s.tokens-t1.size },wns:=R.wns.set i { x with all:=x.all.set k { e with again:=R.s.now },second:=x.second+1 } },some t1)):=by
       show _=_
       rw[E1.out,if_neg (fun e=>by rcases e with e|e;exact e ht2;exact htk e)]
      subst ht2
      have HS8:Hid (Two ⟨g,i*11+8,none⟩ ⟨rb,7,none⟩ (.slice (some ⟨gg,0,none⟩) x.all.length ac) (.int .i64 R.s.now) w8):=⟨(HB8.out.cell (p:=⟨g,i*11+8,none⟩) xl).trans c8,(HB8.out.cell (p:=⟨rb,7,none⟩) hrb).trans y7⟩
      have ha11:w8.cell? ⟨gg,k*12+11,none⟩=some (.int .i64 e.again):=(HB8.out.cell (p:=⟨gg,k*12+11,none⟩) hgg).trans (HAs.out 11 _ rfl)
      have haf:∀o,w8.frozen? ⟨gg,o,none⟩=false:=fun o=>(HB8.out.frozen (p:=⟨gg,o,none⟩) hgg).trans (Hrow.out.1.frozenAt o)
      have hggr:ρ gg=1000+x.id.toNat:=Hrow.out.2 gg rfl
      have hne1:gg≠g:=fun e=>by rw[e,Hxr.out]at hggr;omega
      have hne2:gg≠rb:=fun e=>by rw[e,Hrm.out]at hggr;omega
      have c9:Chg (fun b=>b=gg) w8 ((w8.setCell ⟨gg,k*12+11,none⟩ (.int .i64 R.s.now)).drew):=((Chg.refl (fun b=>b=gg) _).setCell ⟨gg,k*12+11,none⟩ (.inl rfl) _).drew
      have M9:Hid (RMid w ρ rb R sv (.slice (some ⟨g,0,none⟩) R.wns.length cap) (fun b=>ρ b=1000+x.id.toNat\/ρ b=1\/ρ b=3) ((w8.setCell ⟨gg,k*12+11,none⟩ (.int .i64 R.s.now)).drew)):=(⟨Chg.ofBelow HB8.out,(H.out.below HB8.out).k,(H.out.below HB8.out).fz,(H.out.below HB8.out).sr,(H.out.below HB8.out).wr⟩:RMid w ρ rb R sv (.slice (some ⟨g,0,none⟩) R.wns.length cap) (fun b=>ρ b=1000+x.id.toNat\/ρ b=1\/ρ b=3) w8).chg Hrm.out c9 (fun b e=>by rw[e,hggr];omega) (fun b _ e=>by rw[e];exact .inl hggr)
      have R9:Hid (((w8.setCell ⟨gg,k*12+11,none⟩ (.int .i64 R.s.now)).drew).ownsRow 0 152 12 (.slice (some ⟨gg,0,none⟩) x.all.length ac) x.all.length ((x.all.set k { e with again:=R.s.now }).flatMap cRe)):=by
       have h1:=(rowA_chg (Chg.ofBelow (T:=fun _=>False) HB8.out) Hrow.out.1 (fun _ _ e=>e))
       have h2:=(h1.stored (k*12+11) (.int .i64 R.s.now)).1
       rw[flat_set cRe_len { e with again:=R.s.now } (.int .i64 R.s.now) 11 (by omega) x.all k hkl (by rw[Hke.out];rfl)]at h2
       exact World.ownsRow.drew h2
      clear hggr
      go_wp2
      refine wp_region_noPanic ?_
      refine wp_region_held_drew (S:=Two ⟨g,i*11+8,none⟩ ⟨rb,7,none⟩ (.slice (some ⟨gg,0,none⟩) x.all.length ac) (.int .i64 R.s.now)) (by kernel_rfl) HS8.out (fun zH=>?_)
      refine tka 0 ?_
      refine tka 1 ?_
      refine tka 2 ?_
      refine tka 3 ?_
      refine tka 4 ?_
      refine tka 5 ?_
      refine tka 6 ?_
      refine tka 7 ?_
      refine tka 8 ?_
      refine tka 9 ?_
      refine tka 10 ?_
      refine tka 11 ?_
      refine rd1 12 fun K hK=>?_
      go_simp
      refine hK.out _ _ (Two.chg zH ((Chg.refl (fun b=>b=gg) _).setCell ⟨gg,k*12+11,none⟩ (.inl rfl) _) (fun e=>hne1 e.symm) (fun e=>hne2 e.symm)) (fun zH=>?_)
      clear hK K
      refine doN ?_
      clear ha11 haf zH c9 z8 HS8
      generalize ((w8.setCell ⟨gg,k*12+11,none⟩ (.int .i64 R.s.now)).drew)=W9 at *
      have v10:W9.cell? ⟨g,i*11+10,none⟩=some (.int .i64 x.second):=by
       have h1:=M9.out.wr.1.cellAt (i*11+10) (by omega)
       rw[flat_at cRw_len R.wns i 10 hil (by omega),Hxe.out]at h1
       exact h1
      have vg:∀o,W9.frozen? ⟨g,o,none⟩=false:=fun o=>M9.out.wr.1.frozenAt o
      have v8:W9.cell? ⟨rb,8,none⟩=some (.int .i64 R.s.tokens):=M9.out.k 8 _ rfl
      have vr:∀o,W9.frozen? ⟨rb,o,none⟩=false:=M9.out.fz
      have hw9:IntKind.i64.wrap (x.second+1)=x.second+1:=i64_id _ (by omega) (by omega)
      have hw8:IntKind.i64.wrap (R.s.tokens-(t1.size:Int))=R.s.tokens-(t1.size:Int):=i64_id _ (by omega) (by omega)
      have HE:Hid (RdAt ((W9.setCell ⟨g,i*11+10,none⟩ (.int .i64 (x.second+1))).setCell ⟨rb,8,none⟩ (.int .i64 (R.s.tokens-(t1.size:Int)))) ρ rb { R with s:={ R.s with tokens:=R.s.tokens-t1.size },wns:=R.wns.set i { x with all:=x.all.set k { e with again:=R.s.now },second:=x.second+1 } } sv (.slice (some ⟨g,0,none⟩) R.wns.length cap)/\RMv w ρ ((W9.setCell ⟨g,i*11+10,none⟩ (.int .i64 (x.second+1))).setCell ⟨rb,8,none⟩ (.int .i64 (R.s.tokens-(t1.size:Int)))) ρ):=by
       have M10:=M9.out.setW (i:=i) (g:=g) (cap:=cap) Hrm.out rfl (.inl (.inr (.inr Hxr.out))) hil 10 (by omega) (.int .i64 (x.second+1)) { x with all:=x.all.set k { e with again:=R.s.now },second:=x.second+1 } (by rw[Hxe.out];rfl)
       have M11:=M10.put (R':={ R with s:={ R.s with tokens:=R.s.tokens-t1.size },wns:=R.wns.set i { x with all:=x.all.set k { e with again:=R.s.now },second:=x.second+1 } }) Hrm.out (.inr (.inl Hrm.out)) 8 (.int .i64 (R.s.tokens-(t1.size:Int))) rfl rfl rfl
       have cA:Chg (fun b=>b=g\/b=rb) W9 ((W9.setCell ⟨g,i*11+10,none⟩ (.int .i64 (x.second+1))).setCell ⟨rb,8,none⟩ (.int .i64 (R.s.tokens-(t1.size:Int)))):=((Chg.refl (fun b=>b=g\/b=rb) _).setCell ⟨g,i*11+10,none⟩ (.inl (.inl rfl)) _).setCell ⟨rb,8,none⟩ (.inl (.inr rfl)) _
       refine RMid.endW (x:=x) (x':={ x with all:=x.all.set k { e with again:=R.s.now },second:=x.second+1 }) H.out M11 (fun b e=>e) Hx.out rfl rfl rfl (fun _ _=>rfl) (fun b hb=>H.out.hi b (Nat.le_trans M11.c.size hb)) ⟨?_,fun b e=>?_⟩ (fun e' he'=>?_)
       ·simp only[List.length_set]
        rw[Hav.out]
        exact rowA_chg cA R9.out (fun b e e'=>by
         have hb:b=gg:=by simpa[Value.ownBlock]using e.symm
         rcases e' with e'|e'
         ·exact hne1 (hb.symm.trans e')
         ·exact hne2 (hb.symm.trans e'))
       ·simp only at e
        rw[Hav.out]at e
        exact Hrow.out.2 b e
       ·have hC:IsC (fun b=>ρ b=4) w e'.cv e'.x.cl:=by
         rcases List.mem_or_eq_of_mem_set he' with h1|h1
         ·exact Hcon.out e' h1
         ·rw[h1];exact HIc.out
        exact hC.chg M11.c (fun b hb e=>by rcases e with e|e|e<;>omega)
      clear M9 R9
      go_wp2
      go_ret2
      exact⟨by rw[E.out];rfl,ρ,by rw[E.out];exact HE.out.1,HE.out.2⟩
    ·have E:Hid (X=(R,none)):=by show _=_;rw[E1.out,if_pos (.inl ht2)]
     have h2b:(t2 != 0)=true:=by simp[ht2]
     go_wp2
     go_ret2
     exact⟨by rw[E.out];rfl,ρ,by rw[E.out];exact H.out.below HB8.out,RMv.below HB8.out⟩
end Go.Proofs.YtdjhhnolcafkiaaGreat
namespace Go.Proofs.YtdjhhnolcafkiaaGreat
open Go.RowKit
namespace Pk
def RRel (w0:World) (ρ0:Nat->Nat) (rb:Nat) (sv wv:Value) (S:Rm × List ByteArray) (tv:Value) (W:World):Prop:=
 ∃ρ',RdAt W ρ' rb S.1 sv wv/\RMv w0 ρ0 W ρ'/\W.ownsRow w0.heap.size 9 1 tv S.2.length (S.2.map Value.string)/\∀b,tv.ownBlock=some b->ρ' b=0
structure RSt (R:Rm) (k:Nat) (x:Rw) (m:Nat) (S:Rm × List ByteArray):Prop where
 rb:RB S.1 m
 c:S.1.c=R.c
 l:S.1.wns.length=R.wns.length
 x:∃x',S.1.wns[k]? = some x'/\x'.pl=x.pl
 o:S.2.length<=m
theorem RSt.num {R:Rm}{k m ring:Nat}{x:Rw}{S:Rm × List ByteArray}(h:RSt R k x m S) (n:Int):RSt R k x (m+1) (rNum k ring S n):=by
 obtain⟨x',hx',hpl⟩:=h.x
 obtain⟨a,b,c,-,d,e⟩:=RB.num (at_:=k) (ring:=ring) (out:=S.2) (n:=n) h.rb
 obtain⟨y,hy,hp⟩:=d x' hx'
 exact⟨a,b.trans h.c,c.trans h.l,⟨y,hy,hp.trans hpl⟩,Nat.le_trans e (by have:=h.o;omega)⟩
theorem rNums1_take (k ring:Nat) (S:Rm × List ByteArray) (l:List Int) (j:Nat) (h:j<l.length):rNums1 k ring S (l.take (j+1))=rNum k ring (rNums1 k ring S (l.take j)) l[j]:=by
 unfold rNums1
 rw[List.take_succ_eq_append_getElem h,List.foldl_append]
 rfl
theorem rAsks_take (k ring:Nat) (src:Int) (S:Rm × List ByteArray) (l:List (Int × List Int)) (j:Nat) (h:j<l.length):rAsks k ring src S (l.take (j+1))=if(l[j]).1=src then rNums1 k ring (rAsks k ring src S (l.take j)) (l[j]).2 else rAsks k ring src S (l.take j):=by
 unfold rAsks
 rw[List.take_succ_eq_append_getElem h,List.foldl_append]
 rfl
theorem RRel.below {w0 W W':World}{ρ0:Nat->Nat}{rb:Nat}{sv wv tv:Value}{S:Rm × List ByteArray}(h:RRel w0 ρ0 rb sv wv S tv W) (hb:Below W.heap.size W W'):RRel w0 ρ0 rb sv wv S tv W':=by
 obtain⟨ρ',a,b,c,d⟩:=h
 exact⟨ρ',a.below hb,b.trans (RMv.below hb),rowA_chg (Chg.ofBelow (T:=fun _=>False) hb) c (fun _ _ e=>e),d⟩
end Pk
open Pk
theorem refReport_any (ρ:Nat->Nat) (rb:Nat) (R:Rm) (sv wv:Value) (id:Int) (t:ByteArray) (ring:Nat) (w:World) (h:RdAt w ρ rb R sv wv) (hring:R.c.ring=(ring:Int)) (hrl:ring<=100) (hok:RB R 0) (hwr:0<=R.s.wrong/\R.s.wrong<=100000000000000) (ht:t.size<=maxLen) :
  Calls Tryz.prog 51 #[.pointer (some ⟨rb,0,none⟩),.int .i64 id,.string t] w fun e w'=>∃tv,e = .returned (.tuple #[tv,.int .i64 (rReport R id t ring).2.2])/\w'.ownsRow w.heap.size 9 1 tv (rReport R id t ring).2.1.length ((rReport R id t ring).2.1.map Value.string)/\∃ρ',RdAt w' ρ' rb (rReport R id t ring).1 sv wv/\RMv w ρ w' ρ'/\∀b,tv.ownBlock=some b->ρ' b=0:=by
 have H:=hyd h
 have Hok:=hyd hok
 have hlt:=h.lt
 have Hrm:Hid (ρ rb=1):=h.rm
 have HRG:=hyd hring
 have Ht:=hyd ht
 obtain⟨X,hX⟩:∃X,rReport R id t ring=X:=⟨_,rfl⟩
 have HX:=hyd hX
 rw[hX]
 clear h hok hring ht hX
 go_enter Tryz.func51,Tryz.ntmps51
 go_wp2_with fail
 refine(refWant_any ρ rb R sv wv id _ H.out).mono ?_
 rintro e w1 ⟨rfl,hw1⟩
 rw[hw1]
 clear hw1
 cases hp:rwPos R id with
 | none=>
  have E:Hid (X=(R,[],4)):=by show _=_;rw[<-HX.out];unfold rReport;rw[hp]
  clear hp
  unfold optI
  go_wp2
  go_ret2
  exact⟨_,by rw[E.out];rfl,by rw[E.out];exact World.ownsRow_nil _ _ _ _,ρ,by rw[E.out];exact H.out,RMv.refl _ _,fun b e=>by cases e⟩
 | some k=>
  obtain⟨hkl,-,-⟩:=List.findIdx?_eq_some_iff_getElem.1 hp
  have Hp:=hyd hp
  clear hp
  unfold optI
  have hk0:¬(k:Int)<0:=by omega
  go_wp2_with fail
  refine(refRep_any t _ Ht.out).mono ?_
  rintro e w2 ⟨hb2,hr2⟩
  have HB2:=hyd hb2
  have H2:Hid (RdAt w2 ρ rb R sv wv):=H.out.below hb2
  have hsz2:=hb2.size
  clear hb2
  cases hrep:repR t with
  | none=>
   rw[hrep]at hr2
   have hr3:e = .returned wrongR:=hr2
   subst hr3
   have E:Hid (X=({ R with s:={ R.s with wrong:=R.s.wrong+1 } },[],1)):=by show _=_;rw[<-HX.out];unfold rReport;rw[Hp.out];simp only[hrep]
   have y12:w2.cell? ⟨rb,12,none⟩=some (.int .i64 R.s.wrong):=H2.out.k 12 _ rfl
   have yf:=H2.out.fz
   have hww:IntKind.i64.wrap (R.s.wrong+1)=R.s.wrong+1:=i64_id _ (by omega) (by omega)
   have HE:Hid (RdAt (w2.setCell ⟨rb,12,none⟩ (.int .i64 (R.s.wrong+1))) ρ rb { R with s:={ R.s with wrong:=R.s.wrong+1 } } sv wv):=H2.out.put 12 _ rfl rfl rfl
   have HM:Hid (RMv w ρ (w2.setCell ⟨rb,12,none⟩ (.int .i64 (R.s.wrong+1))) ρ):=(RMv.below HB2.out).trans ⟨fun _ _ e=>e,(Chg.refl _ _).setCell ⟨rb,12,none⟩ (.inl (by show ρ rb≠0;rw[Hrm.out];decide)) _⟩
   unfold wrongR
   clear hrep hr2
   go_wp2
   go_ret2
   exact⟨_,by rw[E.out];rfl,by rw[E.out];exact World.ownsRow_nil _ _ _ _,ρ,by rw[E.out];exact HE.out,HM.out,fun b e=>by cases e⟩
  | some L=>
   rw[hrep]at hr2
   obtain⟨lv,xs,rfl,hown,hm⟩:=hr2
   have HIN:Hid (∀y∈L,In16 y.2.2):=repR_in16 hrep
   obtain⟨x,hx⟩:∃x,R.wns[k]=x:=⟨_,rfl⟩
   have hxk:R.wns[k]? = some x:=by rw[List.getElem?_eq_getElem hkl,hx]
   have HAL:Hid (askL xs=repL L):=askL_of hm
   have E:Hid (X=((rAsks k ring x.pl.source (R,[]) (askL xs)).1,(rAsks k ring x.pl.source (R,[]) (askL xs)).2,0)):=by
    show _=_
    rw[<-HX.out,HAL.out]
    unfold rReport
    rw[Hp.out]
    simp only[hrep,hxk]
    rfl
   obtain⟨g,cap,hwv,xcs,-,xl,-⟩:=H2.out.wntAt hxk
   subst hwv
   have y19:w2.cell? ⟨rb,19,none⟩=some (.slice (some ⟨g,0,none⟩) R.wns.length cap):=H2.out.k 19 _ rfl
   obtain⟨la,lc,rfl⟩:=rowA_shape hown.row
   have HA:=hyd hown
   have hxl:xs.length<=1500:=by
    have h1:=repR_len hrep
    have h2:=congrArg List.length HAL.out
    unfold askL repL at h2
    rw[List.length_map,List.length_map]at h2
    omega
   have Hz:Hid (∀b,w.heap.size<=b->ρ b=0):=H.out.hi
   have HI16:Hid (∀(q:Nat) (X:Ask1),xs[q]? = some X->In16 X.l):=fun q X hq=>by
    have h1:(X.b,X.l)∈repL L:=by rw[<-HAL.out];exact List.mem_map.2 ⟨X,List.mem_of_getElem? hq,rfl⟩
    unfold repL at h1
    obtain⟨y,hy,hye⟩:=List.mem_map.1 h1
    have h2:=HIN.out y hy
    rw[Prod.mk.injEq]at hye
    rw[<-hye.2]
    exact h2
   have hkl':(k:Int)<(R.wns.length:Int):=by omega
   have hw8:=H.out.w8
   have HR0:Hid (RRel w2 ρ rb sv (.slice (some ⟨g,0,none⟩) R.wns.length cap) (rAsks k ring x.pl.source (R,[]) ((askL xs).take 0)) (.slice none 0 0) w2):=⟨ρ,H2.out,RMv.refl _ _,World.ownsRow_nil _ _ _ _,fun b e=>by cases e⟩
   have HS0:Hid (RSt R k x (6400*0) (rAsks k ring x.pl.source (R,[]) ((askL xs).take 0))):=⟨Hok.out,rfl,rfl,⟨x,hxk,rfl⟩,Nat.zero_le _⟩
   obtain⟨i0,hi0,hz0,hz1,hz2⟩:=info_parts infoT
   have Hi:Hid (Tryz.prog.info? 9=some i0/\i0.zero=some (.string ⟨#[]⟩)/\i0.size=1/\i0.bytes=16):=⟨hi0,hz0,hz1,hz2⟩
   obtain⟨src,hsrc⟩:∃src,x.pl.source=src:=⟨_,rfl⟩
   rw[hsrc]at E HR0 HS0
   have Hsrc:=hyd hsrc
   clear hi0 hz0 hz1 hz2 hown hm hrep hx hxk xcs hsrc
   go_wp2
   go_loopw [12,13] (fun s12 s13 wr=>∃q:Nat,q<=xs.length/\s13 = .int .i64 q/\RRel w2 ρ rb sv (.slice (some ⟨g,0,none⟩) R.wns.length cap) (rAsks k ring src (R,[]) ((askL xs).take q)) s12 wr/\RSt R k x (6400*q) (rAsks k ring src (R,[]) ((askL xs).take q))) (fun _ s13 _=>xs.length-(intOf s13).toNat)
   case atStart=>exact⟨0,Nat.zero_le _,rfl,HR0.out,HS0.out⟩
   case round=>
    obtain⟨q,hq,rfl,hR,hS⟩:=hrel
    obtain⟨va,vc,rfl⟩:∃a c,_=Value.slice a (rAsks k ring src (R,[]) ((askL xs).take q)).2.length c:=by obtain⟨_,_,_,c,_⟩:=hR;exact rowA_shape c
    have HR:=hyd hR
    have HS:=hyd hS
    clear hR hS HR0 HS0
    by_cases hqx:q<xs.length
    ·have hqx':(q:Int)<xs.length:=by omega
     have hqa:q<(askL xs).length:=by unfold askL;rw[List.length_map];exact hqx
     obtain⟨XX,hXX⟩:∃XX,xs[q]=XX:=⟨_,rfl⟩
     have hXq:xs[q]? = some XX:=by rw[List.getElem?_eq_getElem hqx,hXX]
     have HT:Hid (rAsks k ring src (R,[]) ((askL xs).take (q+1))=if XX.b=src then rNums1 k ring (rAsks k ring src (R,[]) ((askL xs).take q)) XX.l else rAsks k ring src (R,[]) ((askL xs).take q)):=by
      have h1:=rAsks_take k ring src (R,[]) (askL xs) q hqa
      have h2:(askL xs)[q]=(XX.b,XX.l):=by simp[askL,hXX]
      rw[h2]at h1
      exact h1
     obtain⟨hXo,hXl⟩:=HA.out.each q XX hXq
     obtain⟨xa,xc,hxv⟩:=hXo.shape
     have HXo:Hid (OwnInts w2 w.heap.size (.slice xa XX.l.length xc) XX.l):=by rw[<-hxv];exact hXo
     have HX16:Hid (In16 XX.l):=HI16.out q XX hXq
     obtain⟨lg,rfl⟩:=rowA_some HA.out.row (by omega)
     have hlgz:ρ lg=0:=Hz.out lg (HA.out.row.lt lg rfl).1
     have HD:Hid (∀W:World,Chg (fun b=>ρ b≠0) w2 W->W.cell? ⟨lg,q*3+1,none⟩=some (.int .i64 XX.b)/\W.cell? ⟨lg,q*3+2,none⟩=some (.slice xa XX.l.length xc)):=fun W hc=>by
      have h1:=HA.out.row.cellAt (q*3+1) (by omega)
      have h2:=HA.out.row.cellAt (q*3+2) (by omega)
      unfold flatA at h1 h2
      rw[flat_at (k:=3) (fun _=>rfl) xs q 1 hqx (by omega),hXX]at h1
      rw[flat_at (k:=3) (fun _=>rfl) xs q 2 hqx (by omega),hXX]at h2
      refine⟨hc.cell h1 (fun e=>e hlgz),?_⟩
      rw[<-hxv]
      exact hc.cell h2 (fun e=>e hlgz)
     have HXz:Hid (∀b,(Value.slice xa XX.l.length xc).ownBlock=some b->ρ b=0):=fun b e=>Hz.out b (HXo.out.lt b e).1
     generalize hSS:rAsks k ring src (R,[]) ((askL xs).take q)=SS at *
     clear hSS hXX hXq hXo hxv hqa
     go_wp2
     go_loopw [12,14] (fun s12 s14 wi=>∃j:Nat,j<=XX.l.length/\(XX.b≠src->j=0)/\s14 = .int .i64 j/\RRel w2 ρ rb sv (.slice (some ⟨g,0,none⟩) R.wns.length cap) (rNums1 k ring SS (XX.l.take j)) s12 wi/\RSt R k x (6400*q+j) (rNums1 k ring SS (XX.l.take j))) (fun _ s14 _=>XX.l.length-(intOf s14).toNat)
     case atStart=>exact⟨0,Nat.zero_le _,fun _=>rfl,rfl,HR.out,HS.out⟩
     case round=>
      obtain⟨j,hj,hj0,rfl,hR,hS⟩:=hrel
      clear HR HS
      obtain⟨va,vc,rfl⟩:∃a c,_=Value.slice a (rNums1 k ring SS (XX.l.take j)).2.length c:=by obtain⟨_,_,_,c,_⟩:=hR;exact rowA_shape c
      have HR:=hyd hR
      have HS:=hyd hS
      have Hnext:Hid (∀(tv:Value) (W:World),(XX.b≠src->j=0)->(XX.b=src->j=XX.l.length)->RRel w2 ρ rb sv (.slice (some ⟨g,0,none⟩) R.wns.length cap) (rNums1 k ring SS (XX.l.take j)) tv W->RRel w2 ρ rb sv (.slice (some ⟨g,0,none⟩) R.wns.length cap) (rAsks k ring src (R,[]) ((askL xs).take (q+1))) tv W/\RSt R k x (6400*(q+1)) (rAsks k ring src (R,[]) ((askL xs).take (q+1)))):=fun tv W e1 e2 hRR=>by
       rw[HT.out]
       have hmono:∀(m m':Nat) (S:Rm × List ByteArray),m<=m'->RSt R k x m S->RSt R k x m' S:=fun m m' S hm h=>⟨⟨h.rb.now,h.rb.tok,by have:=h.rb.ag;omega,by have:=h.rb.rf;omega,fun y hy=>by obtain⟨a,b,c,d,e,f⟩:=h.rb.w y hy;exact⟨a,b,c,d,by omega,f⟩⟩,h.c,h.l,h.x,Nat.le_trans h.o hm⟩
       by_cases hsb:XX.b=src
       ·rw[if_pos hsb]
        have e3:XX.l.take j=XX.l:=List.take_of_length_le (by rw[e2 hsb];exact Nat.le_refl _)
        rw[e3]at hRR
        have hS':=HS.out
        rw[e3]at hS'
        exact⟨hRR,hmono _ _ _ (by omega) hS'⟩
       ·rw[if_neg hsb]
        have e3:=e1 hsb
        subst e3
        exact⟨hRR,hmono _ _ _ (by omega) HS.out⟩
      obtain⟨hd1,hd2⟩:wr.cell? ⟨lg,q*3+1,none⟩=some (.int .i64 XX.b)/\wr.cell? ⟨lg,q*3+2,none⟩=some (.slice xa XX.l.length xc):=by obtain⟨_,_,b,_,_⟩:=hR;exact HD.out wr b.2
      have hsc:wr.cell? ⟨g,k*11+2,none⟩=some (.int .i64 src):=by
       obtain⟨_,a,_,_,_⟩:=hR
       obtain⟨x',hx',hpl⟩:=hS.x
       obtain⟨g',cap',hsl,xs',-,-,-⟩:=a.wntAt hx'
       simp only[Value.slice.injEq,Option.some.injEq,Addr.mk.injEq,true_and,and_true]at hsl
       have h1:=xs' 2 (.int .i64 x'.pl.source) rfl
       rw[hpl,Hsrc.out,<-hsl.1]at h1
       exact h1
      clear hR hS
      by_cases hjl:j<XX.l.length
      ·have hjl':(j:Int)<(XX.l.length:Int):=by omega
       by_cases hsb:XX.b=src
       ·have hsbb:(XX.b == src)=true:=by simp[hsb]
        obtain⟨n,hnj⟩:∃n,XX.l[j]=n:=⟨_,rfl⟩
        have hn16:0<=n/\n<=65535:=HX16.out n (hnj▸List.getElem_mem hjl)
        have HT2:Hid (rNums1 k ring SS (XX.l.take (j+1))=rNum k ring (rNums1 k ring SS (XX.l.take j)) n):=by show _=_;rw[rNums1_take _ _ _ _ _ hjl,hnj]
        have HS2:Hid (RSt R k x (6400*q+(j+1)) (rNum k ring (rNums1 k ring SS (XX.l.take j)) n)):=HS.out.num n
        obtain⟨xg,rfl⟩:=rowA_some HXo.out (by omega)
        have hnc:wr.cell? ⟨xg,j,none⟩=some (.int .i64 n):=by
         obtain⟨_,_,b,_,_⟩:=HR.out
         have h1:=HXo.out.cellAt j (by omega)
         rw[List.getElem?_map,List.getElem?_eq_getElem hjl,hnj]at h1
         exact b.2.cell h1 (fun e=>e (HXz.out xg rfl))
        generalize rNums1 k ring SS (XX.l.take j)=S1 at *
        clear hnj Hnext
        have HF:Hid (∀m,(wr.drewN m).cell? ⟨xg,j,none⟩=some (.int .i64 n)/\(wr.drewN m).cell? ⟨lg,q*3+2,none⟩=some (.slice (some ⟨xg,0,none⟩) XX.l.length xc)/\RRel w2 ρ rb sv (.slice (some ⟨g,0,none⟩) R.wns.length cap) S1 (.slice va S1.2.length vc) (wr.drewN m)):=fun m=>⟨by rw[World.cell?_drewN];exact hnc,by rw[World.cell?_drewN];exact hd2,HR.out.below (below_drewN (Below.refl _ _) m)⟩
        go_wp2
        go_big_quiet (fail)
        obtain⟨f1,f2,hRn⟩:=HF.out nq
        clear HF hd1 hd2 hsc hnc HR
        generalize wr.drewN nq=wn at *
        obtain⟨ρ1,r1,r2,r3,r4⟩:=hRn
        obtain⟨x',hx',hpl⟩:=HS.out.x
        have hrb1:=HS.out.rb
        have hSl:=HS.out.l
        have HR1:Hid (RdAt wn ρ1 rb S1.1 sv (.slice (some ⟨g,0,none⟩) S1.1.wns.length cap)):=by rw[hSl];exact r1
        have HR2:=hyd r2
        have HR3:=hyd r3
        have HR4:=hyd r4
        have Hx':Hid (S1.1.wns[k]? = some x'):=hx'
        have HBX:=hrb1.w x' (List.mem_of_getElem? hx')
        have HBx:=hyd HBX
        have Hrb1:=hyd hrb1
        have HSL:=hyd hSl
        have HSC:Hid (S1.1.c.ring=(ring:Int)):=by rw[HS.out.c];exact HRG.out
        clear r1 r2 r3 r4 hx' hpl hrb1 HBX hSl
        go_wp2_with fail
        refine(refAgain_any ρ1 rb g cap S1.1 sv k ring x' n _ HR1.out Hx'.out hn16 HSC.out hrl HBx.out.1 Hrb1.out.now Hrb1.out.tok HBx.out.2.1 HBx.out.2.2.1 ⟨HBx.out.2.2.2.1,by have:=HBx.out.2.2.2.2.1;omega,HBx.out.2.2.2.2.2⟩).mono ?_
        rintro e9 w9 ⟨rfl,ρ2,hR9,hM9⟩
        have HN0:Hid (rNum k ring S1 n=match (rAgain S1.1 k x' n ring).2 with
          | none=>({ (rAgain S1.1 k x' n ring).1 with s:={ (rAgain S1.1 k x' n ring).1.s with refused:=(rAgain S1.1 k x' n ring).1.s.refused+1 } },S1.2)
          | some t=>({ (rAgain S1.1 k x' n ring).1 with s:={ (rAgain S1.1 k x' n ring).1.s with again:=(rAgain S1.1 k x' n ring).1.s.again+1 } },S1.2++[t])):=by
         show _=_
         unfold rNum
         rw[Hx'.out]
         rfl
        rw[HSL.out]at hR9
        generalize rAgain S1.1 k x' n ring=AA at *
        obtain⟨A1,A2⟩:=AA
        have HR9:=hyd hR9
        have HM9:Hid (RMv w2 ρ w9 ρ2):=HR2.out.trans hM9
        have HO9:Hid (w9.ownsRow w2.heap.size 9 1 (.slice va S1.2.length vc) S1.2.length (S1.2.map Value.string)):=rowA_chg hM9.2 HR3.out (fun b hb e=>e (HR4.out b hb))
        have HZ9:Hid (∀b,(Value.slice va S1.2.length vc).ownBlock=some b->ρ2 b=0):=fun b hb=>hM9.1 b (HR3.out.lt b hb).2 (HR4.out b hb)
        have hsz9:w2.heap.size<=w9.heap.size:=HM9.out.2.size
        have hol:=HS.out.o
        clear hR9 hM9 f1 f2
        cases A2 with
        | none=>
         have HN:Hid (rNum k ring S1 n=({ A1 with s:={ A1.s with refused:=A1.s.refused+1 } },S1.2)):=HN0.out
         have hb2:=HS2.out.rb.rf
         rw[HN.out]at hb2
         simp only at hb2
         have v15:w9.cell? ⟨rb,15,none⟩=some (.int .i64 A1.s.refused):=HR9.out.k 15 _ rfl
         have vf:=HR9.out.fz
         have hw15:IntKind.i64.wrap (A1.s.refused+1)=A1.s.refused+1:=i64_id _ (by omega) (by omega)
         have HG:Hid (RRel w2 ρ rb sv (.slice (some ⟨g,0,none⟩) R.wns.length cap) (rNum k ring S1 n) (.slice va S1.2.length vc) (w9.setCell ⟨rb,15,none⟩ (.int .i64 (A1.s.refused+1)))):=by
          rw[HN.out]
          have c15:Chg (fun b=>b=rb) w9 (w9.setCell ⟨rb,15,none⟩ (.int .i64 (A1.s.refused+1))):=(Chg.refl (fun b=>b=rb) _).setCell ⟨rb,15,none⟩ (.inl rfl) _
          refine⟨ρ2,HR9.out.put 15 _ rfl rfl rfl,HM9.out.trans ⟨fun _ _ e=>e,c15.mono (fun b _ e=>by rw[e,HR9.out.rm];decide)⟩,rowA_chg c15 HO9.out (fun b hb e=>?_),HZ9.out⟩
          have:=HZ9.out b hb
          rw[e,HR9.out.rm]at this
          cases this
         unfold ansV
         go_wp2
         go_roundw
         case rel=>exact⟨j+1,by omega,fun e=>absurd hsb e,by go_num,by rw[HT2.out];exact HG.out,by rw[HT2.out];exact HS2.out⟩
         case measure=>simp[intOf];omega
        | some tx=>
         have HN:Hid (rNum k ring S1 n=({ A1 with s:={ A1.s with again:=A1.s.again+1 } },S1.2++[tx])):=HN0.out
         have hb2:=HS2.out.rb.ag
         rw[HN.out]at hb2
         simp only at hb2
         have v14:w9.cell? ⟨rb,14,none⟩=some (.int .i64 A1.s.again):=HR9.out.k 14 _ rfl
         have vf:=HR9.out.fz
         have hw14:IntKind.i64.wrap (A1.s.again+1)=A1.s.again+1:=i64_id _ (by omega) (by omega)
         have c14:Chg (fun b=>b=rb) w9 (w9.setCell ⟨rb,14,none⟩ (.int .i64 (A1.s.again+1))):=(Chg.refl (fun b=>b=rb) _).setCell ⟨rb,14,none⟩ (.inl rfl) _
         have HRa:Hid (RdAt (w9.setCell ⟨rb,14,none⟩ (.int .i64 (A1.s.again+1))) ρ2 rb { A1 with s:={ A1.s with again:=A1.s.again+1 } } sv (.slice (some ⟨g,0,none⟩) R.wns.length cap)):=HR9.out.put 14 _ rfl rfl rfl
         have HMa:Hid (RMv w2 ρ (w9.setCell ⟨rb,14,none⟩ (.int .i64 (A1.s.again+1))) ρ2):=HM9.out.trans ⟨fun _ _ e=>e,c14.mono (fun b _ e=>by rw[e,HR9.out.rm];decide)⟩
         have HOa:Hid ((w9.setCell ⟨rb,14,none⟩ (.int .i64 (A1.s.again+1))).ownsRow w2.heap.size 9 1 (.slice va S1.2.length vc) S1.2.length (S1.2.map Value.string)):=rowA_chg c14 HO9.out (fun b hb e=>by
          have:=HZ9.out b hb
          rw[e,HR9.out.rm]at this
          cases this)
         clear c14
         unfold ansV
         go_wp2_with (at_builtin;(
          refine wpList_append_at rfl (.tmp 97) (.tmp 99) 32 rfl w2.heap.size 9 i0 _ 1 16 Tryz.underlying32 Hi.out rfl (by decide) _ S1.2.length (S1.2.map Value.string) rfl (World.ownsRow.alloc HOa.out _) _ 1 1 [.string tx] rfl rfl (cell_one_at _ _ (World.size_setCell _ _ _).symm _ _) ?_ (by unfold maxLen;omega) (by omega) (by simp;omega) ?_
          ·intro u hu;simp at hu;subst hu;rfl
          intro v' wz hown' hgrow hob
          refine stop_here ?_))
         refine hid_in ?_
         have cz:Chg (fun y=>(Value.slice va S1.2.length vc).ownBlock=some y) (w9.setCell ⟨rb,14,none⟩ (.int .i64 (A1.s.again+1))) wz:=(Chg.ofBelow ((Below.refl _ _).alloc (Nat.le_refl _) _)).trans (Chg.ofGrown hgrow) (fun _ _ e=>e)
         have HG:Hid (RRel w2 ρ rb sv (.slice (some ⟨g,0,none⟩) R.wns.length cap) (rNum k ring S1 n) v' wz):=by
          rw[HN.out]
          refine⟨ρ2,HRa.out.chg cz (fun b e=>HZ9.out b e),⟨HMa.out.1,HMa.out.2.trans cz (fun b hb e=>absurd (HOa.out.lt b e).1 (by omega))⟩,by rw[List.length_append,List.map_append];exact hown',fun b hb=>?_⟩
          rcases hob with o|o
          ·exact HZ9.out b (o▸hb)
          ·rw[o,Option.some.injEq]at hb
           rw[<-hb]
           exact HRa.out.hi _ (by simp)
         obtain⟨a9,c9,rfl⟩:=rowA_shape hown'
         clear hown' hgrow hob cz
         go_wp2
         go_roundw
         case rel=>exact⟨j+1,by omega,fun e=>absurd hsb e,by go_num,by rw[HT2.out];exact HG.out,by rw[HT2.out];exact HS2.out⟩
         case measure=>simp[intOf];omega
       ·have hsbb:(XX.b == src)=false:=by simp[hsb]
        have HN:=fun W (h:RRel w2 ρ rb sv (.slice (some ⟨g,0,none⟩) R.wns.length cap) (rNums1 k ring SS (XX.l.take j)) (.slice va (rNums1 k ring SS (XX.l.take j)).2.length vc) W)=>Hnext.out _ W hj0 (fun e=>absurd e hsb) h
        have HN2:Hid (∀m,RRel w2 ρ rb sv (.slice (some ⟨g,0,none⟩) R.wns.length cap) (rAsks k ring src (R,[]) ((askL xs).take (q+1))) (.slice va (rNums1 k ring SS (XX.l.take j)).2.length vc) (wr.drewN m)/\RSt R k x (6400*(q+1)) (rAsks k ring src (R,[]) ((askL xs).take (q+1)))):=fun m=>HN _ (HR.out.below (below_drewN (Below.refl _ _) m))
        clear HN hsb
        go_wp2
        go_big_quiet (fail)
        go_wp2
        go_roundw
        case rel=>exact⟨q+1,by omega,by go_num,(HN2.out _).1,(HN2.out 0).2⟩
        case measure=>simp[intOf];omega
      ·have hjl':decide ((j:Int)<(XX.l.length:Int))=false:=decide_eq_false (by omega)
       have hjln:decide (j<XX.l.length)=false:=decide_eq_false (by omega)
       have HN2:Hid (∀m,RRel w2 ρ rb sv (.slice (some ⟨g,0,none⟩) R.wns.length cap) (rAsks k ring src (R,[]) ((askL xs).take (q+1))) (.slice va (rNums1 k ring SS (XX.l.take j)).2.length vc) (wr.drewN m)/\RSt R k x (6400*(q+1)) (rAsks k ring src (R,[]) ((askL xs).take (q+1)))):=fun m=>Hnext.out _ _ hj0 (fun _=>by omega) (HR.out.below (below_drewN (Below.refl _ _) m))
       go_wp2
       go_big_quiet (fail)
       go_wp2
       go_roundw
       case rel=>exact⟨q+1,by omega,by go_num,(HN2.out _).1,(HN2.out 0).2⟩
       case measure=>simp[intOf];omega
    ·have hqx':¬(q:Int)<xs.length:=by omega
     have hqe:(askL xs).take q=askL xs:=List.take_of_length_le (by unfold askL;rw[List.length_map];omega)
     rw[hqe]at HR HS ⊢
     clear hqe
     have HE:Hid (∃ρ',RdAt wr ρ' rb (rAsks k ring src (R,[]) (askL xs)).1 sv (.slice (some ⟨g,0,none⟩) R.wns.length cap)/\RMv w ρ wr ρ'/\wr.ownsRow w.heap.size 9 1 (.slice va (rAsks k ring src (R,[]) (askL xs)).2.length vc) (rAsks k ring src (R,[]) (askL xs)).2.length ((rAsks k ring src (R,[]) (askL xs)).2.map Value.string)/\∀b,(Value.slice va (rAsks k ring src (R,[]) (askL xs)).2.length vc).ownBlock=some b->ρ' b=0):=by
      obtain⟨ρ',a,b,c,d⟩:=HR.out
      exact⟨ρ',a,(RMv.below HB2.out).trans b,rowN_mono c hsz2,d⟩
     go_wp2
     go_ret2
     obtain⟨ρ',a,b,c,d⟩:=HE.out
     exact⟨_,by rw[E.out];rfl,by rw[E.out];exact c,ρ',by rw[E.out];exact a,b,d⟩
end Go.Proofs.YtdjhhnolcafkiaaGreat
