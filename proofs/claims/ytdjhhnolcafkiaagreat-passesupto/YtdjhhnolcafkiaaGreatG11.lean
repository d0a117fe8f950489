import Derived.Test.YtdjhhnolcafkiaaGreatG01
import Derived.Test.YtdjhhnolcafkiaaGreatG07
import Derived.Test.YtdjhhnolcafkiaaGreatG05
import Derived.Test.YtdjhhnolcafkiaaGreatG08
import Derived.Test.YtdjhhnolcafkiaaGreatG10
import Derived.Test.YtdjhhnolcafkiaaGreatG06
import Derived.Deep.QuietTactic
import Derived.BigQuiet
import Derived.Deep.LoopGhost
import Derived.Test.YtdjhhnolcafkiaaGreatG02
import Derived.Test.YtdjhhnolcafkiaaGreatG04
import Derived.Laws.StructEq
import Derived.Deep.WholeRow
set_option linter.unusedVariables false
set_option linter.unusedSimpArgs false
set_option maxHeartbeats 40000000
set_option maxRecDepth 20000
namespace Go.Proofs.YtdjhhnolcafkiaaGreat
open Go.RowKit
namespace Pk
def PLoop (w:World) (ρ:Nat->Nat) (rb s0:Nat) (sv wv cv:Value) (p:PP) (R4:Rm) (q:Nat) (tv:Value) (W:World):Prop:=
 ∃R' out ρ',RPass p cv R4 q R' out/\RdAt W ρ' rb R' sv wv/\RMv w ρ W ρ'/\W.ownsRow w.heap.size 9 1 tv out.length (out.map Value.string)/\(∀b,tv.ownBlock=some b->ρ' b=0)/\PxAt s0 W p cv/\IsC (fun b=>ρ' b=4) W cv p.cl/\ρ' s0=0/\tv.ownBlock≠some s0
def PRel (w0:World) (ρ0:Nat->Nat) (rb:Nat) (sv wv:Value) (R:Rm) (out:List ByteArray) (tv:Value) (W:World):Prop:=
 ∃ρ',RdAt W ρ' rb R sv wv/\RMv w0 ρ0 W ρ'/\W.ownsRow w0.heap.size 9 1 tv out.length (out.map Value.string)/\∀b,tv.ownBlock=some b->ρ' b=0
end Pk
open Pk
theorem refPacket_any (ρ:Nat->Nat) (rb:Nat) (R:Rm) (sv wv:Value) (t:ByteArray) (cw:Nat) (w:World) (h:RdAt w ρ rb R sv wv) (hcw:R.c.window=(cw:Int)) (hcl:1<=cw/\cw<=200) (ht:t.size<=maxLen)
  (hs:∀s∈R.sds,(-1<=s.newest/\s.newest<=10000000000000)/\(∀x∈s.gaps,0<=x.n/\x.n<=10000000000000)/\s.gaps.length<=1000) (hc:∀c∈[R.s.passed,R.s.late,R.s.doubled,R.s.wrong,R.s.unknown,R.s.givenUp],0<=c/\c<=1000000000000000) (hw:∀x∈R.wns,x.all.length<=2000000/\(0<=x.pl.first/\x.pl.first<=65535)/\-65535<=x.shift/\x.shift<=65535) :
  Calls Tryz.prog 47 #[.pointer (some ⟨rb,0,none⟩),.string t] w fun e w'=>∃tv R' out er,e = .returned (.tuple #[tv,.int .i64 er])/\RPk R t cw R' out er/\PRel w ρ rb sv wv R' out tv w':=by
 have H:=hyd h
 have Hs:=hyd hs
 have Hc:=hyd hc
 have Hw:=hyd hw
 have hrb:=h.lt
 have Hrm:Hid (ρ rb=1):=h.rm
 have HCW:=hyd hcw
 have Ht:=hyd ht
 obtain⟨PK,hPK⟩:∃PK,RPk R t cw=PK:=⟨_,rfl⟩
 have HPK:=hyd hPK
 rw[hPK]
 clear h hs hc hw hcw ht hPK
 go_enter Tryz.func47,Tryz.ntmps47
 go_wp2_with fail
 refine(refParse_any t _ Ht.out).mono ?_
 rintro e w1 ⟨hb1,hr1⟩
 have HB1:=hyd hb1
 have hsz1:=hb1.size
 cases hrd:readP t with
 | none=>
  rw[hrd]at hr1
  have hr2:e = .returned wrongV:=hr1
  subst hr2
  have E:Hid (PK { R with s:={ R.s with wrong:=R.s.wrong+1 } } [] 1):=by rw[<-HPK.out];unfold RPk;rw[hrd];exact⟨rfl,rfl,rfl⟩
  have hcc:=Hc.out R.s.wrong (by simp)
  have HA:Hid (∀bk,RdAt (w1.alloc bk) ρ rb R sv wv/\Below w.heap.size w (w1.alloc bk)):=fun bk=>⟨H.out.below (HB1.out.alloc hsz1 bk),HB1.out.alloc hsz1 bk⟩
  have y12:∀bk,(w1.alloc bk).cell? ⟨rb,12,none⟩=some (.int .i64 R.s.wrong):=fun bk=>(HA.out bk).1.k 12 _ rfl
  have yf:∀bk o,(w1.alloc bk).frozen? ⟨rb,o,none⟩=false:=fun bk=>(HA.out bk).1.fz
  have hww:IntKind.i64.wrap (R.s.wrong+1)=R.s.wrong+1:=i64_id _ (by omega) (by omega)
  have HE:Hid (∀bk,PRel w ρ rb sv wv { R with s:={ R.s with wrong:=R.s.wrong+1 } } [] (.slice none 0 0) ((w1.alloc bk).setCell ⟨rb,12,none⟩ (.int .i64 (R.s.wrong+1)))):=fun bk=>⟨ρ,(HA.out bk).1.put 12 _ rfl rfl rfl,(RMv.below (HA.out bk).2).trans ⟨fun _ _ e=>e,(Chg.refl _ _).setCell ⟨rb,12,none⟩ (.inl (by show ρ rb≠0;rw[Hrm.out];decide)) _⟩,World.ownsRow_nil _ _ _ _,fun b e=>by cases e⟩
  unfold wrongV
  clear hr1 hrd hb1
  go_wp2
  go_ret2
  exact⟨_,_,_,_,rfl,E.out,HE.out _⟩
 | some p=>
  rw[hrd]at hr1
  obtain⟨cv,rfl,hown⟩:=hr1
  obtain⟨ca,cc,rfl⟩:=hown.shape
  have HCV:=hyd hown
  have Hrd:=hyd hrd
  have Hcs:Hid (∀b,(Value.slice ca p.cl.length cc).ownBlock=some b->b<w1.heap.size):=fun b hb=>(hown.lt b hb).2
  have P2:Hid (∀tt,PxAt w1.heap.size (w1.alloc (.cells #[.bool p.mrk,.int .i64 p.ty,.int .i64 p.nu,.int .i64 p.ti,.int .i64 p.so,.slice ca p.cl.length cc,.bool p.ex,.int .i64 p.pr,.string p.en,.string p.py,.int .i64 p.pa] tt)) p (.slice ca p.cl.length cc)):=fun tt=>PxAt.new w1 p (.slice ca p.cl.length cc) tt
  have HA:Hid (∀bk,RdAt (w1.alloc bk) ρ rb R sv wv/\Below w.heap.size w (w1.alloc bk)):=fun bk=>⟨H.out.below (HB1.out.alloc hsz1 bk),HB1.out.alloc hsz1 bk⟩
  unfold okV
  clear hrd hown hb1
  go_wp2_with fail
  refine(refSender_any ρ rb R sv wv p.so _ (HA.out _).1).mono ?_
  rintro e w2 ⟨rfl,hw2⟩
  rw[hw2]
  clear hw2
  have HP2:=P2.out 41
  have HA2:=HA.out (.cells #[.bool p.mrk,.int .i64 p.ty,.int .i64 p.nu,.int .i64 p.ti,.int .i64 p.so,.slice ca p.cl.length cc,.bool p.ex,.int .i64 p.pr,.string p.en,.string p.py,.int .i64 p.pa] 41)
  have HP:=hyd HP2
  have HR2:Hid (RdAt (w1.alloc (.cells #[.bool p.mrk,.int .i64 p.ty,.int .i64 p.nu,.int .i64 p.ti,.int .i64 p.so,.slice ca p.cl.length cc,.bool p.ex,.int .i64 p.pr,.string p.en,.string p.py,.int .i64 p.pa] 41)) ρ rb R sv wv):=HA2.1
  have HB2:Hid (Below w.heap.size w (w1.alloc (.cells #[.bool p.mrk,.int .i64 p.ty,.int .i64 p.nu,.int .i64 p.ti,.int .i64 p.so,.slice ca p.cl.length cc,.bool p.ex,.int .i64 p.pr,.string p.en,.string p.py,.int .i64 p.pa] 41))):=HA2.2
  have HC2:Hid (OwnInts (w1.alloc (.cells #[.bool p.mrk,.int .i64 p.ty,.int .i64 p.nu,.int .i64 p.ti,.int .i64 p.so,.slice ca p.cl.length cc,.bool p.ex,.int .i64 p.pr,.string p.en,.string p.py,.int .i64 p.pa] 41)) w.heap.size (.slice ca p.cl.length cc) p.cl):=HCV.out.alloc _
  clear HP2 HA2 P2 HA HCV HB1
  have hs0:w.heap.size<=w1.heap.size:=hsz1
  generalize w1.alloc (.cells #[.bool p.mrk,.int .i64 p.ty,.int .i64 p.nu,.int .i64 p.ti,.int .i64 p.so,.slice ca p.cl.length cc,.bool p.ex,.int .i64 p.pr,.string p.en,.string p.py,.int .i64 p.pa] 41)=W2 at *
  generalize w1.heap.size=s0 at *
  cases hsp:rsPos R p.so with
  | none=>
   have E:Hid (PK { R with s:={ R.s with unknown:=R.s.unknown+1 } } [] 4):=by rw[<-HPK.out];unfold RPk;rw[Hrd.out];dsimp only;rw[hsp];exact⟨rfl,rfl,rfl⟩
   have hcc:=Hc.out R.s.unknown (by simp)
   have y13:W2.cell? ⟨rb,13,none⟩=some (.int .i64 R.s.unknown):=HR2.out.k 13 _ rfl
   have yf:=HR2.out.fz
   have hww:IntKind.i64.wrap (R.s.unknown+1)=R.s.unknown+1:=i64_id _ (by omega) (by omega)
   have HE:Hid (PRel w ρ rb sv wv { R with s:={ R.s with unknown:=R.s.unknown+1 } } [] (.slice none 0 0) (W2.setCell ⟨rb,13,none⟩ (.int .i64 (R.s.unknown+1)))):=⟨ρ,HR2.out.put 13 _ rfl rfl rfl,(RMv.below HB2.out).trans ⟨fun _ _ e=>e,(Chg.refl _ _).setCell ⟨rb,13,none⟩ (.inl (by show ρ rb≠0;rw[Hrm.out];decide)) _⟩,World.ownsRow_nil _ _ _ _,fun b e=>by cases e⟩
   clear hsp
   unfold optI
   go_wp2
   go_ret2
   exact⟨_,_,_,_,rfl,E.out,HE.out⟩
  | some i=>
   have Hsp:=hyd hsp
   obtain⟨hil,-,-⟩:=List.findIdx?_eq_some_iff_getElem.1 hsp
   obtain⟨s,hse⟩:∃s,R.sds[i]=s:=⟨_,rfl⟩
   have Hsi:Hid (R.sds[i]? = some s):=by show _=_;rw[List.getElem?_eq_getElem hil,hse]
   obtain⟨sg,scap,rfl,-,-,-,-,-,-⟩:=HR2.out.sndAt Hsi.out
   have hsm:=Hs.out s (List.mem_of_getElem? Hsi.out)
   have Hsm:=hyd hsm
   have hf:=read_facts t p Hrd.out
   have q2:W2.cell? ⟨s0,2,none⟩=some (.int .i64 p.nu):=HP.out.k 2 _ rfl
   have hi0:¬(i:Int)<0:=by omega
   clear hsp hse hsm
   unfold optI
   go_wp2_with fail
   refine(refComes_any ρ rb sg scap R wv i cw p.nu s _ HR2.out Hsi.out hf.1 HCW.out hcl Hsm.out.1 Hsm.out.2.1 Hsm.out.2.2 (Hc.out _ (by simp)) (Hc.out _ (by simp)) (Hc.out _ (by simp))).mono ?_
   rintro e w3 ⟨gv,rfl,ρ1,hR3,hM3⟩
   have hz0:ρ s0=0:=H.out.hi s0 hs0
   have HP3:Hid (PxAt s0 w3 p (.slice ca p.cl.length cc)):=HP.out.chg hM3.2 (fun e=>e hz0)
   have Hz1:Hid (ρ1 s0=0):=hM3.1 s0 HP.out.lt hz0
   have HC3:Hid (OwnInts w3 w.heap.size (.slice ca p.cl.length cc) p.cl):=rowA_chg hM3.2 HC2.out (fun b hb e=>e (H.out.hi b (HC2.out.lt b hb).1))
   have HM3:Hid (RMv w ρ w3 ρ1):=(RMv.below HB2.out).trans hM3
   have HZc:Hid (∀b,(Value.slice ca p.cl.length cc).ownBlock=some b->ρ1 b=0/\b<w3.heap.size):=fun b hb=>⟨hM3.1 b (HC2.out.lt b hb).2 (H.out.hi b (HC2.out.lt b hb).1),(HC3.out.lt b hb).2⟩
   have HPb:Hid (∀R' out,(if(rComes R i s p.nu cw gv).2=false then R'=(rComes R i s p.nu cw gv).1/\out=[]/\(0:Int)=0 else ∃cv,RPass p cv { (rComes R i s p.nu cw gv).1 with s:={ (rComes R i s p.nu cw gv).1.s with passed:=(rComes R i s p.nu cw gv).1.s.passed+1 } } R.wns.length R' out/\(0:Int)=0)->PK R' out 0):=fun R' out h=>by
    rw[<-HPK.out]
    unfold RPk
    rw[Hrd.out]
    dsimp only
    rw[Hsp.out]
    dsimp only
    rw[Hsi.out]
    exact⟨gv,h⟩
   have HR3:=hyd hR3
   clear hR3 hM3 HP HC2 HR2 q2
   obtain⟨CC,hCC⟩:∃CC,rComes R i s p.nu cw gv=CC:=⟨_,rfl⟩
   rw[hCC]at HPb HR3 ⊢
   have HCC:=hyd hCC
   clear hCC
   obtain⟨R3,b3⟩:=CC
   simp only at HPb HR3
   cases b3 with
   | false=>
    have E:Hid (PK R3 [] 0):=HPb.out _ _ (by rw[if_pos rfl];exact⟨rfl,rfl,trivial⟩)
    have HE:Hid (PRel w ρ rb (.slice (some ⟨sg,0,none⟩) R.sds.length scap) wv R3 [] (.slice none 0 0) w3):=⟨ρ1,HR3.out,HM3.out,World.ownsRow_nil _ _ _ _,fun b e=>by cases e⟩
    go_wp2
    go_ret2
    exact⟨_,_,_,_,rfl,E.out,HE.out⟩
   | true=>
    obtain⟨k1,k2,k3,k4⟩:=rComes_keeps R i s p.nu cw gv
    rw[HCC.out]at k1 k2 k3 k4
    simp only at k1 k2 k3 k4
    have hcp:=Hc.out R.s.passed (by simp)
    rw[<-k4]at hcp
    have E0:Hid (∀R' out,RPass p (.slice ca p.cl.length cc) { R3 with s:={ R3.s with passed:=R3.s.passed+1 } } R.wns.length R' out->PK R' out 0):=fun R' out h=>HPb.out _ _ (by rw[if_neg (by decide)];exact⟨_,h,trivial⟩)
    have v9:w3.cell? ⟨rb,9,none⟩=some (.int .i64 R3.s.passed):=HR3.out.k 9 _ rfl
    have vf:=HR3.out.fz
    have hw9:IntKind.i64.wrap (R3.s.passed+1)=R3.s.passed+1:=i64_id _ (by omega) (by omega)
    have HL0:Hid (PLoop w ρ rb s0 (.slice (some ⟨sg,0,none⟩) R.sds.length scap) wv (.slice ca p.cl.length cc) p { R3 with s:={ R3.s with passed:=R3.s.passed+1 } } 0 (.slice none 0 0) (w3.setCell ⟨rb,9,none⟩ (.int .i64 (R3.s.passed+1)))):=by
     have c9:Chg (fun b=>b=rb) w3 (w3.setCell ⟨rb,9,none⟩ (.int .i64 (R3.s.passed+1))):=(Chg.refl (fun b=>b=rb) _).setCell ⟨rb,9,none⟩ (.inl rfl) _
     have hsz:(w3.setCell ⟨rb,9,none⟩ (.int .i64 (R3.s.passed+1))).heap.size=w3.heap.size:=World.size_setCell _ _ _
     have r4:=(HR3.out.put (R':={ R3 with s:={ R3.s with passed:=R3.s.passed+1 } }) 9 (.int .i64 (R3.s.passed+1)) rfl rfl rfl).give4 (cv:=.slice ca p.cl.length cc) (fun b hb=>⟨(HZc.out b hb).1,by rw[hsz];exact(HZc.out b hb).2⟩)
     have hcr:∀b,(Value.slice ca p.cl.length cc).ownBlock=some b->b≠rb:=fun b hb e=>by have:=(HC3.out.lt b hb).1;omega
     have hC4:OwnInts (w3.setCell ⟨rb,9,none⟩ (.int .i64 (R3.s.passed+1))) w.heap.size (.slice ca p.cl.length cc) p.cl:=rowA_chg c9 HC3.out (fun b hb e=>hcr b hb e)
     refine⟨_,[],_,RPass.zero,r4,⟨fun b hb e=>?_,(HM3.out.2.trans c9 (fun b _ e=>by rw[e,Hrm.out];decide))⟩,World.ownsRow_nil _ _ _ _,(fun b e=>by cases e),HP3.out.chg c9 (fun e=>by omega),⟨ca,cc,rfl,fun j hj=>?_⟩,?_,(fun e=>by cases e)⟩
     ·rw[role_out (fun e'=>by have:=(HC3.out.lt b e').1;omega)]
      exact HM3.out.1 b hb e
     ·obtain⟨g0,rfl⟩:=rowA_some hC4 (by omega)
      have h1:=hC4.cellAt j (by omega)
      rw[List.getElem?_map,List.getElem?_eq_getElem hj]at h1
      refine⟨g0,0,rfl,role_in rfl,?_⟩
      rw[Nat.zero_add,h1,List.getD_eq_getElem?_getD,List.getElem?_eq_getElem hj]
      rfl
     ·rw[role_out (fun e=>by have:=Hcs.out s0 e;omega)]
      exact Hz1.out
    have hwl:R3.wns.length=R.wns.length:=by rw[k2]
    have Hk2:=hyd k2
    clear HPb HR3 HP3 HC3 HM3 HZc k1 k3 k4 k2
    go_wp2
    clear v9 vf
    generalize w3.setCell ⟨rb,9,none⟩ (.int .i64 (R3.s.passed+1))=W4 at *
    obtain⟨R4,hR4⟩:∃R4,({ R3 with s:={ R3.s with passed:=R3.s.passed+1 } }:Rm)=R4:=⟨_,rfl⟩
    have Hwn:Hid (R4.wns=R.wns):=by show _=_;rw[<-hR4];exact Hk2.out
    rw[hR4]at HL0 E0
    clear hR4 hwl
    go_loopw [10,11] (fun s10 s11 wr=>∃q:Nat,q<=R.wns.length/\s11 = .int .i64 q/\PLoop w ρ rb s0 (.slice (some ⟨sg,0,none⟩) R.sds.length scap) wv (.slice ca p.cl.length cc) p R4 q s10 wr) (fun _ s11 _=>R.wns.length-(intOf s11).toNat)
    case atStart=>exact⟨0,Nat.zero_le _,rfl,HL0.out⟩
    case round=>
     obtain⟨q,hq,rfl,hL⟩:=hrel
     obtain⟨R',out,ρ',l1,l2,l3,l4,l5,l6,l7,l8,l9⟩:=hL
     obtain⟨va,vc,rfl⟩:=rowA_shape l4
     have L1:=hyd l1
     have L2:=hyd l2
     have L3:=hyd l3
     have L4:=hyd l4
     have L5:=hyd l5
     have L6:=hyd l6
     have L7:=hyd l7
     have L8:=hyd l8
     have L9:=hyd l9
     have hwl:R'.wns.length=R.wns.length:=by rw[l1.keeps.2.2.2.2.1,Hwn.out]
     obtain⟨wa,wc,hwv⟩:=rowA_shape l2.wr.1
     rw[hwl]at hwv
     subst hwv
     have y19:wr.cell? ⟨rb,19,none⟩=some (.slice wa R.wns.length wc):=l2.k 19 _ rfl
     have hw8:R.wns.length<=8:=by rw[<-hwl];exact l2.w8
     clear l1 l2 l3 l4 l5 l6 l7 l8 l9 HL0
     by_cases hqw:q<R.wns.length
     ·have hqw':(q:Int)<R.wns.length:=by omega
      obtain⟨x,hx⟩:∃x,R'.wns[q]? = some x:=⟨_,List.getElem?_eq_getElem (by rw[hwl];exact hqw)⟩
      have Hwl:=hyd hwl
      have Hx:=hyd hx
      have hxR:R.wns[q]? = some x:=by rw[<-Hwn.out,<-L1.out.rest q (Nat.le_refl _)];exact hx
      have hxb:=Hw.out x (List.mem_of_getElem? hxR)
      obtain⟨g,cap',hsl,xs,xf,xl,xr⟩:=L2.out.wntAt hx
      rw[hwl]at hsl
      simp only[Value.slice.injEq,true_and]at hsl
      obtain⟨rfl,rfl⟩:=hsl
      have HWs:=hyd xs
      have Hxf:=hyd xf
      have Hxr:=hyd xr
      have c1:wr.cell? ⟨g,q*11+1,none⟩=some (.int .i64 x.of_):=xs 1 _ rfl
      have q4:wr.cell? ⟨s0,4,none⟩=some (.int .i64 p.so):=L6.out.k 4 _ rfl
      clear hx hxR xs xf xr hwl
      have Hd:Hid (∀m,RdAt (wr.drewN m) ρ' rb R' (.slice (some ⟨sg,0,none⟩) R.sds.length scap) (.slice (some ⟨g,0,none⟩) R.wns.length wc)/\RMv w ρ (wr.drewN m) ρ'/\(wr.drewN m).ownsRow w.heap.size 9 1 (.slice va out.length vc) out.length (out.map Value.string)/\(∀b,(Value.slice va out.length vc).ownBlock=some b->ρ' b=0)/\PxAt s0 (wr.drewN m) p (.slice ca p.cl.length cc)/\IsC (fun b=>ρ' b=4) (wr.drewN m) (.slice ca p.cl.length cc) p.cl/\ρ' s0=0/\(Value.slice va out.length vc).ownBlock≠some s0):=fun m=>by
       have hb:Below wr.heap.size wr (wr.drewN m):=below_drewN (Below.refl _ _) m
       exact⟨L2.out.below hb,L3.out.trans (RMv.below hb),rowA_chg (Chg.ofBelow (T:=fun _=>False) hb) L4.out (fun _ _ e=>e),L5.out,L6.out.below hb,L7.out.chg (T:=fun _=>False) (Chg.ofBelow hb) (fun _ _ e=>e),L8.out,L9.out⟩
      by_cases hof:x.of_=p.so
      ·have hofb:(x.of_ != p.so)=false:=by simp[hof]
       have Hof:=hyd hof
       clear hof
       obtain⟨aa,ac,hav⟩:∃a c,x.av = .slice a x.all.length c:=rowA_shape (L2.out.al q x Hx.out).1.1
       obtain⟨al,hal⟩:∃al,x.all.length=al:=⟨_,rfl⟩
       have c8:wr.cell? ⟨g,q*11+8,none⟩=some (.slice aa al ac):=by
        have h1:=HWs.out 8 _ rfl
        rw[hav,hal]at h1
        exact h1
       have hqR:q<R'.wns.length:=(List.getElem?_eq_some_iff.1 Hx.out).1
       have hxa:=hxb.1
       have hxf:=hxb.2.1
       have hxs:=hxb.2.2
       rw[hal]at hav hxa
       have Hal:=hyd hal
       have Hav:=hyd hav
       have HavR:Hid (∀b,(Value.slice aa al ac).ownBlock=some b->ρ' b=1000+x.id.toNat):=fun b hb=>(L2.out.al q x Hx.out).1.2 b (by rw[Hav.out];exact hb)
       have Hrm':Hid (ρ' rb=1):=L2.out.rm
       have HL2':Hid (RdAt wr ρ' rb R' (.slice (some ⟨sg,0,none⟩) R.sds.length scap) (.slice (some ⟨g,0,none⟩) R'.wns.length wc)):=by rw[Hwl.out];exact L2.out
       have HavT:Hid (∀b,(Value.slice aa al ac).ownBlock=some b->(ρ' b≠1/\ρ' b≠2/\ρ' b≠3)/\(b<wr.heap.size->ρ' b=1000+x.id.toNat)/\b≠s0/\(Value.slice va out.length vc).ownBlock≠some b):=fun b hb=>by
        have h1:=HavR.out b hb
        have h2:=L8.out
        exact⟨by omega,fun _=>h1,fun e=>by rw[e]at h1;omega,fun e=>by have:=L5.out b e;omega⟩
       have HP0:Hid (∀m,PMd w wr ρ' rb s0 g wc q R' (.slice (some ⟨sg,0,none⟩) R.sds.length scap) (.slice ca p.cl.length cc) (.slice va out.length vc) x x.shift p out (wr.drewN m)):=fun m=>(PMd.start HL2'.out Hx.out L6.out L4.out).below Hrm'.out (below_drewN (Below.refl _ _) m)
       have HA0:Hid (∀m,(wr.drewN m).ownsRow 0 152 12 (.slice aa al ac) al (x.all.flatMap cRe)):=fun m=>by
        have h1:=(L2.out.al q x Hx.out).1.1
        rw[Hav.out,Hal.out]at h1
        exact rowA_chg (T:=fun _=>False) (Chg.ofBelow (below_drewN (Below.refl _ _) m)) h1 (fun _ _ e=>e)
       obtain⟨iS,hiS,hS0,hS1,hS2⟩:=info_parts infoT
       have HiS:Hid (Tryz.prog.info? 9=some iS/\iS.zero=_/\iS.size=1/\iS.bytes=16):=⟨hiS,hS0,hS1,hS2⟩
       obtain⟨i0,hi0,hz0,hz1,hz2⟩:=info_parts sent_info
       have Hi:Hid (Tryz.prog.info? 152=some i0/\i0.zero=_/\i0.size=12/\i0.bytes=128):=⟨hi0,hz0,hz1,hz2⟩
       have Hs0t:Hid ((Value.slice va out.length vc).ownBlock≠some s0):=L9.out
       clear hal hav hxb hiS hS0 hS1 hS2 hi0 hz0 hz1 hz2
       by_cases hz:al=0
       focus
        have hzb:((al:Int) == 0)=true:=by simp[hz]
        obtain⟨sh,hsh⟩:∃sh,x.pl.first-p.nu=sh:=⟨_,rfl⟩
        have Hsh:Hid (rShift x p.nu=sh):=by show _=_;unfold rShift;rw[if_pos (by rw[Hal.out];exact hz)];exact hsh
        have hsw:IntKind.i64.wrap (x.pl.first-p.nu)=sh:=by rw[i64_id _ (by omega) (by omega)];exact hsh
        have hshb:-65535<=sh/\sh<=65535:=by omega
        clear hz hsh
        go_wp2
        go_big_quiet (fail)
        have P0:=HP0.out nq
        have A0:=HA0.out nq
        have c8':(wr.drewN nq).cell? ⟨g,q*11+8,none⟩=some (.slice aa al ac):=by rw[World.cell?_drewN];exact c8
        have y19':(wr.drewN nq).cell? ⟨rb,19,none⟩=some (.slice (some ⟨g,0,none⟩) R.wns.length wc):=by rw[World.cell?_drewN];exact y19
        clear c8 y19 c1 q4 HWs Hd HP0 HA0
        generalize wr.drewN nq=W0 at *
        have HM0:=hyd P0
        have HA1:=hyd A0
        clear P0 A0
        go_wp2
        have HS0:Two ⟨g,q*11+6,none⟩ ⟨s0,2,none⟩ (.int .i64 x.pl.first) (.int .i64 p.nu) W0:=⟨(HM0.out.wc hqR).1 6 _ rfl,HM0.out.p.k 2 _ rfl⟩
        have k9:W0.cell? ⟨g,q*11+9,none⟩=some (.int .i64 x.shift):=(HM0.out.wc hqR).1 9 _ rfl
        have kf:=(HM0.out.wc hqR).2.1
        have hg0:g≠s0:=fun e=>by have h1:=Hxr.out;have h2:=L8.out;rw[e]at h1;omega
        have hw9:W0.drew.cell? ⟨g,q*11+9,none⟩=some (.int .i64 x.shift):=by rw[World.cell?_drew];exact k9
        refine wp_region_noPanic ?_
        refine wp_region_held_drew (S:=Two ⟨g,q*11+6,none⟩ ⟨s0,2,none⟩ (.int .i64 x.pl.first) (.int .i64 p.nu)) (by kernel_rfl) HS0 (fun zH=>?_)
        refine tka 0 ?_
        refine tka 1 ?_
        refine tka 2 ?_
        refine tka 3 ?_
        refine tka 4 ?_
        refine tka 5 ?_
        refine tka 6 ?_
        refine tka 7 ?_
        refine tka 8 ?_
        refine tka 9 ?_
        refine tka 10 ?_
        refine rd1 11 fun K hK=>?_
        go_simp
        have HM5:Hid (PMd w wr ρ' rb s0 g wc q R' (.slice (some ⟨sg,0,none⟩) R.sds.length scap) (.slice ca p.cl.length cc) (.slice va out.length vc) x sh p out ((W0.setCell ⟨g,q*11+9,none⟩ (.int .i64 sh)).drew)):=(HM0.out.shift Hrm'.out Hxr.out hqR L8.out L5.out sh).below Hrm'.out (Below.refl _ _).drew
        have HA5:Hid (((W0.setCell ⟨g,q*11+9,none⟩ (.int .i64 sh)).drew).ownsRow 0 152 12 (.slice aa al ac) al (x.all.flatMap cRe)):=World.ownsRow.drew (rowA_chg ((Chg.refl (fun b=>b=g) _).setCell ⟨g,q*11+9,none⟩ (.inl rfl) _) HA1.out (fun b hb e=>by have h1:=HavR.out b hb;have h2:=Hxr.out;rw[e]at h1;omega))
        refine hK.out _ _ ⟨(World.cell?_setCell_other _ ⟨g,q*11+9,none⟩ ⟨g,q*11+6,none⟩ _ (by simp)).trans zH.1,(World.cell?_setCell_other _ ⟨g,q*11+9,none⟩ ⟨s0,2,none⟩ _ (by simp)).trans zH.2⟩ (fun zH=>?_)
        clear hK K
        refine doN ?_
        clear k9 kf hw9 HS0 HM0 HA1 zH c8' y19' hsw
        generalize (W0.setCell ⟨g,q*11+9,none⟩ (.int .i64 sh)).drew=W5 at *
       rotate_left
       focus
        have hzb:((al:Int) == 0)=false:=by rw[beq_eq_false_iff_ne];omega
        obtain⟨sh,hsh⟩:∃sh,x.shift=sh:=⟨_,rfl⟩
        have Hsh:Hid (rShift x p.nu=sh):=by show _=_;unfold rShift;rw[if_neg (by rw[Hal.out];exact hz)];exact hsh
        have hshb:-65535<=sh/\sh<=65535:=by rw[<-hsh];exact hxs
        clear hz
        rw[hsh]at HP0
        clear hsh
        go_wp2
        go_big_quiet (fail)
        have P0:=HP0.out nq
        have A0:=HA0.out nq
        have c8':(wr.drewN nq).cell? ⟨g,q*11+8,none⟩=some (.slice aa al ac):=by rw[World.cell?_drewN];exact c8
        have y19':(wr.drewN nq).cell? ⟨rb,19,none⟩=some (.slice (some ⟨g,0,none⟩) R.wns.length wc):=by rw[World.cell?_drewN];exact y19
        clear c8 y19 c1 q4 HWs Hd HP0 HA0
        generalize wr.drewN nq=W5 at *
        have HM5:=hyd P0
        have HA5:=hyd A0
        clear P0 A0
       all_goals
        have v0:W5.cell? ⟨s0,0,none⟩=some (.bool p.mrk):=HM5.out.p.k 0 _ rfl
        have v1:W5.cell? ⟨s0,1,none⟩=some (.int .i64 p.ty):=HM5.out.p.k 1 _ rfl
        have v2:W5.cell? ⟨s0,2,none⟩=some (.int .i64 p.nu):=HM5.out.p.k 2 _ rfl
        have v3:W5.cell? ⟨s0,3,none⟩=some (.int .i64 p.ti):=HM5.out.p.k 3 _ rfl
        have v4:W5.cell? ⟨s0,4,none⟩=some (.int .i64 p.so):=HM5.out.p.k 4 _ rfl
        have v5:W5.cell? ⟨s0,5,none⟩=some (.slice ca p.cl.length cc):=HM5.out.p.k 5 _ rfl
        have v6:W5.cell? ⟨s0,6,none⟩=some (.bool p.ex):=HM5.out.p.k 6 _ rfl
        have v7:W5.cell? ⟨s0,7,none⟩=some (.int .i64 p.pr):=HM5.out.p.k 7 _ rfl
        have v8:W5.cell? ⟨s0,8,none⟩=some (.string p.en):=HM5.out.p.k 8 _ rfl
        have v9:W5.cell? ⟨s0,9,none⟩=some (.string p.py):=HM5.out.p.k 9 _ rfl
        have v10:W5.cell? ⟨s0,10,none⟩=some (.int .i64 p.pa):=HM5.out.p.k 10 _ rfl
        have hs1:wr.heap.size<=W5.heap.size:=HM5.out.m.c.size
        have hs0l:s0<W5.heap.size:=HM5.out.p.lt
        have hgl5:g<W5.heap.size:=(HM5.out.wc hqR).2.2
        go_wp2
        clear v0 v1 v2 v3 v4 v5 v6 v7 v8 v9 v10
        have HY6:Hid (PxAt W5.heap.size (W5.alloc (.cells #[.bool p.mrk,.int .i64 p.ty,.int .i64 p.nu,.int .i64 p.ti,.int .i64 p.so,.slice ca p.cl.length cc,.bool p.ex,.int .i64 p.pr,.string p.en,.string p.py,.int .i64 p.pa] 41)) p (.slice ca p.cl.length cc)):=PxAt.new W5 p (.slice ca p.cl.length cc) _
        have HM6:Hid (PMd w wr ρ' rb s0 g wc q R' (.slice (some ⟨sg,0,none⟩) R.sds.length scap) (.slice ca p.cl.length cc) (.slice va out.length vc) x sh p out (W5.alloc (.cells #[.bool p.mrk,.int .i64 p.ty,.int .i64 p.nu,.int .i64 p.ti,.int .i64 p.so,.slice ca p.cl.length cc,.bool p.ex,.int .i64 p.pr,.string p.en,.string p.py,.int .i64 p.pa] 41))):=HM5.out.below Hrm'.out ((Below.refl _ _).alloc (Nat.le_refl _) _)
        have Hz1:Hid (ρ' W5.heap.size=0):=L2.out.hi _ hs1
        have HA6:Hid ((W5.alloc (.cells #[.bool p.mrk,.int .i64 p.ty,.int .i64 p.nu,.int .i64 p.ti,.int .i64 p.so,.slice ca p.cl.length cc,.bool p.ex,.int .i64 p.pr,.string p.en,.string p.py,.int .i64 p.pa] 41)).ownsRow 0 152 12 (.slice aa al ac) al (x.all.flatMap cRe)):=World.ownsRow.alloc HA5.out _
        have Hvl:Hid (∀b,(Value.slice va out.length vc).ownBlock=some b->b<W5.heap.size):=fun b hb=>Nat.lt_of_lt_of_le (L4.out.lt b hb).2 hs1
        have hgn:g≠W5.heap.size:=by omega
        have hsn:s0≠W5.heap.size:=by omega
        generalize W5.alloc (.cells #[.bool p.mrk,.int .i64 p.ty,.int .i64 p.nu,.int .i64 p.ti,.int .i64 p.so,.slice ca p.cl.length cc,.bool p.ex,.int .i64 p.pr,.string p.en,.string p.py,.int .i64 p.pa] 41)=W6 at *
        clear HM5 HA5
        generalize W5.heap.size=s1 at *
        have HT1:Hid (∀b,b=s1->(ρ' b≠1/\ρ' b≠2/\ρ' b≠3)/\(b<wr.heap.size->ρ' b=1000+x.id.toNat)/\b≠s0/\(Value.slice va out.length vc).ownBlock≠some b):=fun b hb=>by
         subst hb
         have hz:=Hz1.out
         exact⟨by omega,fun e=>by omega,fun e=>hsn e.symm,fun e=>by have:=Hvl.out b e;omega⟩
        have HAN:Hid (∀b,(Value.slice aa al ac).ownBlock=some b->¬b=s1):=fun b hb e=>by have h1:=HavR.out b hb;have h2:=Hz1.out;rw[e]at h1;omega
        have hw6:IntKind.i64.wrap (p.nu+sh)=p.nu+sh:=i64_id _ (by omega) (by omega)
        have HS6:Two ⟨s0,2,none⟩ ⟨g,q*11+9,none⟩ (.int .i64 p.nu) (.int .i64 sh) W6:=⟨HM6.out.p.k 2 _ rfl,(HM6.out.wc hqR).1 9 _ rfl⟩
        refine wp_region_noPanic ?_
        refine wp_region_held_drew (S:=Two ⟨s0,2,none⟩ ⟨g,q*11+9,none⟩ (.int .i64 p.nu) (.int .i64 sh)) (by kernel_rfl) HS6 (fun zH=>?_)
        refine tka 0 ?_
        refine tka 1 ?_
        refine tka 2 ?_
        refine tka 3 ?_
        refine tka 4 ?_
        refine tka 5 ?_
        refine tka 6 ?_
        refine rd1 7 fun K hK=>?_
        go_simp
        refine(refRound_any _ _).mono ?_
        rintro e' w4 ⟨rfl,hw4⟩
        rw[hw4]
        clear hw4
        go_simp
        refine hK.out _ _ zH (fun zH=>?_)
        clear hK K
        refine tka 8 ?_
        have P6d:=HY6.out.below (Below.refl _ _).drew
        have y2:=P6d.k 2 _ rfl
        have yff:=P6d.f
        refine rd1 9 fun K hK=>?_
        go_simp
        have cs1:Chg (fun b=>b=s1) W6 (W6.setCell ⟨s1,2,none⟩ (.int .i64 ((p.nu+sh)%65536))):=(Chg.refl (fun b=>b=s1) _).setCell ⟨s1,2,none⟩ (.inl rfl) _
        refine hK.out _ _ (Two.chg zH ((Chg.refl (fun b=>b=s1) _).setCell ⟨s1,2,none⟩ (.inl rfl) _) hsn hgn) (fun zH=>?_)
        clear hK K
        refine doN ?_
        have HY7:Hid (PxAt s1 ((W6.setCell ⟨s1,2,none⟩ (.int .i64 ((p.nu+sh)%65536))).drew) ⟨p.mrk,p.ex,p.ty,(p.nu+sh)%65536,p.ti,p.so,p.pr,p.pa,p.cl,p.en,p.py⟩ (.slice ca p.cl.length cc)):=(HY6.out.set (x':=⟨p.mrk,p.ex,p.ty,(p.nu+sh)%65536,p.ti,p.so,p.pr,p.pa,p.cl,p.en,p.py⟩) 2 (.int .i64 ((p.nu+sh)%65536)) rfl).below (Below.refl _ _).drew
        have HM7:Hid (PMd w wr ρ' rb s0 g wc q R' (.slice (some ⟨sg,0,none⟩) R.sds.length scap) (.slice ca p.cl.length cc) (.slice va out.length vc) x sh p out ((W6.setCell ⟨s1,2,none⟩ (.int .i64 ((p.nu+sh)%65536))).drew)):=(HM6.out.chg Hrm'.out cs1 HT1.out).below Hrm'.out (Below.refl _ _).drew
        have HA7:Hid (((W6.setCell ⟨s1,2,none⟩ (.int .i64 ((p.nu+sh)%65536))).drew).ownsRow 0 152 12 (.slice aa al ac) al (x.all.flatMap cRe)):=World.ownsRow.drew (rowA_chg cs1 HA6.out HAN.out)
        clear P6d y2 yff cs1 HY6 HM6 HA6 HS6 zH
        generalize (W6.setCell ⟨s1,2,none⟩ (.int .i64 ((p.nu+sh)%65536))).drew=W7 at *
        generalize hnu:(p.nu+sh)%65536=nu' at *
        have Hnu:=hyd hnu
        clear hnu
        have u4:W7.cell? ⟨s1,4,none⟩=some (.int .i64 p.so):=HY7.out.k 4 _ rfl
        have uf:=HY7.out.f
        have u2:W7.cell? ⟨g,q*11+2,none⟩=some (.int .i64 x.pl.source):=(HM7.out.wc hqR).1 2 _ rfl
        have HY8:Hid (PxAt s1 (W7.setCell ⟨s1,4,none⟩ (.int .i64 x.pl.source)) ⟨p.mrk,p.ex,p.ty,nu',p.ti,x.pl.source,p.pr,p.pa,p.cl,p.en,p.py⟩ (.slice ca p.cl.length cc)):=HY7.out.set 4 _ rfl
        have HM8:Hid (PMd w wr ρ' rb s0 g wc q R' (.slice (some ⟨sg,0,none⟩) R.sds.length scap) (.slice ca p.cl.length cc) (.slice va out.length vc) x sh p out (W7.setCell ⟨s1,4,none⟩ (.int .i64 x.pl.source))):=HM7.out.chg Hrm'.out ((Chg.refl (fun b=>b=s1) _).setCell ⟨s1,4,none⟩ (.inl rfl) _) HT1.out
        have u5:(W7.setCell ⟨s1,4,none⟩ (.int .i64 x.pl.source)).cell? ⟨g,q*11+4,none⟩=some (.int .i64 x.pl.ty):=(HM8.out.wc hqR).1 4 _ rfl
        have u6:(W7.setCell ⟨s1,4,none⟩ (.int .i64 x.pl.source)).cell? ⟨s1,1,none⟩=some (.int .i64 p.ty):=HY8.out.k 1 _ rfl
        have HY9:Hid (PxAt s1 ((W7.setCell ⟨s1,4,none⟩ (.int .i64 x.pl.source)).setCell ⟨s1,1,none⟩ (.int .i64 x.pl.ty)) ⟨p.mrk,p.ex,x.pl.ty,nu',p.ti,x.pl.source,p.pr,p.pa,p.cl,p.en,p.py⟩ (.slice ca p.cl.length cc)):=HY8.out.set 1 _ rfl
        have HM9:Hid (PMd w wr ρ' rb s0 g wc q R' (.slice (some ⟨sg,0,none⟩) R.sds.length scap) (.slice ca p.cl.length cc) (.slice va out.length vc) x sh p out ((W7.setCell ⟨s1,4,none⟩ (.int .i64 x.pl.source)).setCell ⟨s1,1,none⟩ (.int .i64 x.pl.ty))):=HM8.out.chg Hrm'.out ((Chg.refl (fun b=>b=s1) _).setCell ⟨s1,1,none⟩ (.inl rfl) _) HT1.out
        have HA9:Hid (((W7.setCell ⟨s1,4,none⟩ (.int .i64 x.pl.source)).setCell ⟨s1,1,none⟩ (.int .i64 x.pl.ty)).ownsRow 0 152 12 (.slice aa al ac) al (x.all.flatMap cRe)):=rowA_chg ((Chg.refl (fun b=>b=s1) _).setCell ⟨s1,1,none⟩ (.inl rfl) _) (rowA_chg ((Chg.refl (fun b=>b=s1) _).setCell ⟨s1,4,none⟩ (.inl rfl) _) HA7.out HAN.out) HAN.out
        go_simp
        go_wp2
        clear u4 uf u2 u5 u6 HY7 HM7 HY8 HM8 HA7
        generalize (W7.setCell ⟨s1,4,none⟩ (.int .i64 x.pl.source)).setCell ⟨s1,1,none⟩ (.int .i64 x.pl.ty)=W9 at *
        have Hz1':Hid (ρ' s1=0):=Hz1.out
        have c9:W9.cell? ⟨g,q*11+8,none⟩=some (.slice aa al ac):=by
         have h1:=(HM9.out.wc hqR).1 8 _ rfl
         rw[<-Hav.out]
         exact h1
        have HS9:PxS s1 ⟨p.mrk,p.ex,x.pl.ty,nu',p.ti,x.pl.source,p.pr,p.pa,p.cl,p.en,p.py⟩ (.slice ca p.cl.length cc) W9:=HY9.out.toS
        have c9f:=(HM9.out.wc hqR).2.1
        have hg9:g<W9.heap.size:=(HM9.out.wc hqR).2.2
        have hgn9:g≠W9.heap.size:=by omega
        have hs9:wr.heap.size<=W9.heap.size:=HM9.out.m.c.size
        have hs19:s1<W9.heap.size:=HY9.out.lt
        refine wp_region_noPanic ?_
        refine wp_region_held_drew (S:=PxS s1 ⟨p.mrk,p.ex,x.pl.ty,nu',p.ti,x.pl.source,p.pr,p.pa,p.cl,p.en,p.py⟩ (.slice ca p.cl.length cc)) (by kernel_rfl) HS9 (fun zH=>?_)
        refine tka 0 ?_
        refine tka 1 ?_
        refine tka 2 ?_
        refine tka 3 ?_
        refine tka 5 ?_
        refine tka 6 ?_
        refine wpAnyH_ready (rs:=[4,7]) (by kernel_rfl) (by simp) ?_
        refine AllReadyH.cons rfl (fun K hK=>?_) (AllReadyH.cons rfl (fun K hK=>?_) AllReadyH.nil)
        focus
         go_simp
         refine hK.out _ _ zH (fun zH=>?_)
         clear hK K
         refine rd1 7 fun K hK=>?_
         go_simp
         refine hK.out _ _ ((HY9.out.below ((Below.refl _ _).alloc (Nat.le_refl _) _)).toS) (fun zH=>?_)
        rotate_left
        focus
         go_simp
         refine hK.out _ _ ((HY9.out.below ((Below.refl _ _).alloc (Nat.le_refl _) _)).toS) (fun zH=>?_)
         clear hK K
         refine rd1 4 fun K hK=>?_
         go_simp
         refine hK.out _ _ zH (fun zH=>?_)
        all_goals
         clear hK K
         refine rd1 8 fun K hK=>?_
         rw[if_pos (by rfl)]
         refine wp_append_at (.tmp 132) (.tmp 135) 97 rfl 0 152 i0 _ 12 128 Tryz.underlying97 Hi.out.1 Hi.out.2.1 Hi.out.2.2.1 Hi.out.2.2.2 rfl (by decide) (.slice aa al ac) al (x.all.flatMap cRe) (by rfl) (World.ownsRow.drew (World.ownsRow.alloc HA9.out _)) _ 1 1 [.bool p.mrk,.int .i64 x.pl.ty,.int .i64 nu',.int .i64 p.ti,.int .i64 x.pl.source,.slice ca p.cl.length cc,.bool p.ex,.int .i64 p.pr,.string p.en,.string p.py,.int .i64 p.pa,.int .i64 (-1)] (by rfl) rfl ?_ ?_ (by unfold maxLen;omega) (by omega) (Nat.zero_le _) ?_
         ·exact cells_new _ [.bool p.mrk,.int .i64 x.pl.ty,.int .i64 nu',.int .i64 p.ti,.int .i64 x.pl.source,.slice ca p.cl.length cc,.bool p.ex,.int .i64 p.pr,.string p.en,.string p.py,.int .i64 p.pa,.int .i64 (-1)] _
         ·intro u hu
          simp at hu
          rcases hu with rfl|rfl|rfl|rfl|rfl|rfl|rfl|rfl|rfl|rfl|rfl|rfl<;>rfl
         intro v' wa hown' hgrow hob
         have hca:Chg (fun b=>(Value.slice aa al ac).ownBlock=some b) W9 wa:=Chg.ofGrown (((World.grownBy_alloc _ _ _).trans (World.grownBy_drewX _ _)).trans hgrow)
         obtain⟨a3,c3,rfl⟩:=rowA_shape hown'
         have hPa:PMd w wr ρ' rb s0 g wc q R' (.slice (some ⟨sg,0,none⟩) R.sds.length scap) (.slice ca p.cl.length cc) (.slice va out.length vc) x sh p out wa:=HM9.out.chg Hrm'.out hca HavT.out
         have hYa:PxAt s1 wa ⟨p.mrk,p.ex,x.pl.ty,nu',p.ti,x.pl.source,p.pr,p.pa,p.cl,p.en,p.py⟩ (.slice ca p.cl.length cc):=HY9.out.chg hca (fun e=>by have h1:=HavR.out s1 e;have h2:=Hz1'.out;omega)
         obtain⟨wcs,wfs,wgl⟩:=hPa.wc hqR
         have z8:wa.cell? ⟨g,q*11+8,none⟩=some (.slice aa al ac):=by
          have h1:=wcs 8 _ rfl
          rw[<-Hav.out]
          exact h1
         have HD:Hid (∃ρ2,RdAt (wa.setCell ⟨g,q*11+8,none⟩ (.slice a3 (al+1) c3)) ρ2 rb { R' with wns:=R'.wns.set q (rPassW x p (.slice ca p.cl.length cc) (.slice a3 (al+1) c3)) } (.slice (some ⟨sg,0,none⟩) R.sds.length scap) (.slice (some ⟨g,0,none⟩) R'.wns.length wc)/\RMv wr ρ' (wa.setCell ⟨g,q*11+8,none⟩ (.slice a3 (al+1) c3)) ρ2/\(wa.setCell ⟨g,q*11+8,none⟩ (.slice a3 (al+1) c3)).ownsRow w.heap.size 9 1 (.slice va out.length vc) out.length (out.map Value.string)/\(∀b,(Value.slice va out.length vc).ownBlock=some b->ρ2 b=0)/\PxAt s0 (wa.setCell ⟨g,q*11+8,none⟩ (.slice a3 (al+1) c3)) p (.slice ca p.cl.length cc)/\IsC (fun b=>ρ2 b=4) (wa.setCell ⟨g,q*11+8,none⟩ (.slice a3 (al+1) c3)) (.slice ca p.cl.length cc) p.cl/\ρ2 s0=0/\PxAt s1 (wa.setCell ⟨g,q*11+8,none⟩ (.slice a3 (al+1) c3)) ⟨p.mrk,p.ex,x.pl.ty,nu',p.ti,x.pl.source,p.pr,p.pa,p.cl,p.en,p.py⟩ (.slice ca p.cl.length cc)/\ρ2 s1=0):=by
          refine hPa.done HL2'.out Hx.out Hsh.out L8.out L6.out.lt (fun b hb=>⟨L5.out b hb,(L4.out.lt b hb).2⟩) L7.out ?_ (fun b hb=>?_) hYa hs1 (fun e=>?_)
          ·rw[Hal.out,List.flatMap_append]
           have e:([(⟨rPassX x p,(.slice ca p.cl.length cc),-1⟩:Re)]:List Re).flatMap cRe=[.bool p.mrk,.int .i64 x.pl.ty,.int .i64 nu',.int .i64 p.ti,.int .i64 x.pl.source,.slice ca p.cl.length cc,.bool p.ex,.int .i64 p.pr,.string p.en,.string p.py,.int .i64 p.pa,.int .i64 (-1)]:=by
            rw[<-Hnu.out,<-Hsh.out]
            simp[cRe,cellsP,rPassX]
           rw[e]
           exact hown'
          ·rcases hob with o|o
           ·exact .inl (HavR.out b (o▸hb))
           ·refine .inr ?_
            rw[o,Option.some.injEq]at hb
            rw[<-hb]
            simp
            omega
          ·rcases hob with o|o
           ·have h1:=HavR.out s1 (o▸e);have h2:=Hz1'.out;omega
           ·rw[o,Option.some.injEq]at e
            simp at e
            omega
         refine hK.out _ _ hYa.toS (fun zH=>?_)
         clear hK K hown' hgrow hob hca hPa
         refine tka 9 ?_
         refine tka 10 ?_
         refine rd1 11 fun K hK=>?_
         go_simp
         refine hK.out _ _ (by obtain⟨_,_,_,_,_,_,_,_,d,_⟩:=HD.out;exact d.toS) (fun zH=>?_)
         clear hK K
         refine doN ?_
         clear z8 wcs wfs hYa zH wgl
         generalize wa.setCell ⟨g,q*11+8,none⟩ (.slice a3 (al+1) c3)=Wb at *
         obtain⟨ρ2,d1,d2,d3,d4,d5,d6,d7,d8,d9⟩:=HD.out
         have D1:=hyd d1
         have D2:=hyd d2
         have D3:=hyd d3
         have D4:=hyd d4
         have D5:=hyd d5
         have D6:=hyd d6
         have D7:=hyd d7
         have b0:Wb.cell? ⟨s1,0,none⟩=some (.bool p.mrk):=d8.k 0 _ rfl
         have b1:Wb.cell? ⟨s1,1,none⟩=some (.int .i64 x.pl.ty):=d8.k 1 _ rfl
         have b2:Wb.cell? ⟨s1,2,none⟩=some (.int .i64 nu'):=d8.k 2 _ rfl
         have b3:Wb.cell? ⟨s1,3,none⟩=some (.int .i64 p.ti):=d8.k 3 _ rfl
         have b4:Wb.cell? ⟨s1,4,none⟩=some (.int .i64 x.pl.source):=d8.k 4 _ rfl
         have b5:Wb.cell? ⟨s1,5,none⟩=some (.slice ca p.cl.length cc):=d8.k 5 _ rfl
         have b6:Wb.cell? ⟨s1,6,none⟩=some (.bool p.ex):=d8.k 6 _ rfl
         have b7:Wb.cell? ⟨s1,7,none⟩=some (.int .i64 p.pr):=d8.k 7 _ rfl
         have b8:Wb.cell? ⟨s1,8,none⟩=some (.string p.en):=d8.k 8 _ rfl
         have b9:Wb.cell? ⟨s1,9,none⟩=some (.string p.py):=d8.k 9 _ rfl
         have b10:Wb.cell? ⟨s1,10,none⟩=some (.int .i64 p.pa):=d8.k 10 _ rfl
         have hszb:w.heap.size<=Wb.heap.size:=Nat.le_trans L3.out.2.size d2.2.size
         clear d1 d2 d3 d4 d5 d6 d7 d8 d9 HD HM9 HY9 HA9
         go_wp2_with fail
         refine(refTell_any p.mrk p.ex x.pl.ty nu' p.ti x.pl.source p.pr p.pa (.slice ca p.cl.length cc) p.cl p.en p.py _ _ (Nat.le_refl _) D6.out.isInts (by omega) (by omega) (by omega)).mono ?_
         rintro e' wc2 ⟨rfl,hbt⟩
         have HT:Hid ((tellX (rPassX x p)).1=(tellR p.mrk p.ex x.pl.ty nu' p.ti x.pl.source p.pr p.pa p.cl p.en p.py).1):=by
          show _=_
          rw[<-Hnu.out,<-Hsh.out]
          rfl
         have HN:Hid (RPass p (.slice ca p.cl.length cc) R4 (q+1) { R' with wns:=R'.wns.set q (rPassW x p (.slice ca p.cl.length cc) (.slice a3 (al+1) c3)) } (out++[(tellR p.mrk p.ex x.pl.ty nu' p.ti x.pl.source p.pr p.pa p.cl p.en p.py).1])):=by
          rw[<-HT.out]
          exact L1.out.pass _ Hx.out Hof.out
         generalize tellR p.mrk p.ex x.pl.ty nu' p.ti x.pl.source p.pr p.pa p.cl p.en p.py=TR at *
         obtain⟨t1,t2⟩:=TR
         simp only at HN
         have G1:Hid (RdAt wc2 ρ2 rb { R' with wns:=R'.wns.set q (rPassW x p (.slice ca p.cl.length cc) (.slice a3 (al+1) c3)) } (.slice (some ⟨sg,0,none⟩) R.sds.length scap) (.slice (some ⟨g,0,none⟩) R'.wns.length wc)):=D1.out.below hbt
         have G2:Hid (RMv wr ρ' wc2 ρ2):=D2.out.trans (RMv.below hbt)
         have G3:Hid (wc2.ownsRow w.heap.size 9 1 (.slice va out.length vc) out.length (out.map Value.string)):=rowA_chg (T:=fun _=>False) (Chg.ofBelow hbt) D3.out (fun _ _ e=>e)
         have G5:Hid (PxAt s0 wc2 p (.slice ca p.cl.length cc)):=D5.out.below hbt
         have G6:Hid (IsC (fun b=>ρ2 b=4) wc2 (.slice ca p.cl.length cc) p.cl):=D6.out.chg (T:=fun _=>False) (Chg.ofBelow hbt) (fun _ _ e=>e)
         have hszc:w.heap.size<=wc2.heap.size:=Nat.le_trans hszb hbt.size
         have hol:=L1.out.keeps.2.2.2.2.2
         clear hbt b0 b1 b2 b3 b4 b5 b6 b7 b8 b9 b10 D1 D2 D3 D5 D6 HT
         go_wp2_with (at_builtin;(
          refine wpList_append_at rfl (.tmp 144) (.tmp 146) 32 rfl w.heap.size 9 iS _ 1 16 Tryz.underlying32 HiS.out rfl (by decide) _ out.length (out.map Value.string) rfl (World.ownsRow.alloc G3.out _) _ 1 1 [.string t1] rfl rfl (cell_one_at _ _ rfl _ _) ?_ (by unfold maxLen;omega) (by omega) (by simp;omega) ?_
          ·intro u hu;simp at hu;subst hu;rfl
          intro v' wz hown' hgrow hob
          refine stop_here ?_))
         refine hid_in ?_
         have cz:Chg (fun y=>(Value.slice va out.length vc).ownBlock=some y) wc2 wz:=(Chg.ofBelow ((Below.refl _ _).alloc (Nat.le_refl _) _)).trans (Chg.ofGrown hgrow) (fun _ _ e=>e)
         have HL:Hid (PLoop w ρ rb s0 (.slice (some ⟨sg,0,none⟩) R.sds.length scap) (.slice (some ⟨g,0,none⟩) R.wns.length wc) (.slice ca p.cl.length cc) p R4 (q+1) v' wz):=by
          have g1:=G1.out.chg cz (fun b e=>D4.out b e)
          rw[Hwl.out]at g1
          refine⟨_,_,ρ2,HN.out,g1,?_,by rw[List.length_append,List.map_append];exact hown',fun b hb=>?_,G5.out.chg cz (fun e=>?_),G6.out.chg cz (fun b hb e=>?_),D7.out,fun e=>?_⟩
          ·have h1:=L3.out.trans G2.out
           exact⟨h1.1,h1.2.trans cz (fun b hb e=>absurd (G3.out.lt b e).1 (by omega))⟩
          ·rcases hob with o|o
           ·exact D4.out b (o▸hb)
           ·rw[o,Option.some.injEq]at hb
            rw[<-hb]
            exact G1.out.hi _ (by simp)
          ·have h1:=L5.out s0 e
           have h2:=(L4.out.lt s0 e).1
           exact absurd e Hs0t.out
          ·have h1:=D4.out b e
           omega
          ·rcases hob with o|o
           ·exact Hs0t.out (o▸e)
           ·rw[o,Option.some.injEq]at e
            have h1:=G5.out.lt
            simp at e
            omega
         obtain⟨a9,c9,rfl⟩:=rowA_shape hown'
         clear hown' hgrow hob cz
         go_wp2
         go_roundw
         case rel=>exact⟨q+1,by omega,by go_num,HL.out⟩
         case measure=>simp[intOf];omega
      ·have hofb:(x.of_ != p.so)=true:=by simp[hof]
       have HN:Hid (RPass p (.slice ca p.cl.length cc) R4 (q+1) R' out):=L1.out.skip Hx.out hof
       clear hof
       go_wp2
       go_big_quiet (fail)
       go_wp2
       go_roundw
       case rel=>exact⟨q+1,by omega,by go_num,⟨R',out,ρ',HN.out,Hd.out _⟩⟩
       case measure=>simp[intOf];omega
     ·have hqw':¬(q:Int)<R.wns.length:=by omega
      have hqe:q=R.wns.length:=by omega
      have E:Hid (PK R' out 0):=E0.out _ _ (by rw[<-hqe];exact L1.out)
      have HE:Hid (PRel w ρ rb (.slice (some ⟨sg,0,none⟩) R.sds.length scap) (.slice wa R.wns.length wc) R' out (.slice va out.length vc) wr):=⟨ρ',L2.out,L3.out,L4.out,L5.out⟩
      clear hqe
      go_wp2
      go_ret2
      exact⟨_,_,_,_,rfl,E.out,HE.out⟩
end Go.Proofs.YtdjhhnolcafkiaaGreat
namespace Go.Proofs.YtdjhhnolcafkiaaGreat
open Go.RowKit Pk
theorem take_eq_succ {l1 l2:List Int}{k:Nat}(h:l1.take k=l2.take k) (h1:k<l1.length) (h2:k<l2.length) (e:l1.getD k 0=l2.getD k 0):l1.take (k+1)=l2.take (k+1):=by
 rw[List.take_succ_eq_append_getElem h1,List.take_succ_eq_append_getElem h2,h]
 simp only[List.getD,List.getElem?_eq_getElem h1,List.getElem?_eq_getElem h2,Option.getD_some]at e
 rw[e]
theorem sameNumbers_any (B:Nat) (v1 v2:Value) (l1 l2:List Int) (w:World) (h1:IsInts B w v1 l1) (h2:IsInts B w v2 l2) (hl1:l1.length<=17592186044416) (_hl2:l2.length<=17592186044416) :
  Calls Tryz.prog 27 #[v1,v2] w fun e w'=>e = .returned (.bool (decide (l1=l2)))/\∃n,w'=w.drewN n:=by
 obtain⟨a1,c1,rfl,hc1⟩:=h1
 obtain⟨a2,c2,rfl,hc2⟩:=h2
 have Hc1:Hid (∀j,j<l1.length->∃b off,a1=some ⟨b,off,none⟩/\b<B/\w.cell? ⟨b,off+j,none⟩=some (.int .i64 (l1.getD j 0))):=hc1
 have Hc2:Hid (∀j,j<l2.length->∃b off,a2=some ⟨b,off,none⟩/\b<B/\w.cell? ⟨b,off+j,none⟩=some (.int .i64 (l2.getD j 0))):=hc2
 clear hc1 hc2
 by_cases hll:l1.length=l2.length
 ·have hne:((l1.length:Int) != (l2.length:Int))=false:=by simp[hll]
  have Hll:Hid (l1.length=l2.length):=hll
  have hle:l2.length<=l1.length:=by omega
  have hle':l1.length<=l2.length:=by omega
  clear hll
  go_enter Tryz.func27,Tryz.ntmps27
  go_wp2
  go_loopw [5] (fun i wr=>∃k:Nat,k<=l1.length/\i = .int .i64 k/\l1.take k=l2.take k/\∃n,wr=w.drewN n) (fun i _=>l1.length-(intOf i).toNat)
  case atStart=>exact⟨0,Nat.zero_le _,rfl,by simp,0,rfl⟩
  case round=>
   obtain⟨k,hk,rfl,htk,n,rfl⟩:=hrel
   have Htk:Hid (l1.take k=l2.take k):=htk
   clear htk
   by_cases hlt:k<l1.length
   ·obtain⟨b1,o1,rfl,hb1,hx1⟩:=Hc1.out k hlt
    obtain⟨b2,o2,rfl,hb2,hx2⟩:=Hc2.out k (by omega)
    obtain⟨q1,hq1⟩:∃q,l1.getD k 0=q:=⟨_,rfl⟩
    obtain⟨q2,hq2⟩:∃q,l2.getD k 0=q:=⟨_,rfl⟩
    rw[hq1]at hx1
    rw[hq2]at hx2
    have Hq1:Hid (l1.getD k 0=q1):=hq1
    have Hq2:Hid (l2.getD k 0=q2):=hq2
    clear hq1 hq2
    have hlt':(k:Int)<l1.length:=by omega
    have hlt2:(k:Int)<l2.length:=by omega
    by_cases hq:q1=q2
    ·have hqb:(q1 != q2)=false:=by simp[hq]
     have Hq:Hid (q1=q2):=hq
     clear hq
     go_wp2
     go_quiet (fail)
     go_wp2
     go_roundw
     case rel=>exact⟨k+1,by omega,by go_num,take_eq_succ Htk.out hlt (by omega) (by rw[Hq1.out,Hq2.out,Hq.out]),_,rfl⟩
     case measure=>simp[intOf];omega
    ·have hqb:(q1 != q2)=true:=by simp[hq]
     have Hq:Hid (q1≠q2):=hq
     clear hq
     go_wp2
     go_quiet (fail)
     go_wp2
     go_ret
     refine⟨ret_bool (decide_eq_false ?_).symm,_,World.drewN_drewN _ _ _⟩
     intro e
     exact Hq.out (by rw[<-Hq1.out,<-Hq2.out,e])
   ·have hlt':¬(k:Int)<l1.length:=by omega
    go_wp2
    go_ret
    refine⟨ret_bool (decide_eq_true ?_).symm,_,rfl⟩
    have h:=Htk.out
    rwa [List.take_of_length_le (by omega),List.take_of_length_le (by omega)]at h
 ·have hne:((l1.length:Int) != (l2.length:Int))=true:=by simp;omega
  have Hll:Hid (l1.length≠l2.length):=hll
  clear hll
  go_enter Tryz.func27,Tryz.ntmps27
  go_wp2
  go_ret
  exact⟨ret_bool (decide_eq_false (fun e=>Hll.out (by rw[e]))).symm,0,rfl⟩
end Go.Proofs.YtdjhhnolcafkiaaGreat
namespace Go.Proofs.YtdjhhnolcafkiaaGreat
open Go.RowKit
open Pk
theorem sameTexts_any (B1 B2:Nat) (v1 v2:Value) (L:List ByteArray) (w:World) (h1:w.ownsRow B1 9 1 v1 L.length (L.map Value.string)) (h2:w.ownsRow B2 9 1 v2 L.length (L.map Value.string)) (hl:L.length<=1000000000) :
  Calls Tryz.prog 76 #[v1,v2] w fun e w'=>e = .returned (.bool true)/\∃n,w'=w.drewN n:=by
 obtain⟨a1,c1,rfl⟩:=rowA_shape h1
 obtain⟨a2,c2,rfl⟩:=rowA_shape h2
 have H1:Hid (w.ownsRow B1 9 1 (.slice a1 L.length c1) L.length (L.map Value.string)):=h1
 have H2:Hid (w.ownsRow B2 9 1 (.slice a2 L.length c2) L.length (L.map Value.string)):=h2
 clear h1 h2
 go_enter Tryz.func76,Tryz.ntmps76
 go_wp2
 go_loopw [5] (fun s5 wr=>∃k:Nat,k<=L.length/\s5 = .int .i64 k/\∃n,wr=w.drewN n) (fun s5 _=>L.length-(intOf s5).toNat)
 case atStart=>exact⟨0,Nat.zero_le _,rfl,0,rfl⟩
 case round=>
  obtain⟨k,hk,rfl,n,rfl⟩:=hrel
  by_cases hlt:k<L.length
  ·have hlt':(k:Int)<L.length:=by omega
   obtain⟨g1,rfl⟩:=rowA_some H1.out (by omega)
   obtain⟨g2,rfl⟩:=rowA_some H2.out (by omega)
   have x1:w.cell? ⟨g1,k,none⟩=some (.string L[k]):=by
    have h:=H1.out.cellAt k (by omega)
    rw[List.getElem?_map,List.getElem?_eq_getElem hlt]at h
    exact h
   have x2:w.cell? ⟨g2,k,none⟩=some (.string L[k]):=by
    have h:=H2.out.cellAt k (by omega)
    rw[List.getElem?_map,List.getElem?_eq_getElem hlt]at h
    exact h
   generalize L[k]=t at *
   go_wp2
   go_big_quiet (fail)
   go_wp2
   go_roundw
   case rel=>exact⟨k+1,by omega,by go_num,_,rfl⟩
   case measure=>simp[intOf];omega
  ·have hlt':¬(k:Int)<L.length:=by omega
   go_wp2
   go_ret
   exact⟨rfl,_,rfl⟩
theorem row_at {W:World}{base e n cap:Nat}{ao:Option Addr}{xs:List Value}(h:W.ownsRow base e 1 (.slice ao n cap) n xs) (i:Nat) (hi:i<n):∃g,ao=some ⟨g,0,none⟩/\W.cell? ⟨g,i,none⟩=xs[i]?:=by
 have h':=h
 obtain⟨_,h2|⟨g,cap',cur,e',_⟩⟩:=h
 ·obtain⟨_,h0⟩:=h2;omega
 ·simp only[Value.slice.injEq]at e'
  obtain⟨rfl,_,rfl⟩:=e'
  exact⟨g,rfl,World.ownsRow.cellAt h' i (by omega)⟩
namespace Pk
theorem Chg.drewN {T:Nat->Prop}{a b:World}(h:Chg T a b) (n:Nat):Chg T a (b.drewN n):=h.trans (Chg.ofBelow (T:=T) (below_drewN (Below.refl _ _) n)) (fun _ _ e=>e)
theorem Pr.at {W:World}{g:Nat}{ρ:Nat->Nat}{ra rm:Nat}{te tm:TypeId}{cells:Value->List Value}{al ak:Option Addr}{cl ck:Nat}{L M:List Value}(h:Pr W g ρ ra rm te tm cells (.slice al L.length cl) (.slice ak M.length ck) L M) (i:Nat) (hi:i<L.length) :
  ∃gl gk n ao cap m,al=some ⟨gl,0,none⟩/\ak=some ⟨gk,0,none⟩/\M[i]? = some m/\W.cell? ⟨gl,i,none⟩=some (.slice ao n cap)/\W.cell? ⟨gk,i,none⟩=some m/\n<=10000/\
   ∀k,k<n->∃b,ao=some ⟨b,0,none⟩/\∀j,j<(cells m).length->W.cell? ⟨b,k*(cells m).length+j,none⟩=(cells m)[j]?:=by
 have hm:i<M.length:=by rw[<-h.len];exact hi
 obtain⟨gl,rfl,c1⟩:=row_at h.rl i hi
 obtain⟨gk,rfl,c2⟩:=row_at h.rk i hm
 obtain⟨n,ao,cap,e,hn,hk⟩:=h.ent i L[i] M[i] (List.getElem?_eq_getElem hi) (List.getElem?_eq_getElem hm)
 refine⟨gl,gk,n,ao,cap,M[i],rfl,rfl,List.getElem?_eq_getElem hm,?_,c2.trans (List.getElem?_eq_getElem hm),hn,fun k hkn=>?_⟩
 ·rw[c1,List.getElem?_eq_getElem hi,e]
 ·obtain⟨b,e2,_,_,h3⟩:=hk k hkn
  exact⟨b,e2,h3⟩
end Pk
theorem looksN_any (g:Nat) (ρ:Nat->Nat) (tv tk nv nk av ak:Value) (TL NL AL:List Value) (TS:List ByteArray) (NS AS:List Int) (nx:Int) (w:World)
  (hB:BkN w g ρ tv tk nv nk av ak TL (TS.map Value.string) NL (NS.map (Value.int .i64)) AL (AS.map (Value.int .i64)) nx) (hT:TL.length<=1000000000) (hN:NL.length<=1000000000) (hA:AL.length<=1000000000) :
  Calls Tryz.prog 9 #[.pointer (some ⟨g,0,none⟩)] w fun e w'=>e = .returned (.bool true)/\Chg (fun _=>False) w w':=by
 obtain⟨at1,ct1,rfl⟩:=row_shape hB.tp.rl
 obtain⟨at2,ct2,rfl⟩:=row_shape hB.tp.rk
 obtain⟨an1,cn1,rfl⟩:=row_shape hB.np.rl
 obtain⟨an2,cn2,rfl⟩:=row_shape hB.np.rk
 obtain⟨aa1,ca1,rfl⟩:=row_shape hB.ap.rl
 obtain⟨aa2,ca2,rfl⟩:=row_shape hB.ap.rk
 have HTP:Hid (Pr w g ρ 2 3 32 9 (fun m=>[m]) (.slice at1 TL.length ct1) (.slice at2 (TS.map Value.string).length ct2) TL (TS.map Value.string)):=hB.tp
 have HNP:Hid (Pr w g ρ 4 5 34 3 (fun m=>[m]) (.slice an1 NL.length cn1) (.slice an2 (NS.map (Value.int .i64)).length cn2) NL (NS.map (Value.int .i64))):=hB.np
 have HAP:Hid (Pr w g ρ 6 7 77 3 (fun m=>[m,m,.slice none 0 0]) (.slice aa1 AL.length ca1) (.slice aa2 (AS.map (Value.int .i64)).length ca2) AL (AS.map (Value.int .i64))):=hB.ap
 have lt:=hB.tp.len
 have ln:=hB.np.len
 have la:=hB.ap.len
 have c0:=hB.c0
 have c1:=hB.c1
 have c2:=hB.c2
 have c3:=hB.c3
 have c4:=hB.c4
 have c5:=hB.c5
 rw[<-lt]at c1
 rw[<-ln]at c3
 rw[<-la]at c5
 have K0:Hid (∀W,Chg (fun _=>False) w W->W.cell? ⟨g,0,none⟩=some (.slice at1 TL.length ct1)/\W.cell? ⟨g,1,none⟩=some (.slice at2 TL.length ct2)/\W.cell? ⟨g,2,none⟩=some (.slice an1 NL.length cn1)/\W.cell? ⟨g,3,none⟩=some (.slice an2 NL.length cn2)/\W.cell? ⟨g,4,none⟩=some (.slice aa1 AL.length ca1)/\W.cell? ⟨g,5,none⟩=some (.slice aa2 AL.length ca2)):=
  fun W hc=>⟨hc.cell c0 (fun e=>e),hc.cell c1 (fun e=>e),hc.cell c2 (fun e=>e),hc.cell c3 (fun e=>e),hc.cell c4 (fun e=>e),hc.cell c5 (fun e=>e)⟩
 clear hB lt ln la c0 c1 c2 c3 c4 c5
 obtain⟨TN,hTN⟩:∃n,TL.length=n:=⟨_,rfl⟩
 obtain⟨NN,hNN⟩:∃n,NL.length=n:=⟨_,rfl⟩
 obtain⟨AN,hAN⟩:∃n,AL.length=n:=⟨_,rfl⟩
 rw[hTN,hNN,hAN]at K0
 rw[hTN]at hT
 rw[hNN]at hN
 rw[hAN]at hA
 have HTN:Hid (TL.length=TN):=hTN
 have HNN:Hid (NL.length=NN):=hNN
 have HAN:Hid (AL.length=AN):=hAN
 clear hTN hNN hAN
 obtain⟨z0,_,_,_,_,_⟩:=K0.out w (Chg.refl _ _)
 go_enter Tryz.func9,Tryz.ntmps9
 go_wp2
 go_loopg [3] TN (fun gk s3 wr=>∃i:Nat,i<=TN/\gk=TN-i/\s3 = .int .i64 i/\Chg (fun _=>False) w wr)
 case atStart=>exact⟨0,Nat.zero_le _,rfl,rfl,Chg.refl _ _⟩
 case round=>
  obtain⟨i,hi,rfl,rfl,hc⟩:=hrel
  have HC:Hid (Chg (fun _=>False) w wr):=hc
  obtain⟨z0,z1,z2,z3,z4,z5⟩:=K0.out wr hc
  by_cases hlt:i<TN
  ·have hlt':(i:Int)<TN:=by omega
   obtain⟨gl,gk,n,ao,cap,m,rfl,rfl,hm,y1,y2,hn,hk⟩:=HTP.out.at i (by rw[HTN.out];exact hlt)
   obtain⟨s,rfl⟩:∃s,m = .string s:=by
    rw[List.getElem?_map]at hm
    cases h:TS[i]? with
    | none=>rw[h]at hm;cases hm
    | some s=>rw[h]at hm;exact⟨s,(Option.some.inj hm).symm⟩
   have x1:=hc.cell y1 (fun e=>e)
   have Hy1:Hid (w.cell? ⟨gl,i,none⟩=some (.slice ao n cap)):=y1
   have Hy2:Hid (w.cell? ⟨gk,i,none⟩=some (.string s)):=y2
   have Hk:Hid (∀k,k<n->∃b,ao=some ⟨b,0,none⟩/\w.cell? ⟨b,k,none⟩=some (.string s)):=fun k hkn=>by
    obtain⟨b,e,h⟩:=hk k hkn
    have:=h 0 (by simp)
    simp at this
    exact⟨b,e,this⟩
   clear hk hm y1 y2 hc
   go_wp2
   go_loopg [4] n (fun gj s4 wi=>∃k:Nat,k<=n/\gj=n-k/\s4 = .int .i64 k/\Chg (fun _=>False) w wi)
   case atStart=>exact⟨0,Nat.zero_le _,rfl,rfl,HC.out⟩
   case round=>
    clear z0 z1 z2 z3 z4 z5 x1
    obtain⟨k,hkn,rfl,rfl,hc⟩:=hrel
    have HC2:Hid (Chg (fun _=>False) w _):=hc
    obtain⟨z0,z1,z2,z3,z4,z5⟩:=K0.out _ hc
    have x1:=hc.cell Hy1.out (fun e=>e)
    have x2:=hc.cell Hy2.out (fun e=>e)
    by_cases hkl:k<n
    ·have hkl':(k:Int)<n:=by omega
     obtain⟨b,rfl,hb⟩:=Hk.out k hkl
     have x3:=hc.cell hb (fun e=>e)
     clear hb hc
     go_wp2
     go_quiet (fail)
     go_wp2
     go_roundg (n-(k+1))
     case measure=>omega
     case rel=>exact⟨k+1,by omega,rfl,by go_num,HC2.out.drewN _⟩
    ·have hkl':¬(k:Int)<n:=by omega
     clear hc
     go_wp2
     go_roundg (TN-(i+1))
     case measure=>omega
     case rel=>exact⟨i+1,by omega,rfl,by go_num,HC2.out⟩
  ·have hlt':¬(i:Int)<TN:=by omega
   clear hc
   go_wp2
   clear z0 z1 z2 z3 z4 z5
   go_loopg [5] NN (fun gk s5 wr=>∃i:Nat,i<=NN/\gk=NN-i/\s5 = .int .i64 i/\Chg (fun _=>False) w wr)
   case atStart=>exact⟨0,Nat.zero_le _,rfl,rfl,HC.out⟩
   case round=>
    clear HC
    obtain⟨i,hi,rfl,rfl,hc⟩:=hrel
    have HC:Hid (Chg (fun _=>False) w _):=hc
    obtain⟨z0,z1,z2,z3,z4,z5⟩:=K0.out _ hc
    by_cases hlt:i<NN
    ·have hlt':(i:Int)<NN:=by omega
     obtain⟨gl,gk,n,ao,cap,m,rfl,rfl,hm,y1,y2,hn,hk⟩:=HNP.out.at i (by rw[HNN.out];exact hlt)
     obtain⟨q,rfl⟩:∃q,m = .int .i64 q:=by
      rw[List.getElem?_map]at hm
      cases h:NS[i]? with
      | none=>rw[h]at hm;cases hm
      | some s=>rw[h]at hm;exact⟨s,(Option.some.inj hm).symm⟩
     have x1:=hc.cell y1 (fun e=>e)
     have Hy1:Hid (w.cell? ⟨gl,i,none⟩=some (.slice ao n cap)):=y1
     have Hy2:Hid (w.cell? ⟨gk,i,none⟩=some (.int .i64 q)):=y2
     have Hk:Hid (∀k,k<n->∃b,ao=some ⟨b,0,none⟩/\w.cell? ⟨b,k,none⟩=some (.int .i64 q)):=fun k hkn=>by
      obtain⟨b,e,h⟩:=hk k hkn
      have:=h 0 (by simp)
      simp at this
      exact⟨b,e,this⟩
     clear hk hm y1 y2 hc
     go_wp2
     go_loopg [6] n (fun gj s6 wi=>∃k:Nat,k<=n/\gj=n-k/\s6 = .int .i64 k/\Chg (fun _=>False) w wi)
     case atStart=>exact⟨0,Nat.zero_le _,rfl,rfl,HC.out⟩
     case round=>
      clear z0 z1 z2 z3 z4 z5 x1
      obtain⟨k,hkn,rfl,rfl,hc⟩:=hrel
      have HC2:Hid (Chg (fun _=>False) w _):=hc
      obtain⟨z0,z1,z2,z3,z4,z5⟩:=K0.out _ hc
      have x1:=hc.cell Hy1.out (fun e=>e)
      have x2:=hc.cell Hy2.out (fun e=>e)
      by_cases hkl:k<n
      ·have hkl':(k:Int)<n:=by omega
       obtain⟨b,rfl,hb⟩:=Hk.out k hkl
       have x3:=hc.cell hb (fun e=>e)
       clear hb hc
       go_wp2
       go_quiet (fail)
       go_wp2
       go_roundg (n-(k+1))
       case measure=>omega
       case rel=>exact⟨k+1,by omega,rfl,by go_num,HC2.out.drewN _⟩
      ·have hkl':¬(k:Int)<n:=by omega
       clear hc
       go_wp2
       go_roundg (NN-(i+1))
       case measure=>omega
       case rel=>exact⟨i+1,by omega,rfl,by go_num,HC2.out⟩
    ·have hlt':¬(i:Int)<NN:=by omega
     clear hc
     go_wp2
     clear z0 z1 z2 z3 z4 z5
     go_loopg [7] AN (fun gk s7 wr=>∃i:Nat,i<=AN/\gk=AN-i/\s7 = .int .i64 i/\Chg (fun _=>False) w wr)
     case atStart=>exact⟨0,Nat.zero_le _,rfl,rfl,HC.out⟩
     case round=>
      clear HC
      obtain⟨i,hi,rfl,rfl,hc⟩:=hrel
      have HC:Hid (Chg (fun _=>False) w _):=hc
      obtain⟨z0,z1,z2,z3,z4,z5⟩:=K0.out _ hc
      by_cases hlt:i<AN
      ·have hlt':(i:Int)<AN:=by omega
       obtain⟨gl,gk,n,ao,cap,m,rfl,rfl,hm,y1,y2,hn,hk⟩:=HAP.out.at i (by rw[HAN.out];exact hlt)
       obtain⟨q,rfl⟩:∃q,m = .int .i64 q:=by
        rw[List.getElem?_map]at hm
        cases h:AS[i]? with
        | none=>rw[h]at hm;cases hm
        | some s=>rw[h]at hm;exact⟨s,(Option.some.inj hm).symm⟩
       have x1:=hc.cell y1 (fun e=>e)
       have Hy1:Hid (w.cell? ⟨gl,i,none⟩=some (.slice ao n cap)):=y1
       have Hy2:Hid (w.cell? ⟨gk,i,none⟩=some (.int .i64 q)):=y2
       have Hk:Hid (∀k,k<n->∃b,ao=some ⟨b,0,none⟩/\w.cell? ⟨b,k*3,none⟩=some (.int .i64 q)/\w.cell? ⟨b,k*3+1,none⟩=some (.int .i64 q)/\w.cell? ⟨b,k*3+2,none⟩=some (.slice none 0 0)):=fun k hkn=>by
        obtain⟨b,e,h⟩:=hk k hkn
        exact⟨b,e,h 0 (by simp),h 1 (by simp),h 2 (by simp)⟩
       clear hk hm y1 y2 hc
       go_wp2
       go_loopg [8] n (fun gj s8 wi=>∃k:Nat,k<=n/\gj=n-k/\s8 = .int .i64 k/\Chg (fun _=>False) w wi)
       case atStart=>exact⟨0,Nat.zero_le _,rfl,rfl,HC.out⟩
       case round=>
        clear z0 z1 z2 z3 z4 z5 x1
        obtain⟨k,hkn,rfl,rfl,hc⟩:=hrel
        have HC2:Hid (Chg (fun _=>False) w _):=hc
        obtain⟨z0,z1,z2,z3,z4,z5⟩:=K0.out _ hc
        have x1:=hc.cell Hy1.out (fun e=>e)
        have x2:=hc.cell Hy2.out (fun e=>e)
        by_cases hkl:k<n
        ·have hkl':(k:Int)<n:=by omega
         obtain⟨b,rfl,hb0,hb1,hb2⟩:=Hk.out k hkl
         have x3:=hc.cell hb0 (fun e=>e)
         have x4:=hc.cell hb1 (fun e=>e)
         have x5:=hc.cell hb2 (fun e=>e)
         have v5:∀o,(World.alloc _ o).cell? ⟨g,5,none⟩=_:=fun o=>(World.cell?_alloc_lt _ _ _ (lt_of_cell z5)).trans z5
         have v2:∀o,(World.alloc _ o).cell? ⟨gk,i,none⟩=_:=fun o=>(World.cell?_alloc_lt _ _ _ (lt_of_cell x2)).trans x2
         clear hb0 hb1 hb2 hc
         go_wp2
         go_quiet (fail)
         go_wp2
         go_roundg (n-(k+1))
         case measure=>omega
         case rel=>exact⟨k+1,by omega,rfl,by go_num,(HC2.out.alloc _).drewN _⟩
        ·have hkl':¬(k:Int)<n:=by omega
         clear hc
         go_wp2
         go_roundg (AN-(i+1))
         case measure=>omega
         case rel=>exact⟨i+1,by omega,rfl,by go_num,HC2.out⟩
      ·have hlt':¬(i:Int)<AN:=by omega
       clear hc
       go_wp2
       go_ret
       exact⟨rfl,HC.out⟩
end Go.Proofs.YtdjhhnolcafkiaaGreat
namespace Go.Proofs.YtdjhhnolcafkiaaGreat
open Go.RowKit Pk
theorem errNum_any (a:Int) (w:World) :
  Calls Tryz.prog 14 #[.int .i64 a] w fun e w'=>e = .returned (.int .i64 a)/\w'=w:=by
 go_enter Tryz.func14,Tryz.ntmps14
 go_wp2
 go_ret
 exact⟨rfl,rfl⟩
namespace Rl
section
variable {w : World} {F : Nat -> Nat -> Nat} {K : Nat} {pb mb rb : Nat -> Nat} {M : Nat -> Md} {R : Nat -> Rm} {g n q k : Nat}
theorem st_addS (h:Sta w F K pb mb rb M R g n) (hk:k<K) (hr:Rel q (M k) (R k)) (so:Int) :
  Calls Tryz.prog 15 #[.pointer (some ⟨mb k,0,none⟩),.int .i64 so] w fun e w'=>e = .returned (.int .i64 (addSM (M k) so).2)/\∃F',Sta w' F' K pb mb rb (upd M k (addSM (M k) so).1) R g n/\SMv w F w' F':=by
 obtain⟨sv,wv,SB,WB,a⟩:=h.md k hk
 refine(addSender_any _ _ _ _ _ _ _ so w a hr.w8 hr.cfg.1.1).mono ?_
 rintro e w' ⟨rfl,ρ',sv',wv',SB',WB',m1,m2,m3⟩
 obtain⟨F',s1,s2,-⟩:=h.turnM hk m1 m2 m3
 exact⟨rfl,F',s1,s2⟩
theorem st_refAddS (h:Sta w F K pb mb rb M R g n) (hk:k<K) (so:Int) :
  Calls Tryz.prog 16 #[.pointer (some ⟨rb k,0,none⟩),.int .i64 so] w fun e w'=>e = .returned (.int .i64 (rAddS (R k) so).2)/\∃F',Sta w' F' K pb mb rb M (upd R k (rAddS (R k) so).1) g n/\SMv w F w' F':=by
 obtain⟨sv,wv,a⟩:=h.rd k hk
 refine(refAddSender_any _ _ _ _ _ so w a).mono ?_
 rintro e w' ⟨rfl,ρ',sv',m1,m2⟩
 obtain⟨F',s1,s2,-⟩:=h.turnR hk m1 m2
 exact⟨rfl,F',s1,s2⟩
theorem st_addW (h:Sta w F K pb mb rb M R g n) (hk:k<K) (hr:Rel q (M k) (R k)) (hq:q<=10000000) (of_:Int) (p:Plan) :
  Calls Tryz.prog 17 #[.pointer (some ⟨mb k,0,none⟩),.int .i64 of_,.agg #[.int .i64 p.source,.int .i64 p.second,.int .i64 p.ty,.int .i64 p.secondTy,.int .i64 p.first,.int .i64 p.secondFirst]] w fun e w'=>e = .returned (.tuple #[.int .i64 (addWM (M k) of_ p).2.1,.int .i64 (addWM (M k) of_ p).2.2])/\∃F',Sta w' F' K pb mb rb (upd M k (addWM (M k) of_ p).1) R g n/\SMv w F w' F':=by
 obtain⟨sv,wv,SB,WB,a⟩:=h.md k hk
 have hb:=hr.lb
 refine(addWant_any _ _ _ _ _ _ _ of_ p w a hr.w8 hr.ids hb.1 (by omega)).mono ?_
 rintro e w' ⟨rfl,ρ',sv',wv',SB',WB',m1,m2,m3⟩
 obtain⟨F',s1,s2,-⟩:=h.turnM hk m1 m2 m3
 exact⟨rfl,F',s1,s2⟩
theorem st_refAddW {M0:Md}(h:Sta w F K pb mb rb M R g n) (hk:k<K) (hr:Rel q M0 (R k)) (hq:q<=10000000) (of_:Int) (p:Plan) :
  Calls Tryz.prog 18 #[.pointer (some ⟨rb k,0,none⟩),.int .i64 of_,.agg #[.int .i64 p.source,.int .i64 p.second,.int .i64 p.ty,.int .i64 p.secondTy,.int .i64 p.first,.int .i64 p.secondFirst]] w fun e w'=>e = .returned (.tuple #[.int .i64 (rAddW (R k) of_ p).2.1,.int .i64 (rAddW (R k) of_ p).2.2])/\∃F',Sta w' F' K pb mb rb M (upd R k (rAddW (R k) of_ p).1) g n/\SMv w F w' F':=by
 obtain⟨sv,wv,a⟩:=h.rd k hk
 have hb:=hr.lb
 have hl:=hr.last
 refine(refAddWant_any _ _ _ _ _ of_ p w a (by omega) (fun y hy=>?_)).mono ?_
 ·obtain⟨i,x,h1,h2⟩:=mem_pick hr.wl.symm hy
  have h3:=hr.ids x (List.mem_of_getElem? h2)
  have h4:=(hr.wa i x y h2 h1).id
  omega
 rintro e w' ⟨rfl,ρ',sv',wv',m1,m2⟩
 obtain⟨F',s1,s2,-⟩:=h.turnR hk m1 m2
 exact⟨rfl,F',s1,s2⟩
theorem st_drop (h:Sta w F K pb mb rb M R g n) (hk:k<K) (hr:Rel q (M k) (R k)) (id:Int) :
  Calls Tryz.prog 19 #[.pointer (some ⟨mb k,0,none⟩),.int .i64 id] w fun e w'=>e = .returned (.int .i64 (dropM (M k) id).2)/\∃F',Sta w' F' K pb mb rb (upd M k (dropM (M k) id).1) R g n/\SMv w F w' F':=by
 obtain⟨sv,wv,SB,WB,a⟩:=h.md k hk
 refine(dropWant_any _ _ _ _ _ _ _ id w a hr.w8).mono ?_
 rintro e w' ⟨rfl,ρ',sv',wv',SB',WB',m1,m2,m3⟩
 obtain⟨F',s1,s2,-⟩:=h.turnM hk m1 m2 m3
 exact⟨rfl,F',s1,s2⟩
theorem st_refDrop (h:Sta w F K pb mb rb M R g n) (hk:k<K) (id:Int) :
  Calls Tryz.prog 20 #[.pointer (some ⟨rb k,0,none⟩),.int .i64 id] w fun e w'=>e = .returned (.int .i64 (rDrop (R k) id).2)/\∃F',Sta w' F' K pb mb rb M (upd R k (rDrop (R k) id).1) g n/\SMv w F w' F':=by
 obtain⟨sv,wv,a⟩:=h.rd k hk
 refine(refDropWant_any _ _ _ _ _ id w a).mono ?_
 rintro e w' ⟨rfl,ρ',wv',m1,m2⟩
 obtain⟨F',s1,s2,-⟩:=h.turnR hk m1 m2
 exact⟨rfl,F',s1,s2⟩
theorem st_packet (h:Sta w F K pb mb rb M R g n) (hk:k<K) (hr:Rel q (M k) (R k)) (hq:q<=10000000) (t:ByteArray) (ht:t.size<=maxLen) :
  Calls Tryz.prog 46 #[.pointer (some ⟨mb k,0,none⟩),.string t] w fun e w'=>∃cv tv F',e = .returned (.tuple #[tv,.int .i64 (packetM (M k) t cv).2.2])/\Sta w' F' K pb mb rb (upd M k (packetM (M k) t cv).1) R g n/\SMv w F w' F'/\
   w'.ownsRow w.heap.size 9 1 tv (packetM (M k) t cv).2.1.length ((packetM (M k) t cv).2.1.map Value.string)/\∀b,tv.ownBlock=some b->∀i,F' i b=0:=by
 obtain⟨sv,wv,SB,WB,a⟩:=h.md k hk
 refine(packet_any _ _ _ _ _ _ _ t w a (hr.mok hq) ht).mono ?_
 rintro e w' ⟨cv,tv,rfl,ρ',sv',wv',SB',WB',m1,⟨m2,m3⟩,m4,m5⟩
 obtain⟨F',s1,s2,s3⟩:=h.turnM hk m1 m2 m3
 exact⟨cv,tv,F',rfl,s1,s2,m4,fun b hb=>s3 b (fun i=>h.hi i b (m4.lt b hb).1) (m4.lt b hb).1 (m5 b hb)⟩
theorem Rel.refOk {M0:Md}{R0:Rm}(hr:Rel q M0 R0) (hq:q<=2000000):(∀s∈R0.sds,(-1<=s.newest/\s.newest<=10000000000000)/\(∀x∈s.gaps,0<=x.n/\x.n<=10000000000000)/\s.gaps.length<=1000)/\(∀c∈[R0.s.passed,R0.s.late,R0.s.doubled,R0.s.wrong,R0.s.unknown,R0.s.givenUp],0<=c/\c<=1000000000000000)/\(∀x∈R0.wns,x.all.length<=2000000/\(0<=x.pl.first/\x.pl.first<=65535)/\-65535<=x.shift/\x.shift<=65535):=by
 have hc:=hr.cfg
 refine⟨fun s hs=>?_,fun c hc=>?_,fun x hx=>?_⟩
 ·obtain⟨i,t,h1,h2⟩:=mem_pick hr.sl.symm hs
  have r:=hr.sa i t s h2 h1
  have r1:=r.hi
  have r2:=r.len (by omega)
  exact⟨⟨r.lo,by omega⟩,r.gpos (by omega) (by omega),by omega⟩
 ·have h1:=hr.cnt
  rw[hr.s]at h1
  have:=h1 c (by
   simp only[List.mem_cons,List.not_mem_nil,or_false]at hc ⊢
   omega)
  omega
 ·obtain⟨i,y,h1,h2⟩:=mem_pick hr.wl.symm hx
  have r:=hr.wa i y x h2 h1
  exact⟨by have:=r.al;omega,r.fb,r.sb⟩
theorem st_refPacket {M0:Md}(h:Sta w F K pb mb rb M R g n) (hk:k<K) (hr:Rel q M0 (R k)) (hq:q<=2000000) (t:ByteArray) (ht:t.size<=maxLen) :
  Calls Tryz.prog 47 #[.pointer (some ⟨rb k,0,none⟩),.string t] w fun e w'=>∃tv R' out er F',e = .returned (.tuple #[tv,.int .i64 er])/\RPk (R k) t M0.c.window.toNat R' out er/\Sta w' F' K pb mb rb M (upd R k R') g n/\SMv w F w' F'/\
   w'.ownsRow w.heap.size 9 1 tv out.length (out.map Value.string):=by
 obtain⟨sv,wv,a⟩:=h.rd k hk
 have hc:=hr.cfg
 have e1:=hr.c
 obtain⟨b1,b2,b3⟩:=Rel.refOk hr hq
 refine(refPacket_any _ _ _ _ _ t M0.c.window.toNat w a (by rw[<-e1];omega) (by omega) ht b1 b2 b3).mono ?_
 rintro e w' ⟨tv,R',out,er,rfl,hp,ρ',m1,m2,m3,-⟩
 obtain⟨F',s1,s2,-⟩:=h.turnR hk m1 m2
 exact⟨tv,R',out,er,F',rfl,hp,s1,s2,m3⟩
theorem st_missing (h:Sta w F K pb mb rb M R g n) (hk:k<K) (hr:Rel q (M k) (R k)) (so:Int) :
  Calls Tryz.prog 25 #[.pointer (some ⟨mb k,0,none⟩),.int .i64 so] w fun e w'=>Below w.heap.size w w'/\
   ((sndPos (M k) so=none/\e = .returned (.tuple #[.slice none 0 0,.int .i64 4]))\/∃i s v,sndPos (M k) so=some i/\(M k).sds[i]? = some s/\e = .returned (.tuple #[v,.int .i64 0])/\OwnInts w' w.heap.size v (names s.gaps)):=by
 obtain⟨sv,wv,SB,WB,a⟩:=h.md k hk
 have hc:=hr.cfg
 refine missing_any _ _ _ _ _ _ _ so w a (fun s hs=>?_)
 obtain⟨i,t,h1,h2⟩:=mem_pick hr.sl hs
 have r:=hr.sa i s t h1 h2
 exact⟨r.in16,by have:=r.lenM (by omega);omega⟩
theorem st_refMissing {M0:Md}(h:Sta w F K pb mb rb M R g n) (hk:k<K) (hr:Rel q M0 (R k)) (so:Int) :
  Calls Tryz.prog 26 #[.pointer (some ⟨rb k,0,none⟩),.int .i64 so] w fun e w'=>Below w.heap.size w w'/\
   ((rsPos (R k) so=none/\e = .returned (.tuple #[.slice none 0 0,.int .i64 4]))\/∃i s v,rsPos (R k) so=some i/\(R k).sds[i]? = some s/\e = .returned (.tuple #[v,.int .i64 0])/\OwnInts w' w.heap.size v (rNums s.gaps)):=by
 obtain⟨sv,wv,a⟩:=h.rd k hk
 have hc:=hr.cfg
 refine refMissing_any _ _ _ _ _ so w a (fun s hs=>?_)
 obtain⟨i,t,h1,h2⟩:=mem_pick hr.sl.symm hs
 have:=(hr.sa i t s h2 h1).len (by omega)
 omega
def Took (w:World) (F:Nat->Nat->Nat) (v:Value) (W:World) (F':Nat->Nat->Nat):Prop:=(∀b,b<w.heap.size->v.ownBlock≠some b->(∀i,F i b=0)->∀i,F' i b=0)/\Chg (fun b=>(∃i,F i b≠0)\/v.ownBlock=some b) w W
theorem SMv.took {w0 W:World}{F0 F':Nat->Nat->Nat}{v:Value}(h:SMv w0 F0 w F) (k:Took w F v W F') (hv:∀b,v.ownBlock=some b->w0.heap.size<=b):SMv w0 F0 W F':=
 ⟨fun b hb e=>k.1 b (Nat.lt_of_lt_of_le hb h.2.size) (fun e'=>by have:=hv b e';omega) (h.1 b hb e),h.2.trans k.2 (fun b hb e=>Classical.byContradiction fun e0=>by
  rcases e with⟨i,hi⟩|e
  ·exact hi (h.1 b hb (fun j=>Classical.byContradiction fun ej=>e0 ⟨j,ej⟩) i)
  ·have:=hv b e;omega)⟩
theorem st_ownsN (h:Sta w F K pb mb rb M R g n) (hn:n<=44000000) (v:Value) (l:List Int) (hown:OwnInts w (g+1) v l) (hl:l.length<=6400) (hf:∀b,v.ownBlock=some b->(∀j,F j b=0)/\∀k,k<K->b≠pb k) :
  Calls Tryz.prog 28 #[.pointer (some ⟨g,0,none⟩),v] w fun e w'=>e = .returned (.tuple #[])/\∃F',Sta w' F' K pb mb rb M R g (n+1)/\Took w F v w' F':=by
 obtain⟨tv,tk,nv,nk,av,ak,TL,NL,AL,TS,NS,AS,nx,b1,b2,b3,b4,b5,b6⟩:=h.bk
 refine(ownsN_any g _ tv tk nv nk av ak TL _ NL _ AL _ nx v l w b1 hown (fun b hb=>(hf b hb).1 0) hl (by omega) b5 (by omega)).mono ?_
 rintro e w' ⟨rfl,ρ',nv',nk',NL',z1,z2,z3,z4,z5⟩
 have hc:Chg (fun b=>F 0 b≠0\/v.ownBlock=some b) w w':=z5.mono (fun b _ e=>by
  rcases e with e|e|e|e
  ·rw[e,(b1.rg g).2 rfl];exact .inl (by decide)
  ·rw[b1.np.fl b e];exact .inl (by decide)
  ·rw[b1.np.fm b e];exact .inl (by decide)
  ·exact .inr e)
 refine⟨rfl,upd F 0 ρ',h.turnB v ⟨tv,tk,nv',nk',av,ak,TL,NL++NL',AL,TS,NS++[-(nx+1),-(nx+1),-(nx+1),-(nx+1)],AS,nx+1,by rw[List.map_append];exact z2,by omega,by rw[List.length_append,z1];omega,by omega,by omega,by omega⟩ z2.hi hf z4 hc,fun b hb e1 e2 i=>?_,hc.mono (fun b _ e=>?_)⟩
 ·unfold upd
  split
  ·exact z4 b hb e1 (e2 0)
  ·exact e2 i
 ·rcases e with e|e
  ·exact .inl ⟨0,e⟩
  ·exact .inr e
theorem st_ownsT (h:Sta w F K pb mb rb M R g n) (hn:n<=44000000) (v:Value) (l:List ByteArray) (hown:w.ownsRow (g+1) 9 1 v l.length (l.map Value.string)) (hl:l.length<=9000) (hf:∀b,v.ownBlock=some b->(∀j,F j b=0)/\∀k,k<K->b≠pb k) :
  Calls Tryz.prog 77 #[.pointer (some ⟨g,0,none⟩),v] w fun e w'=>e = .returned (.tuple #[])/\∃F',Sta w' F' K pb mb rb M R g (n+1)/\Took w F v w' F':=by
 obtain⟨tv,tk,nv,nk,av,ak,TL,NL,AL,TS,NS,AS,nx,b1,b2,b3,b4,b5,b6⟩:=h.bk
 refine(ownsT_any g _ tv tk nv nk av ak TL _ NL _ AL _ nx v l w b1 hown (fun b hb=>(hf b hb).1 0) hl (by omega) b5 (by omega)).mono ?_
 rintro e w' ⟨rfl,ρ',tv',tk',TL',m,z1,z2,z3,z4,z5⟩
 have hc:Chg (fun b=>F 0 b≠0\/v.ownBlock=some b) w w':=z5.mono (fun b _ e=>by
  rcases e with e|e|e|e
  ·rw[e,(b1.rg g).2 rfl];exact .inl (by decide)
  ·rw[b1.tp.fl b e];exact .inl (by decide)
  ·rw[b1.tp.fm b e];exact .inl (by decide)
  ·exact .inr e)
 refine⟨rfl,upd F 0 ρ',h.turnB v ⟨tv',tk',nv,nk,av,ak,TL++TL',NL,AL,TS++[m,m,m,m],NS,AS,nx+1,by rw[List.map_append];exact z2,by rw[List.length_append,z1];omega,by omega,by omega,by omega,by omega⟩ z2.hi hf z4 hc,fun b hb e1 e2 i=>?_,hc.mono (fun b _ e=>?_)⟩
 ·unfold upd
  split
  ·exact z4 b hb e1 (e2 0)
  ·exact e2 i
 ·rcases e with e|e
  ·exact .inl ⟨0,e⟩
  ·exact .inr e
theorem st_looks (h:Sta w F K pb mb rb M R g n) (hn:n<=44000000) :
  Calls Tryz.prog 9 #[.pointer (some ⟨g,0,none⟩)] w fun e w'=>e = .returned (.bool true)/\Sta w' F K pb mb rb M R g n/\SMv w F w' F:=by
 obtain⟨tv,tk,nv,nk,av,ak,TL,NL,AL,TS,NS,AS,nx,b1,b2,b3,b4,b5,b6⟩:=h.bk
 refine(looksN_any g _ tv tk nv nk av ak TL NL AL TS NS AS nx w b1 (by omega) (by omega) (by omega)).mono ?_
 rintro e w' ⟨rfl,hc⟩
 exact⟨rfl,h.chg hc (fun _ e=>e.elim),fun _ _ e=>e,hc.mono (fun _ _ e=>e.elim)⟩
theorem st_look (h:Sta w F K pb mb rb M R g n) (hk:k<K) :
  Calls Tryz.prog 11 #[.pointer (some ⟨mb k,0,none⟩)] w fun e w'=>e = .returned (.agg (sttA (M k).s))/\Below w.heap.size w w':=by
 obtain⟨sv,wv,SB,WB,a⟩:=h.md k hk
 exact look_any _ _ _ _ _ _ _ w a
end
end Rl
namespace Rl
theorem Took.before {w w1 W:World}{F F':Nat->Nat->Nat}{v:Value}(hb:Below w.heap.size w w1) (h:Took w1 F v W F'):Took w F v W F':=
 ⟨fun b hl=>h.1 b (Nat.lt_of_lt_of_le hl hb.size),(Chg.ofBelow hb).trans h.2 (fun _ _ e=>e)⟩
section
variable {w : World} {F : Nat -> Nat -> Nat} {K : Nat} {pb mb rb : Nat -> Nat} {M : Nat -> Md} {R : Nat -> Rm} {g n q k : Nat}
theorem Sta.glt (h:Sta w F K pb mb rb M R g n):g<w.heap.size:=by
 obtain⟨tv,tk,nv,nk,av,ak,TL,NL,AL,TS,NS,AS,nx,b1,_⟩:=h.bk
 exact b1.lt
theorem Sta.free (h:Sta w F K pb mb rb M R g n){b:Nat}(hb:w.heap.size<=b):(∀j,F j b=0)/\∀k,k<K->b≠pb k:=
 ⟨fun j=>h.hi j b hb,fun k hk e=>by have:=lt_of_cell (h.pc k hk).1;rw[<-e]at this;simp only at this;omega⟩
def missM (M:Md) (so:Int):List Int × Int:=match sndPos M so with
 | none=>([],4)
 | some i=>match M.sds[i]? with
  | none=>([],4)
  | some s=>(names s.gaps,0)
def missR (R:Rm) (so:Int):List Int × Int:=match rsPos R so with
 | none=>([],4)
 | some i=>match R.sds[i]? with
  | none=>([],4)
  | some s=>(rNums s.gaps,0)
theorem Rel.miss {M0:Md}{R0:Rm}(h:Rel q M0 R0) (so:Int):missM M0 so=missR R0 so/\(missM M0 so).1.length<=200:=by
 unfold missM missR
 have hc:=h.cfg
 rw[h.spos]
 cases hp:rsPos R0 so with
 | none=>exact⟨rfl,Nat.zero_le _⟩
 | some i=>
  simp only
  cases hs:M0.sds[i]? with
  | none=>
   have:R0.sds[i]? = none:=by rw[List.getElem?_eq_none_iff]at hs ⊢;rw[<-h.sl];exact hs
   rw[this]
   exact⟨rfl,Nat.zero_le _⟩
  | some s=>
   obtain⟨t,ht⟩:=pick h.sl hs
   have r:=h.sa i s t hs ht
   rw[ht]
   refine⟨?_,?_⟩
   ·show(names s.gaps,(0:Int))=(rNums t.gaps,0)
    rw[show names s.gaps=rNums t.gaps from r.names]
   ·show(names s.gaps).length<=200
    unfold names
    rw[List.length_map]
    exact r.lenM (by omega)
theorem st_missM (h:Sta w F K pb mb rb M R g n) (hk:k<K) (hr:Rel q (M k) (R k)) (so:Int) :
  Calls Tryz.prog 25 #[.pointer (some ⟨mb k,0,none⟩),.int .i64 so] w fun e w'=>Below w.heap.size w w'/\∃v,e = .returned (.tuple #[v,.int .i64 (missM (M k) so).2])/\OwnInts w' w.heap.size v (missM (M k) so).1:=by
 refine(st_missing h hk hr so).mono ?_
 rintro e w' ⟨hb,⟨hp,rfl⟩|⟨i,s,v,hp,hs,rfl,ho⟩⟩
 ·unfold missM
  rw[hp]
  exact⟨hb,_,rfl,World.ownsRow_nil _ _ _ _⟩
 ·unfold missM
  rw[hp]
  simp only
  rw[hs]
  exact⟨hb,v,rfl,ho⟩
theorem st_missR {M0:Md}(h:Sta w F K pb mb rb M R g n) (hk:k<K) (hr:Rel q M0 (R k)) (so:Int) :
  Calls Tryz.prog 26 #[.pointer (some ⟨rb k,0,none⟩),.int .i64 so] w fun e w'=>Below w.heap.size w w'/\∃v,e = .returned (.tuple #[v,.int .i64 (missR (R k) so).2])/\OwnInts w' w.heap.size v (missR (R k) so).1:=by
 refine(st_refMissing h hk hr so).mono ?_
 rintro e w' ⟨hb,⟨hp,rfl⟩|⟨i,s,v,hp,hs,rfl,ho⟩⟩
 ·unfold missR
  rw[hp]
  exact⟨hb,_,rfl,World.ownsRow_nil _ _ _ _⟩
 ·unfold missR
  rw[hp]
  simp only
  rw[hs]
  exact⟨hb,v,rfl,ho⟩
end
end Rl
open Rl
theorem texts_any {w:World}{F:Nat->Nat->Nat}{K:Nat}{pb mb rb:Nat->Nat}{M:Nat->Md}{R:Nat->Rm}{g n:Nat}(h:Sta w F K pb mb rb M R g n) (hn:n<=44000000) (lv mv:Value) (L:List ByteArray) (er:Int) (B2:Nat) (h1:w.ownsRow (g+1) 9 1 lv L.length (L.map Value.string)) (h2:w.ownsRow B2 9 1 mv L.length (L.map Value.string)) (hl:L.length<=9000) (hf:∀b,lv.ownBlock=some b->(∀j,F j b=0)/\∀k,k<K->b≠pb k) :
  Calls Tryz.prog 48 #[.pointer (some ⟨g,0,none⟩),lv,.int .i64 er,mv,.int .i64 er] w fun e w'=>e = .returned (.bool true)/\∃F',Sta w' F' K pb mb rb M R g (n+1)/\Took w F lv w' F':=by
 obtain⟨a1,c1,rfl⟩:=rowA_shape h1
 obtain⟨a2,c2,rfl⟩:=rowA_shape h2
 have H:=hyd h
 have H1:=hyd h1
 have H2:=hyd h2
 have Hf:=hyd hf
 clear h h1 h2 hf
 go_enter Tryz.func48,Tryz.ntmps48
 go_wp2_with fail
 refine(sameTexts_any _ _ _ _ L _ H1.out H2.out (by omega)).mono ?_
 rintro e w1 ⟨rfl,m,rfl⟩
 have hb:Below w.heap.size w (w.drewN m):=below_drewN (Below.refl _ _) m
 have HB:=hyd hb
 have HS:Hid (Sta (w.drewN m) F K pb mb rb M R g n):=H.out.below hb
 have HR:Hid ((w.drewN m).ownsRow (g+1) 9 1 (.slice a1 L.length c1) L.length (L.map Value.string)):=rowA_chg (T:=fun _=>False) (Chg.ofBelow hb) H1.out (fun _ _ e=>e)
 clear hb
 generalize w.drewN m=w1 at *
 go_wp2_with fail
 refine(st_ownsT HS.out hn _ L HR.out hl Hf.out).mono ?_
 rintro e w2 ⟨rfl,F',s1,s2⟩
 have HE:Hid (∃F',Sta w2 F' K pb mb rb M R g (n+1)/\Took w F (.slice a1 L.length c1) w2 F'):=⟨F',s1,Took.before HB.out s2⟩
 clear s1 s2
 go_wp2_with fail
 refine(errNum_any _ _).mono ?_
 rintro e w3 ⟨rfl,hw3⟩
 rw[hw3]
 clear hw3
 go_wp2
 go_ret
 exact⟨rfl,HE.out⟩
theorem lmissing_any {w:World}{F:Nat->Nat->Nat}{K:Nat}{pb mb rb:Nat->Nat}{M:Nat->Md}{R:Nat->Rm}{g n q k:Nat}(h:Sta w F K pb mb rb M R g n) (hk:k<K) (hr:Rel q (M k) (R k)) (hn:n<=43000000) (so:Int) :
  Calls Tryz.prog 10 #[.pointer (some ⟨pb k,0,none⟩),.pointer (some ⟨g,0,none⟩),.int .i64 so] w fun e w'=>e = .returned (.bool true)/\∃F',Sta w' F' K pb mb rb M R g (n+2)/\SMv w F w' F':=by
 have H:=hyd h
 have Hr:=hyd hr
 obtain⟨y0,y1,-⟩:=h.pc k hk
 obtain⟨hm1,hm2⟩:=hr.miss so
 have hgl:=h.glt
 obtain⟨PK,hPK⟩:∃PK,pb k=PK:=⟨_,rfl⟩
 have HPK:=hyd hPK
 rw[hPK]at y0 y1 ⊢
 unfold ptr at y0 y1
 have Hm1:=hyd hm1
 have Hm2:=hyd hm2
 clear h hr hm1 hm2 hPK
 have hpl:PK<w.heap.size:=lt_of_cell y0
 go_enter Tryz.func10,Tryz.ntmps10
 go_wp2_with fail
 refine(st_missM H.out hk Hr.out so).mono ?_
 rintro e w1 ⟨hb1,v1,rfl,o1⟩
 have H1:Hid (Sta w1 F K pb mb rb M R g n):=H.out.below hb1
 have HB1:=hyd hb1
 have hz1:=hb1.size
 have z0:w1.cell? ⟨PK,0,none⟩=some (.pointer (some ⟨mb k,0,none⟩)):=(hb1.cell (p:=⟨PK,0,none⟩) hpl).trans y0
 have z1:w1.cell? ⟨PK,1,none⟩=some (.pointer (some ⟨rb k,0,none⟩)):=(hb1.cell (p:=⟨PK,1,none⟩) hpl).trans y1
 have O1:=hyd o1
 obtain⟨a1,c1,rfl⟩:=o1.shape
 clear hb1 o1 y0 y1
 go_wp2_with fail
 refine(st_missM H1.out hk Hr.out so).mono ?_
 rintro e w2 ⟨hb2,v2,rfl,o2⟩
 have H2:Hid (Sta w2 F K pb mb rb M R g n):=H1.out.below hb2
 have HB2:=hyd hb2
 have hz2:=hb2.size
 have t1:w2.cell? ⟨PK,1,none⟩=some (.pointer (some ⟨rb k,0,none⟩)):=(hb2.cell (p:=⟨PK,1,none⟩) (lt_of_cell z1)).trans z1
 have O2:=hyd o2
 obtain⟨a2,c2,rfl⟩:=o2.shape
 clear hb2 o2 z0 z1
 go_wp2_with fail
 refine(st_missR H2.out hk Hr.out so).mono ?_
 rintro e w3 ⟨hb3,v3,rfl,o3⟩
 have H3:Hid (Sta w3 F K pb mb rb M R g n):=H2.out.below hb3
 have hz3:=hb3.size
 rw[<-Hm1.out]at o3 ⊢
 have O3:=hyd o3
 obtain⟨a3,c3,rfl⟩:=o3.shape
 have O2':Hid (OwnInts w3 w1.heap.size (.slice a2 (missM (M k) so).1.length c2) (missM (M k) so).1):=rowA_chg (T:=fun _=>False) (Chg.ofBelow hb3) O2.out (fun _ _ e=>e)
 have O1':Hid (OwnInts w3 w.heap.size (.slice a1 (missM (M k) so).1.length c1) (missM (M k) so).1):=rowA_chg (T:=fun _=>False) (Chg.ofBelow hb3) (rowA_chg (T:=fun _=>False) (Chg.ofBelow HB2.out) O1.out (fun _ _ e=>e)) (fun _ _ e=>e)
 have HB3:Hid (Below w.heap.size w w3):=(HB1.out.trans (HB2.out.mono hz1)).trans (hb3.mono (Nat.le_trans hz1 hz2))
 have HX1:Hid (∀b,(Value.slice a1 (missM (M k) so).1.length c1).ownBlock=some b->w.heap.size<=b/\b<w1.heap.size):=fun b hb=>O1.out.lt b hb
 clear hb3 o3 t1 O1 O2 HB1 HB2
 generalize missM (M k) so=MS at *
 obtain⟨l,er⟩:=MS
 simp only at O1' O2' O3 HX1 Hm2 ⊢
 have hl2:=Hm2.out
 go_wp2_with fail
 refine(sameNumbers_any _ _ _ l l _ O1'.out.isInts O3.out.isInts (by omega) (by omega)).mono ?_
 rintro e w4 ⟨rfl,m4,rfl⟩
 have hb4:Below w3.heap.size w3 (w3.drewN m4):=below_drewN (Below.refl _ _) m4
 have H4:Hid (Sta (w3.drewN m4) F K pb mb rb M R g n):=H3.out.below hb4
 have P2:Hid (OwnInts (w3.drewN m4) w1.heap.size (.slice a2 l.length c2) l):=rowA_chg (T:=fun _=>False) (Chg.ofBelow hb4) O2'.out (fun _ _ e=>e)
 have P1:Hid (OwnInts (w3.drewN m4) w.heap.size (.slice a1 l.length c1) l):=rowA_chg (T:=fun _=>False) (Chg.ofBelow hb4) O1'.out (fun _ _ e=>e)
 have P3:Hid (OwnInts (w3.drewN m4) w2.heap.size (.slice a3 l.length c3) l):=rowA_chg (T:=fun _=>False) (Chg.ofBelow hb4) O3.out (fun _ _ e=>e)
 have HB4:Hid (Below w.heap.size w (w3.drewN m4)):=HB3.out.trans (hb4.mono HB3.out.size)
 have hz4:=hb4.size
 clear hb4 O1' O2' O3 H3 HB3
 generalize w3.drewN m4=w4 at *
 go_wp2_with fail
 refine(sameNumbers_any _ _ _ l l _ P2.out.isInts P3.out.isInts (by omega) (by omega)).mono ?_
 rintro e w5 ⟨rfl,m5,rfl⟩
 have hb5:Below w4.heap.size w4 (w4.drewN m5):=below_drewN (Below.refl _ _) m5
 have H5:Hid (Sta (w4.drewN m5) F K pb mb rb M R g n):=H4.out.below hb5
 have Q2:Hid (OwnInts (w4.drewN m5) w1.heap.size (.slice a2 l.length c2) l):=rowA_chg (T:=fun _=>False) (Chg.ofBelow hb5) P2.out (fun _ _ e=>e)
 have Q1:Hid (OwnInts (w4.drewN m5) w.heap.size (.slice a1 l.length c1) l):=rowA_chg (T:=fun _=>False) (Chg.ofBelow hb5) P1.out (fun _ _ e=>e)
 have HB5:Hid (Below w.heap.size w (w4.drewN m5)):=HB4.out.trans (hb5.mono HB4.out.size)
 have hz5:=hb5.size
 clear hb5 P1 P2 P3 H4 HB4
 generalize w4.drewN m5=w5 at *
 go_wp2_with fail
 refine(st_ownsN H5.out (by omega) _ l (row_mono Q1.out (by omega)) (by omega) (fun b hb=>H.out.free (HX1.out b hb).1)).mono ?_
 rintro e w6 ⟨rfl,F1,s1,s2⟩
 have H6:=hyd s1
 have hX2:∀b,(Value.slice a2 l.length c2).ownBlock=some b->w1.heap.size<=b/\b<w5.heap.size:=fun b hb=>Q2.out.lt b hb
 have hN2:∀b,(Value.slice a2 l.length c2).ownBlock=some b->¬((∃i,F i b≠0)\/(Value.slice a1 l.length c1).ownBlock=some b):=fun b hb e=>by
  have h1:=hX2 b hb
  rcases e with⟨i,e⟩|e
  ·exact e ((H.out.free (by omega)).1 i)
  ·have:=HX1.out b e;omega
 have Q3:Hid (OwnInts w6 w1.heap.size (.slice a2 l.length c2) l):=rowA_chg s2.2 Q2.out hN2
 have HF2:Hid (∀b,(Value.slice a2 l.length c2).ownBlock=some b->(∀j,F1 j b=0)/\∀k,k<K->b≠pb k):=fun b hb=>by
  have h1:=hX2 b hb
  have h2:=H.out.free (b:=b) (by omega)
  exact⟨s2.1 b h1.2 (fun e=>by have:=HX1.out b e;omega) h2.1,h2.2⟩
 have HV:Hid (SMv w F w6 F1):=SMv.took (SMv.below HB5.out) s2 (fun b hb=>(HX1.out b hb).1)
 clear s1 s2 hX2 hN2 Q1 Q2
 go_wp2_with fail
 refine(st_ownsN H6.out (by omega) _ l (row_mono Q3.out (by omega)) (by omega) HF2.out).mono ?_
 rintro e w7 ⟨rfl,F2,s1,s2⟩
 have HE:Hid (∃F',Sta w7 F' K pb mb rb M R g (n+2)/\SMv w F w7 F'):=⟨F2,s1,HV.out.took s2 (fun b hb=>Nat.le_trans hz1 (Q3.out.lt b hb).1)⟩
 clear s1 s2 Q3 H6
 go_wp2_with fail
 refine(errNum_any _ _).mono ?_
 rintro e w8 ⟨rfl,hw8⟩
 rw[hw8]
 clear hw8
 go_wp2_with fail
 refine(errNum_any _ _).mono ?_
 rintro e w9 ⟨rfl,hw9⟩
 rw[hw9]
 clear hw9
 go_wp2
 go_ret
 exact⟨rfl,HE.out⟩
end Go.Proofs.YtdjhhnolcafkiaaGreat
namespace Go.Proofs.YtdjhhnolcafkiaaGreat
open Go.RowKit Pk
namespace Rl
structure OpD where
 kind:Int
 n:Int
 tx:ByteArray
 pl:Plan
 cf:Cfg
 pk:PP
 ca:Option Addr
 cc:Nat
 s1:Int
 s2:Int
 na:Option Addr
 nl:Nat
 nc:Nat
abbrev opKL (kind:Int) (o:OpD):List Value:=[.int .i64 kind,.int .i64 o.n,.string o.tx,.int .i64 o.pl.source,.int .i64 o.pl.second,.int .i64 o.pl.ty,.int .i64 o.pl.secondTy,.int .i64 o.pl.first,.int .i64 o.pl.secondFirst,.int .i64 o.cf.ring,.int .i64 o.cf.window,.int .i64 o.cf.delay,.int .i64 o.cf.rate,.int .i64 o.cf.burst,.int .i64 o.cf.retry,.int .i64 o.cf.tries,.bool o.pk.mrk,.int .i64 o.pk.ty,.int .i64 o.pk.nu,.int .i64 o.pk.ti,.int .i64 o.pk.so,.slice o.ca o.pk.cl.length o.cc,.bool o.pk.ex,.int .i64 o.pk.pr,.string o.pk.en,.string o.pk.py,.int .i64 o.pk.pa,.int .i64 o.s1,.int .i64 o.s2,.slice o.na o.nl o.nc]
abbrev opK (kind:Int) (o:OpD):Array Value:=(opKL kind o).toArray
structure OpOk (A:Nat) (W:World) (o:OpD):Prop where
 tx:o.tx.size<=maxLen
 en:o.pk.en.size<=140737488355328
 py:o.pk.py.size<=140737488355328
 cl:o.pk.cl.length<=17592186044416
 cv:IsInts A W (.slice o.ca o.pk.cl.length o.cc) o.pk.cl
theorem tellR_size (mk ex:Bool) (ty nu ti so pr pa:Int) (cl:List Int) (en py:ByteArray):(tellR mk ex ty nu ti so pr pa cl en py).1.size<=1500:=by
 unfold tellR
 split
 ·rename_i hok
  split
  ·exact Nat.zero_le _
  ·rename_i hl
   have h0:0<=pa:=by
    simp only[tellOk,Bool.and_eq_true,decide_eq_true_eq]at hok
    exact hok.2.1
   have h1:=tellB_length mk ex ty nu ti so pr pa cl en py h0
   have h2:(ByteArray.mk (tellB mk ex ty nu ti so pr pa cl en py).toArray).size=(tellB mk ex ty nu ti so pr pa cl en py).length:=by simp[ByteArray.size]
   show(ByteArray.mk (tellB mk ex ty nu ti so pr pa cl en py).toArray).size<=1500
   omega
 ·exact Nat.zero_le _
theorem text_nil {t:ByteArray}(h:t.toList=[]):t=⟨#[]⟩:=by
 rw[ByteArray.toList_eq]at h
 apply ByteArray.ext
 apply Array.toList_inj.1
 exact h
theorem packetM_len (M:Md) (t:ByteArray) (cv:Value) (h8:M.wns.length<=8):(packetM M t cv).2.1.length<=8:=by
 unfold packetM
 split
 ·exact Nat.zero_le _
 ·split
  ·exact Nat.zero_le _
  ·split
   ·exact Nat.zero_le _
   ·split
    ·exact Nat.zero_le _
    ·split
     ·exact Nat.zero_le _
     ·exact Nat.le_trans (textsTo_len _ _ _) h8
structure PrN (w W:World) (pb mb rb:Nat) (ρm ρr:Nat->Nat) (c:Cfg):Prop where
 c0:W.cell? ⟨pb,0,none⟩=some (ptr mb)
 c1:W.cell? ⟨pb,1,none⟩=some (ptr rb)
 md:MdAt W ρm mb (newM c) (.slice none 0 0) (.slice none 0 0) [] []
 rd:RdAt W ρr rb (rNew c) (.slice none 0 0) (.slice none 0 0)
 nm:∀b,ρm b≠0->w.heap.size<=b/\ρr b=0/\b≠pb
 nr:∀b,ρr b≠0->w.heap.size<=b/\b≠pb
 np:w.heap.size<=pb
end Rl
open Rl
theorem begun_any (c:Cfg) (w:World) :
  Calls Tryz.prog 7 #[.agg #[.int .i64 c.ring,.int .i64 c.window,.int .i64 c.delay,.int .i64 c.rate,.int .i64 c.burst,.int .i64 c.retry,.int .i64 c.tries]] w fun e w'=>Below w.heap.size w w'/\
   ((cfgOk c=false/\e = .returned (.tuple #[.pointer none,.bool true]))\/(cfgOk c=true/\∃pb mb rb ρm ρr,e = .returned (.tuple #[.pointer (some ⟨pb,0,none⟩),.bool true])/\PrN w w' pb mb rb ρm ρr c)):=by
 go_enter Tryz.func7,Tryz.ntmps7
 go_wp2_with fail
 refine(new_any c _).mono ?_
 rintro e w1 ⟨hb1,hc1⟩
 have hB1:Below w.heap.size w w1:=((Below.refl w.heap.size w).alloc (Nat.le_refl _) _).trans (hb1.mono (by simp))
 have hz1:w.heap.size<w1.heap.size:=by have:=hb1.size;simp at this;omega
 have q0:∀j:Nat,w1.cell? ⟨w.heap.size,j,none⟩=#[.int .i64 c.ring,.int .i64 c.window,.int .i64 c.delay,.int .i64 c.rate,.int .i64 c.burst,.int .i64 c.retry,.int .i64 c.tries][j]?:=fun j=>by
  rw[hb1.cell (p:=⟨w.heap.size,j,none⟩) (by simp)]
  exact cell_new _ _ _ j
 have k0:=q0 0
 have k1:=q0 1
 have k2:=q0 2
 have k3:=q0 3
 have k4:=q0 4
 have k5:=q0 5
 have k6:=q0 6
 simp at k0 k1 k2 k3 k4 k5 k6
 have HB1:=hyd hB1
 clear hB1 q0
 rcases hc1 with⟨hf,rfl⟩|⟨hf,mb,ρm,hmb,rfl,hmd,hρ⟩
 ·have Hf:Hid (cfgOk c=false):=hf
  clear hb1 hf
  go_wp2_with fail
  refine(refNew_any c _).mono ?_
  rintro e w2 ⟨hb2,⟨hf2,rfl⟩|⟨hf2,rb,hrb,rfl,hrd⟩⟩
  ·have HB2:Hid (Below w.heap.size w w2):=HB1.out.trans (hb2.mono (Nat.le_of_lt hz1))
   clear hb2 hf2 k0 k1 k2 k3 k4 k5 k6
   go_wp2_with fail
   refine(errNum_any _ _).mono ?_
   rintro e w3 ⟨rfl,hw3⟩
   rw[hw3]
   clear hw3
   go_wp2
   go_ret2
   exact⟨HB2.out,.inl ⟨Hf.out,rfl⟩⟩
  ·exact absurd (Hf.out.symm.trans hf2) (by decide)
 ·have Hf:Hid (cfgOk c=true):=hf
  have HM:=hyd hmd
  have HR:Hid (∀b,ρm b≠0->w.heap.size<=b):=fun b hb=>by have:=hρ b hb;simp at this;omega
  clear hb1 hf hmd hρ
  go_wp2_with fail
  refine(refNew_any c _).mono ?_
  rintro e w2 ⟨hb2,⟨hf2,rfl⟩|⟨hf2,rb,hrb,rfl,hrd⟩⟩
  ·exact absurd (Hf.out.symm.trans hf2) (by decide)
  ·have HB2:Hid (Below w.heap.size w w2):=HB1.out.trans (hb2.mono (Nat.le_of_lt hz1))
   have HM2:Hid (MdAt w2 ρm mb (newM c) (.slice none 0 0) (.slice none 0 0) [] []):=HM.out.below hb2
   have HR2:=hyd hrd
   have hz2:=hb2.size
   have HZ:Hid (∀b,w1.heap.size<=b->ρm b=0):=HM.out.hi
   clear hb2 hf2 hrd k0 k1 k2 k3 k4 k5 k6 HM
   go_wp2_with fail
   refine(errNum_any _ _).mono ?_
   rintro e w3 ⟨rfl,hw3⟩
   rw[hw3]
   clear hw3
   go_wp2
   go_ret2
   have hA:=((Below.refl w2.heap.size w2).alloc (Nat.le_refl _) (.cells #[.pointer (some ⟨mb,0,none⟩),.pointer (some ⟨rb,0,none⟩)] 57))
   refine⟨HB2.out.alloc HB2.out.size _,.inr ⟨Hf.out,_,mb,rb,ρm,newRoleM rb,rfl,cell_new _ _ _ 0,cell_new _ _ _ 1,HM2.out.below hA,HR2.out.below hA,fun b hb=>⟨HR.out b hb,?_,fun e=>?_⟩,fun b hb=>?_,HB2.out.size⟩⟩
   ·unfold newRoleM
    refine if_neg (fun e=>hb ?_)
    rw[e]
    exact HZ.out rb hrb
   ·exact hb (HM2.out.hi b (by omega))
   ·unfold newRoleM at hb
    split at hb
    ·rename_i e
     have h1:=HR2.out.lt
     rw[e]
     exact⟨by omega,by omega⟩
    ·exact absurd rfl hb
theorem movesT_any {w:World}{F:Nat->Nat->Nat}{K:Nat}{pb mb rb:Nat->Nat}{M:Nat->Md}{R:Nat->Rm}{g n q k:Nat}(o:OpD) (A:Nat) (h:Sta w F K pb mb rb M R g n) (hk:k<K) (hr:Rel q (M k) (R k)) (hq:q<=1999999) (hn:n<=43000000) (ho:OpOk A w o) (hA:A<=w.heap.size) :
  Calls Tryz.prog 21 #[.pointer (some ⟨pb k,0,none⟩),.pointer (some ⟨g,0,none⟩),.agg (opK 4 o)] w fun e w'=>e = .returned (.bool true)/\∃F' M1 R1,Sta w' F' K pb mb rb (upd M k M1) (upd R k R1) g (n+1)/\Rel (q+1) M1 R1/\SMv w F w' F':=by
 have H:=hyd h
 have Hr:=hyd hr
 obtain⟨y0,y1,y2⟩:=h.pc k hk
 have hgl:=h.glt
 obtain⟨PK,hPK⟩:∃PK,pb k=PK:=⟨_,rfl⟩
 have HPK:=hyd hPK
 rw[hPK]at y0 y1 y2 ⊢
 unfold ptr at y0 y1
 have hpl:PK<w.heap.size:=lt_of_cell y0
 have Hy:=hyd y2
 have Ho:=hyd ho
 clear h hr hPK ho y2
 unfold opK opKL
 by_cases htx:o.tx=⟨#[]⟩
 focus
  rw[htx]
  go_enter Tryz.func21,Tryz.ntmps21
  go_wp2_with fail
  have hbA:∀bk,Below w.heap.size w (w.alloc bk):=fun bk=>(Below.refl _ _).alloc (Nat.le_refl _) bk
  refine(refTell_any o.pk.mrk o.pk.ex o.pk.ty o.pk.nu o.pk.ti o.pk.so o.pk.pr o.pk.pa (.slice o.ca o.pk.cl.length o.cc) o.pk.cl o.pk.en o.pk.py _ A (by simp;omega) (Ho.out.cv.carry ((hbA _).mono hA)) Ho.out.cl Ho.out.en Ho.out.py).mono ?_
  rintro e w1 ⟨rfl,hb1⟩
  have hsz:=tellR_size o.pk.mrk o.pk.ex o.pk.ty o.pk.nu o.pk.ti o.pk.so o.pk.pr o.pk.pa o.pk.cl o.pk.en o.pk.py
  generalize tellR o.pk.mrk o.pk.ex o.pk.ty o.pk.nu o.pk.ti o.pk.so o.pk.pr o.pk.pa o.pk.cl o.pk.en o.pk.py=TR at *
  obtain⟨t,t2⟩:=TR
  have HB1:Hid (Below w.heap.size w w1):=(hbA _).trans (hb1.mono (by simp))
  have ht:t.size<=maxLen:=by unfold maxLen;simp only at hsz;omega
  clear hb1 hsz hbA
  have HS1:Hid (Sta w1 F K pb mb rb M R g n):=H.out.below HB1.out
  have z0:w1.cell? ⟨PK,0,none⟩=some (.pointer (some ⟨mb k,0,none⟩)):=(HB1.out.cell (p:=⟨PK,0,none⟩) hpl).trans y0
  clear y0 y1
  go_wp2_with fail
  have hz1:=HB1.out.size
  refine(st_packet HS1.out hk Hr.out (by omega) t ht).mono ?_
  rintro e w2 ⟨cv,tv,F2,rfl,s1,s2,s3,s4⟩
  have H2:=hyd s1
  have V2:Hid (SMv w F w2 F2):=SMv.trans (SMv.below HB1.out) s2
  obtain⟨a1,c1,rfl⟩:=rowA_shape s3
  have O2:=hyd s3
  have Z2:=hyd s4
  have u1:w2.cell? ⟨PK,1,none⟩=some (.pointer (some ⟨rb k,0,none⟩)):=by have h1:=(s1.pc k hk).2.1;rw[HPK.out]at h1;exact h1
  have hl8:=packetM_len (M k) t cv Hr.out.w8
  have HPA:Hid (∀R' out er,RPk (R k) t (M k).c.window.toNat R' out er->(packetM (M k) t cv).2.1=out/\(packetM (M k) t cv).2.2=er/\Rel (q+1) (packetM (M k) t cv).1 R'):=fun R' out er hp=>Hr.out.packet t cv R' out er hp
  clear s1 s2 s3 s4 z0
 rotate_left
 focus
  have hte1:¬o.tx.toList=[]:=fun e=>htx (text_nil e)
  have hte2:(o.tx.toList == [])=false:=by rw[beq_eq_false_iff_ne];exact hte1
  have hte3:o.tx.toList.isEmpty=false:=by rw[List.isEmpty_eq_false_iff];exact hte1
  obtain⟨t,htt⟩:∃t,o.tx=t:=⟨_,rfl⟩
  have ht:t.size<=maxLen:=by rw[<-htt];exact Ho.out.tx
  rw[htt]at hte1 hte2 hte3 ⊢
  have HB0:Hid (∀bk,Below w.heap.size w (w.alloc bk)):=fun bk=>(Below.refl _ _).alloc (Nat.le_refl _) bk
  have z0':∀bk,(w.alloc bk).cell? ⟨PK,0,none⟩=some (.pointer (some ⟨mb k,0,none⟩)):=fun bk=>((HB0.out bk).cell (p:=⟨PK,0,none⟩) hpl).trans y0
  go_enter Tryz.func21,Tryz.ntmps21
  go_wp2_with fail
  have HB1':=HB0.out (.cells #[.int .i64 4,.int .i64 o.n,.string t,.int .i64 o.pl.source,.int .i64 o.pl.second,.int .i64 o.pl.ty,.int .i64 o.pl.secondTy,.int .i64 o.pl.first,.int .i64 o.pl.secondFirst,.int .i64 o.cf.ring,.int .i64 o.cf.window,.int .i64 o.cf.delay,.int .i64 o.cf.rate,.int .i64 o.cf.burst,.int .i64 o.cf.retry,.int .i64 o.cf.tries,.bool o.pk.mrk,.int .i64 o.pk.ty,.int .i64 o.pk.nu,.int .i64 o.pk.ti,.int .i64 o.pk.so,.slice o.ca o.pk.cl.length o.cc,.bool o.pk.ex,.int .i64 o.pk.pr,.string o.pk.en,.string o.pk.py,.int .i64 o.pk.pa,.int .i64 o.s1,.int .i64 o.s2,.slice o.na o.nl o.nc] 45)
  generalize w.alloc (.cells #[.int .i64 4,.int .i64 o.n,.string t,.int .i64 o.pl.source,.int .i64 o.pl.second,.int .i64 o.pl.ty,.int .i64 o.pl.secondTy,.int .i64 o.pl.first,.int .i64 o.pl.secondFirst,.int .i64 o.cf.ring,.int .i64 o.cf.window,.int .i64 o.cf.delay,.int .i64 o.cf.rate,.int .i64 o.cf.burst,.int .i64 o.cf.retry,.int .i64 o.cf.tries,.bool o.pk.mrk,.int .i64 o.pk.ty,.int .i64 o.pk.nu,.int .i64 o.pk.ti,.int .i64 o.pk.so,.slice o.ca o.pk.cl.length o.cc,.bool o.pk.ex,.int .i64 o.pk.pr,.string o.pk.en,.string o.pk.py,.int .i64 o.pk.pa,.int .i64 o.s1,.int .i64 o.s2,.slice o.na o.nl o.nc] 45)=w1 at *
  have HB1:Hid (Below w.heap.size w w1):=HB1'
  clear HB1' z0' htt htx hte1 hte2 hte3
  have HS1:Hid (Sta w1 F K pb mb rb M R g n):=H.out.below HB1.out
  clear y0 y1
  have hz1:=HB1.out.size
  refine(st_packet HS1.out hk Hr.out (by omega) t ht).mono ?_
  rintro e w2 ⟨cv,tv,F2,rfl,s1,s2,s3,s4⟩
  have H2:=hyd s1
  have V2:Hid (SMv w F w2 F2):=SMv.trans (SMv.below HB1.out) s2
  obtain⟨a1,c1,rfl⟩:=rowA_shape s3
  have O2:=hyd s3
  have Z2:=hyd s4
  have u1:w2.cell? ⟨PK,1,none⟩=some (.pointer (some ⟨rb k,0,none⟩)):=by have h1:=(s1.pc k hk).2.1;rw[HPK.out]at h1;exact h1
  have hl8:=packetM_len (M k) t cv Hr.out.w8
  have HPA:Hid (∀R' out er,RPk (R k) t (M k).c.window.toNat R' out er->(packetM (M k) t cv).2.1=out/\(packetM (M k) t cv).2.2=er/\Rel (q+1) (packetM (M k) t cv).1 R'):=fun R' out er hp=>Hr.out.packet t cv R' out er hp
  clear s1 s2 s3 s4
 all_goals
  generalize packetM (M k) t cv=PM at *
  obtain⟨M1,L,er⟩:=PM
  simp only at H2 O2 Z2 hl8 HPA ⊢
  go_wp2_with fail
  refine(st_refPacket H2.out hk Hr.out (by omega) t ht).mono ?_
  rintro e w3 ⟨tv,R1,out,er',F3,rfl,hp,s1,s2,s3⟩
  obtain⟨rfl,rfl,hrel⟩:=HPA.out _ _ _ hp
  have HREL:=hyd hrel
  have H3:=hyd s1
  have V3:Hid (SMv w F w3 F3):=V2.out.trans s2
  obtain⟨a2,c2,rfl⟩:=rowA_shape s3
  have O3:=hyd s3
  have O2':Hid (w3.ownsRow (g+1) 9 1 (.slice a1 L.length c1) L.length (L.map Value.string)):=row_mono (rowA_chg s2.2 O2.out (fun b hb ⟨i,e⟩=>e (Z2.out b hb i))) (by omega)
  have HF:Hid (∀b,(Value.slice a1 L.length c1).ownBlock=some b->(∀j,F3 j b=0)/\∀k,k<K->b≠pb k):=fun b hb=>⟨s2.1 b (O2.out.lt b hb).2 (Z2.out b hb),(H.out.free (Nat.le_trans hz1 (O2.out.lt b hb).1)).2⟩
  have HX:Hid (∀b,(Value.slice a1 L.length c1).ownBlock=some b->w.heap.size<=b):=fun b hb=>Nat.le_trans hz1 (O2.out.lt b hb).1
  clear s1 s2 s3 hp hrel HPA O2 Z2 u1
  go_wp2_with fail
  refine(texts_any H3.out (by omega) _ _ L _ _ O2'.out O3.out (by omega) HF.out).mono ?_
  rintro e w4 ⟨rfl,F4,s1,s2⟩
  have HE:Hid (∃F' M1 R1,Sta w4 F' K pb mb rb (upd M k M1) (upd R k R1) g (n+1)/\Rel (q+1) M1 R1/\SMv w F w4 F'):=⟨F4,M1,R1,s1,HREL.out,V3.out.took s2 HX.out⟩
  clear s1 s2 O2' O3 HF
  go_wp2
  go_ret
  exact⟨rfl,HE.out⟩
end Go.Proofs.YtdjhhnolcafkiaaGreat
namespace Go.Proofs.YtdjhhnolcafkiaaGreat
open Go.RowKit Pk
namespace Rl
def StS (PK j B:Nat) (u:Value) (n:Int) (p:Plan) (W:World):Prop:=W.cell? ⟨PK,j,none⟩=some u/\W.cell? ⟨B,1,none⟩=some (.int .i64 n)/\W.cell? ⟨B,3,none⟩=some (.int .i64 p.source)/\W.cell? ⟨B,4,none⟩=some (.int .i64 p.second)/\W.cell? ⟨B,5,none⟩=some (.int .i64 p.ty)/\W.cell? ⟨B,6,none⟩=some (.int .i64 p.secondTy)/\W.cell? ⟨B,7,none⟩=some (.int .i64 p.first)/\W.cell? ⟨B,8,none⟩=some (.int .i64 p.secondFirst)
def LkS (PK mb rb:Nat) (s:Stt) (W:World):Prop:=W.cell? ⟨PK,0,none⟩=some (.pointer (some ⟨mb,0,none⟩))/\W.cell? ⟨PK,1,none⟩=some (.pointer (some ⟨rb,0,none⟩))/\W.cell? ⟨rb,7,none⟩=some (.int .i64 s.now)/\W.cell? ⟨rb,8,none⟩=some (.int .i64 s.tokens)/\W.cell? ⟨rb,9,none⟩=some (.int .i64 s.passed)/\W.cell? ⟨rb,10,none⟩=some (.int .i64 s.late)/\W.cell? ⟨rb,11,none⟩=some (.int .i64 s.doubled)/\W.cell? ⟨rb,12,none⟩=some (.int .i64 s.wrong)/\W.cell? ⟨rb,13,none⟩=some (.int .i64 s.unknown)/\W.cell? ⟨rb,14,none⟩=some (.int .i64 s.again)/\W.cell? ⟨rb,15,none⟩=some (.int .i64 s.refused)/\W.cell? ⟨rb,16,none⟩=some (.int .i64 s.asked)/\W.cell? ⟨rb,17,none⟩=some (.int .i64 s.givenUp)
section
variable {w : World} {F : Nat -> Nat -> Nat} {K : Nat} {pb mb rb : Nat -> Nat} {M : Nat -> Md} {R : Nat -> Rm} {g n k : Nat}
theorem Sta.lk (h:Sta w F K pb mb rb M R g n) (hk:k<K):LkS (pb k) (mb k) (rb k) (R k).s w:=by
 obtain⟨a1,a2,-⟩:=h.pc k hk
 obtain⟨sv,wv,a⟩:=h.rd k hk
 exact⟨a1,a2,a.k 7 _ rfl,a.k 8 _ rfl,a.k 9 _ rfl,a.k 10 _ rfl,a.k 11 _ rfl,a.k 12 _ rfl,a.k 13 _ rfl,a.k 14 _ rfl,a.k 15 _ rfl,a.k 16 _ rfl,a.k 17 _ rfl⟩
end
end Rl
open Rl
theorem step1_any {w:World}{F:Nat->Nat->Nat}{K:Nat}{pb mb rb:Nat->Nat}{M:Nat->Md}{R:Nat->Rm}{g n q k:Nat}(o:OpD) (A:Nat) (h:Sta w F K pb mb rb M R g n) (hk:k<K) (hr:Rel q (M k) (R k)) (_hq:q<=1999999) (_hn:n<=42000000) (ho:OpOk A w o) (_hA:A<=w.heap.size) :
  Calls Tryz.prog 8 #[.pointer (some ⟨pb k,0,none⟩),.pointer (some ⟨g,0,none⟩),.agg (opK 1 o)] w fun e w'=>e = .returned (.bool true)/\∃F' M1 R1,Sta w' F' K pb mb rb (upd M k M1) (upd R k R1) g (n+2)/\Rel (q+1) M1 R1/\SMv w F w' F':=by
 have H:=hyd h
 have Hr:=hyd hr
 obtain⟨y0,y1,y2⟩:=h.pc k hk
 obtain⟨PK,hPK⟩:∃PK,pb k=PK:=⟨_,rfl⟩
 have HPK:=hyd hPK
 rw[hPK]at y0 y1 y2 ⊢
 unfold ptr at y0 y1
 have hpl:PK<w.heap.size:=lt_of_cell y0
 have Ho:=hyd ho
 have HB0:Hid (∀bk,Below w.heap.size w (w.alloc bk)):=fun bk=>(Below.refl _ _).alloc (Nat.le_refl _) bk
 have hgl:=h.glt
 clear h hr hPK ho y2
 unfold opK opKL
 go_enter Tryz.func8,Tryz.ntmps8
 go_wp2
 have HB1':=HB0.out (.cells (opK 1 o) 45)
 have HC1:∀j:Nat,(w.alloc (.cells (opK 1 o) 45)).cell? ⟨w.heap.size,j,none⟩=(opK 1 o)[j]?:=fun j=>cell_new _ _ _ j
 have hz1:(w.alloc (.cells (opK 1 o) 45)).heap.size=w.heap.size+1:=by simp
 generalize w.alloc (.cells (opK 1 o) 45)=w1 at *
 have HB1:Hid (Below w.heap.size w w1):=HB1'
 have H1:Hid (Sta w1 F K pb mb rb M R g n):=H.out.below HB1'
 have HZ:Hid (∀i,F i w.heap.size=0):=fun i=>H.out.hi i _ (Nat.le_refl _)
 have z0:w1.cell? ⟨PK,0,none⟩=some (.pointer (some ⟨mb k,0,none⟩)):=(HB1.out.cell (p:=⟨PK,0,none⟩) hpl).trans y0
 have b1:w1.cell? ⟨w.heap.size,1,none⟩=some (.int .i64 o.n):=HC1 1
 obtain⟨hp1,hp2⟩:=Hr.out.addS o.n
 have HREL:=hyd hp2
 have Hp1:=hyd hp1
 clear HB1' HC1 y0 y1 hp1 hp2
 refine wp_region_noPanic ?_
 refine wp_region_held_drew (S:=Two ⟨PK,0,none⟩ ⟨w.heap.size,1,none⟩ (.pointer (some ⟨mb k,0,none⟩)) (.int .i64 o.n)) (by kernel_rfl) ⟨z0,b1⟩ (fun zH=>?_)
 refine tka 0 ?_
 refine tka 1 ?_
 refine tka 2 ?_
 refine tka 3 ?_
 refine tka 4 ?_
 refine tka 5 ?_
 refine rd1 6 fun K' hK=>?_
 go_simp
 refine(st_addS (by first|exact H1.out|exact H1.out.below (Below.refl _ _).drew) hk Hr.out o.n).mono ?_
 rintro e w2 ⟨rfl,F2,s1,s2⟩
 rw[Hp1.out]
 have H2:=hyd s1
 have V2:Hid (SMv w1 F w2 F2):=by first|exact s2|exact(SMv.below (Below.refl _ _).drew).trans s2
 have b2:w2.cell? ⟨w.heap.size,1,none⟩=some (.int .i64 o.n):=V2.out.cell b1 HZ.out
 have p2:w2.cell? ⟨PK,0,none⟩=some (.pointer (some ⟨mb k,0,none⟩)):=by have h1:=(s1.pc k hk).1;rw[HPK.out]at h1;exact h1
 have p3:w2.cell? ⟨PK,1,none⟩=some (.pointer (some ⟨rb k,0,none⟩)):=by have h1:=(s1.pc k hk).2.1;rw[HPK.out]at h1;exact h1
 have HZ2:Hid (∀i,F2 i w.heap.size=0):=V2.out.1 _ (by omega) HZ.out
 clear s1 s2
 go_simp
 refine hK.out _ _ ⟨p2,b2⟩ (fun zH=>?_)
 clear hK K' z0 b1
 refine tka 7 ?_
 refine doN ?_
 generalize (addSM (M k) o.n).1=M1 at *
 clear zH p2
 go_wp2
 refine wp_region_noPanic ?_
 refine wp_region_held_drew (S:=Two ⟨PK,1,none⟩ ⟨w.heap.size,1,none⟩ (.pointer (some ⟨rb k,0,none⟩)) (.int .i64 o.n)) (by kernel_rfl) ⟨p3,b2⟩ (fun zH=>?_)
 refine tka 0 ?_
 refine tka 2 ?_
 refine tka 3 ?_
 refine tka 4 ?_
 refine tka 5 ?_
 refine tka 6 ?_
 refine tka 7 ?_
 refine rd1 1 fun K' hK=>?_
 go_simp
 refine(errNum_any _ _).mono ?_
 rintro e w3 ⟨rfl,hw3⟩
 rw[hw3]
 clear hw3
 go_simp
 refine hK.out _ _ zH (fun zH=>?_)
 clear hK K'
 refine rd1 8 fun K' hK=>?_
 go_simp
 refine(st_refAddS (by first|exact H2.out|exact H2.out.below (Below.refl _ _).drew) hk o.n).mono ?_
 rintro e w4 ⟨rfl,F4,s1,s2⟩
 have V4:Hid (SMv w2 F2 w4 F4):=by first|exact s2|exact(SMv.below (Below.refl _ _).drew).trans s2
 have b4:w4.cell? ⟨w.heap.size,1,none⟩=some (.int .i64 o.n):=V4.out.cell b2 HZ2.out
 have p4:w4.cell? ⟨PK,1,none⟩=some (.pointer (some ⟨rb k,0,none⟩)):=by have h1:=(s1.pc k hk).2.1;rw[HPK.out]at h1;exact h1
 have HE:Hid (∃F' M1 R1,Sta w4 F' K pb mb rb (upd M k M1) (upd R k R1) g (n+2)/\Rel (q+1) M1 R1/\SMv w F w4 F'):=⟨F4,_,_,s1.mono (by omega),HREL.out.mono (by omega),((SMv.below HB1.out).trans V2.out).trans V4.out⟩
 clear s1 s2
 go_simp
 refine hK.out _ _ ⟨p4,b4⟩ (fun zH=>?_)
 clear hK K'
 refine tka 9 ?_
 refine tka 10 ?_
 refine doN ?_
 clear zH p3 b2 p4 b4
 go_wp2
 go_ret
 exact⟨rfl,HE.out⟩
end Go.Proofs.YtdjhhnolcafkiaaGreat
namespace Go.Proofs.YtdjhhnolcafkiaaGreat
open Go.RowKit
namespace Pk
section
variable {ops : Array Oper} {rest : List Oper} {o : Oper} {a : Act} {w : World} {Q : Exit -> Act -> World -> Prop}
theorem wpList_load_list (hgd:o.guard=none) (t:TypeId) (p:Operand) (ho:o.op = .load t p) (ad:Addr) (hp:a.eval p = .pointer (some ad)) (cs:List Value) (ha:(isAgg t).run Tryz.prog w = .ok true w) (hs:(sizeOf t).run Tryz.prog w = .ok cs.length w) (hc:∀j v,cs[j]? = some v->w.cell? (ad.add j)=some v)
  (h:wpList Tryz.prog ops Q rest (a.put o.dst (.agg cs.toArray)) w):wpList Tryz.prog ops Q (o::rest) a w:=by
 refine wpList_plain hgd fun K hK=>?_
 have hr:(Instr.loadAt t (.pointer (some ad))).run Tryz.prog w = .ok (.agg cs.toArray) w:=by
  simp only[Instr.loadAt,Instr.sureAddr,loadVar,Sem.run_bind,Sem.run_pure,Result.andThen,ha,hs,if_true,run_loadCells_list w ad cs hc]
 unfold Oper.wp execOp
 simp only[ho,Sem.run_bind,Sem.run_pure,Result.andThen_ok,hp,hr]
 exact hK _ _ h
theorem wpList_store_new (hgd:o.guard=none) (t:TypeId) (p x:Operand) (ho:o.op = .store t p x) (w0:World) (c c':Array Value) (hw:w=w0.alloc (.cells c t)) (hp:a.eval p = .pointer (some ⟨w0.heap.size,0,none⟩)) (hx:a.eval x = .agg c') (hi:(Tryz.prog.info? t).map (·.size)=some c'.size) (hcs:c.size=c'.size) (h1:c'.all (·.oneCell')=true)
  (h:wpList Tryz.prog ops Q rest (a.put o.dst undef) (w0.alloc (.cells c' t))):wpList Tryz.prog ops Q (o::rest) a w:=by
 subst hw
 refine wpList_plain hgd fun K hK=>?_
 have hr:=run_storeAt_new (P:=Tryz.prog) w0 t c c' hi hcs h1
 unfold Oper.wp execOp
 simp only[ho,Sem.run_bind,Sem.run_pure,Result.andThen_ok,hp,hx,hr]
 exact hK _ _ h
end
end Pk
end Go.Proofs.YtdjhhnolcafkiaaGreat
namespace Go.Proofs.YtdjhhnolcafkiaaGreat
open Go.RowKit Pk Rl
theorem step3_any {w:World}{F:Nat->Nat->Nat}{K:Nat}{pb mb rb:Nat->Nat}{M:Nat->Md}{R:Nat->Rm}{g n q k:Nat}(o:OpD) (A:Nat) (h:Sta w F K pb mb rb M R g n) (hk:k<K) (hr:Rel q (M k) (R k)) (_hq:q<=1999999) (_hn:n<=42000000) (ho:OpOk A w o) (_hA:A<=w.heap.size) :
  Calls Tryz.prog 8 #[.pointer (some ⟨pb k,0,none⟩),.pointer (some ⟨g,0,none⟩),.agg (opK 3 o)] w fun e w'=>e = .returned (.bool true)/\∃F' M1 R1,Sta w' F' K pb mb rb (upd M k M1) (upd R k R1) g (n+2)/\Rel (q+1) M1 R1/\SMv w F w' F':=by
 have H:=hyd h
 have Hr:=hyd hr
 obtain⟨y0,y1,y2⟩:=h.pc k hk
 obtain⟨PK,hPK⟩:∃PK,pb k=PK:=⟨_,rfl⟩
 have HPK:=hyd hPK
 rw[hPK]at y0 y1 y2 ⊢
 unfold ptr at y0 y1
 have hpl:PK<w.heap.size:=lt_of_cell y0
 have Ho:=hyd ho
 have HB0:Hid (∀bk,Below w.heap.size w (w.alloc bk)):=fun bk=>(Below.refl _ _).alloc (Nat.le_refl _) bk
 have hgl:=h.glt
 clear h hr hPK ho y2
 unfold opK opKL
 go_enter Tryz.func8,Tryz.ntmps8
 go_wp2
 have HB1':=HB0.out (.cells (opK 3 o) 45)
 have HC1:∀j:Nat,(w.alloc (.cells (opK 3 o) 45)).cell? ⟨w.heap.size,j,none⟩=(opK 3 o)[j]?:=fun j=>cell_new _ _ _ j
 have hz1:(w.alloc (.cells (opK 3 o) 45)).heap.size=w.heap.size+1:=by simp
 generalize w.alloc (.cells (opK 3 o) 45)=w1 at *
 have HB1:Hid (Below w.heap.size w w1):=HB1'
 have H1:Hid (Sta w1 F K pb mb rb M R g n):=H.out.below HB1'
 have HZ:Hid (∀i,F i w.heap.size=0):=fun i=>H.out.hi i _ (Nat.le_refl _)
 have z0:w1.cell? ⟨PK,0,none⟩=some (.pointer (some ⟨mb k,0,none⟩)):=(HB1.out.cell (p:=⟨PK,0,none⟩) hpl).trans y0
 have b1:w1.cell? ⟨w.heap.size,1,none⟩=some (.int .i64 o.n):=HC1 1
 obtain⟨hp1,hp2⟩:=Hr.out.drop o.n
 have HREL:=hyd hp2
 have Hp1:=hyd hp1
 clear HB1' HC1 y0 y1 hp1 hp2
 refine wp_region_noPanic ?_
 refine wp_region_held_drew (S:=Two ⟨PK,0,none⟩ ⟨w.heap.size,1,none⟩ (.pointer (some ⟨mb k,0,none⟩)) (.int .i64 o.n)) (by kernel_rfl) ⟨z0,b1⟩ (fun zH=>?_)
 refine tka 0 ?_
 refine tka 1 ?_
 refine tka 2 ?_
 refine tka 3 ?_
 refine tka 4 ?_
 refine tka 5 ?_
 refine rd1 6 fun K' hK=>?_
 go_simp
 refine(st_drop (by first|exact H1.out|exact H1.out.below (Below.refl _ _).drew) hk Hr.out o.n).mono ?_
 rintro e w2 ⟨rfl,F2,s1,s2⟩
 rw[Hp1.out]
 have H2:=hyd s1
 have V2:Hid (SMv w1 F w2 F2):=by first|exact s2|exact(SMv.below (Below.refl _ _).drew).trans s2
 have b2:w2.cell? ⟨w.heap.size,1,none⟩=some (.int .i64 o.n):=V2.out.cell b1 HZ.out
 have p2:w2.cell? ⟨PK,0,none⟩=some (.pointer (some ⟨mb k,0,none⟩)):=by have h1:=(s1.pc k hk).1;rw[HPK.out]at h1;exact h1
 have p3:w2.cell? ⟨PK,1,none⟩=some (.pointer (some ⟨rb k,0,none⟩)):=by have h1:=(s1.pc k hk).2.1;rw[HPK.out]at h1;exact h1
 have HZ2:Hid (∀i,F2 i w.heap.size=0):=V2.out.1 _ (by omega) HZ.out
 clear s1 s2
 go_simp
 refine hK.out _ _ ⟨p2,b2⟩ (fun zH=>?_)
 clear hK K' z0 b1
 refine tka 7 ?_
 refine doN ?_
 generalize (dropM (M k) o.n).1=M1 at *
 clear zH p2
 go_wp2
 refine wp_region_noPanic ?_
 refine wp_region_held_drew (S:=Two ⟨PK,1,none⟩ ⟨w.heap.size,1,none⟩ (.pointer (some ⟨rb k,0,none⟩)) (.int .i64 o.n)) (by kernel_rfl) ⟨p3,b2⟩ (fun zH=>?_)
 refine tka 0 ?_
 refine tka 2 ?_
 refine tka 3 ?_
 refine tka 4 ?_
 refine tka 5 ?_
 refine tka 6 ?_
 refine tka 7 ?_
 refine rd1 1 fun K' hK=>?_
 go_simp
 refine(errNum_any _ _).mono ?_
 rintro e w3 ⟨rfl,hw3⟩
 rw[hw3]
 clear hw3
 go_simp
 refine hK.out _ _ zH (fun zH=>?_)
 clear hK K'
 refine rd1 8 fun K' hK=>?_
 go_simp
 refine(st_refDrop (by first|exact H2.out|exact H2.out.below (Below.refl _ _).drew) hk o.n).mono ?_
 rintro e w4 ⟨rfl,F4,s1,s2⟩
 have V4:Hid (SMv w2 F2 w4 F4):=by first|exact s2|exact(SMv.below (Below.refl _ _).drew).trans s2
 have b4:w4.cell? ⟨w.heap.size,1,none⟩=some (.int .i64 o.n):=V4.out.cell b2 HZ2.out
 have p4:w4.cell? ⟨PK,1,none⟩=some (.pointer (some ⟨rb k,0,none⟩)):=by have h1:=(s1.pc k hk).2.1;rw[HPK.out]at h1;exact h1
 have HE:Hid (∃F' M1 R1,Sta w4 F' K pb mb rb (upd M k M1) (upd R k R1) g (n+2)/\Rel (q+1) M1 R1/\SMv w F w4 F'):=⟨F4,_,_,s1.mono (by omega),HREL.out.mono (by omega),((SMv.below HB1.out).trans V2.out).trans V4.out⟩
 clear s1 s2
 go_simp
 refine hK.out _ _ ⟨p4,b4⟩ (fun zH=>?_)
 clear hK K'
 refine tka 9 ?_
 refine tka 10 ?_
 refine doN ?_
 clear zH p3 b2 p4 b4
 go_wp2
 go_ret
 exact⟨rfl,HE.out⟩
theorem step2_any {w:World}{F:Nat->Nat->Nat}{K:Nat}{pb mb rb:Nat->Nat}{M:Nat->Md}{R:Nat->Rm}{g n q k:Nat}(o:OpD) (A:Nat) (h:Sta w F K pb mb rb M R g n) (hk:k<K) (hr:Rel q (M k) (R k)) (hq:q<=1999999) (_hn:n<=42000000) (ho:OpOk A w o) (_hA:A<=w.heap.size) :
  Calls Tryz.prog 8 #[.pointer (some ⟨pb k,0,none⟩),.pointer (some ⟨g,0,none⟩),.agg (opK 2 o)] w fun e w'=>e = .returned (.bool true)/\∃F' M1 R1,Sta w' F' K pb mb rb (upd M k M1) (upd R k R1) g (n+2)/\Rel (q+1) M1 R1/\SMv w F w' F':=by
 have H:=hyd h
 have Hr:=hyd hr
 obtain⟨y0,y1,y2⟩:=h.pc k hk
 obtain⟨PK,hPK⟩:∃PK,pb k=PK:=⟨_,rfl⟩
 have HPK:=hyd hPK
 rw[hPK]at y0 y1 y2 ⊢
 unfold ptr at y0 y1
 have hpl:PK<w.heap.size:=lt_of_cell y0
 have Ho:=hyd ho
 have HB0:Hid (∀bk,Below w.heap.size w (w.alloc bk)):=fun bk=>(Below.refl _ _).alloc (Nat.le_refl _) bk
 have hgl:=h.glt
 clear h hr hPK ho y2
 unfold opK opKL
 go_enter Tryz.func8,Tryz.ntmps8
 go_wp2
 have HB1':=HB0.out (.cells (opK 2 o) 45)
 have HC1:∀j:Nat,(w.alloc (.cells (opK 2 o) 45)).cell? ⟨w.heap.size,j,none⟩=(opK 2 o)[j]?:=fun j=>cell_new _ _ _ j
 have hz1:(w.alloc (.cells (opK 2 o) 45)).heap.size=w.heap.size+1:=by simp
 generalize w.alloc (.cells (opK 2 o) 45)=w1 at *
 have HB1:Hid (Below w.heap.size w w1):=HB1'
 have H1:Hid (Sta w1 F K pb mb rb M R g n):=H.out.below HB1'
 have HZ:Hid (∀i,F i w.heap.size=0):=fun i=>H.out.hi i _ (Nat.le_refl _)
 have z0:w1.cell? ⟨PK,0,none⟩=some (.pointer (some ⟨mb k,0,none⟩)):=(HB1.out.cell (p:=⟨PK,0,none⟩) hpl).trans y0
 have HC:Hid (∀(j:Nat) (u:Value),(opK 2 o)[j]? = some u->w1.cell? ⟨w.heap.size,j,none⟩=some u):=fun j u hu=>(HC1 j).trans hu
 have hS1:StS PK 0 w.heap.size (.pointer (some ⟨mb k,0,none⟩)) o.n o.pl w1:=⟨z0,HC.out 1 _ rfl,HC.out 3 _ rfl,HC.out 4 _ rfl,HC.out 5 _ rfl,HC.out 6 _ rfl,HC.out 7 _ rfl,HC.out 8 _ rfl⟩
 obtain⟨hp1,hp2⟩:=Hr.out.addW o.n o.pl
 have HREL:=hyd hp2
 have Hp1:=hyd hp1
 clear HB1' HC1 y0 y1 hp1 hp2 z0
 refine wp_region_noPanic ?_
 refine wp_region_held_drew (S:=StS PK 0 w.heap.size (.pointer (some ⟨mb k,0,none⟩)) o.n o.pl) (by kernel_rfl) hS1 (fun zH=>?_)
 refine tka 0 ?_
 refine tka 1 ?_
 refine tka 2 ?_
 refine tka 3 ?_
 refine tka 4 ?_
 refine tka 5 ?_
 refine tka 6 ?_
 refine tka 7 ?_
 refine rd1 8 fun K' hK=>?_
 go_simp
 refine(st_addW (by first|exact H1.out|exact H1.out.below (Below.refl _ _).drew) hk Hr.out (by omega) o.n o.pl).mono ?_
 rintro e w2 ⟨rfl,F2,s1,s2⟩
 rw[Hp1.out]
 have H2:=hyd s1
 have V2:Hid (SMv w1 F w2 F2):=by first|exact s2|exact(SMv.below (Below.refl _ _).drew).trans s2
 have b2:∀(j:Nat) (u:Value),(opK 2 o)[j]? = some u->w2.cell? ⟨w.heap.size,j,none⟩=some u:=fun j u hu=>V2.out.cell (HC.out j u hu) HZ.out
 have HB2:=hyd b2
 have p2:w2.cell? ⟨PK,0,none⟩=some (.pointer (some ⟨mb k,0,none⟩)):=by have h1:=(s1.pc k hk).1;rw[HPK.out]at h1;exact h1
 have p3:w2.cell? ⟨PK,1,none⟩=some (.pointer (some ⟨rb k,0,none⟩)):=by have h1:=(s1.pc k hk).2.1;rw[HPK.out]at h1;exact h1
 have HZ2:Hid (∀i,F2 i w.heap.size=0):=V2.out.1 _ (by omega) HZ.out
 have hS2:StS PK 0 w.heap.size (.pointer (some ⟨mb k,0,none⟩)) o.n o.pl w2:=⟨p2,b2 1 _ rfl,b2 3 _ rfl,b2 4 _ rfl,b2 5 _ rfl,b2 6 _ rfl,b2 7 _ rfl,b2 8 _ rfl⟩
 clear s1 s2 b2 p2
 go_simp
 refine hK.out _ _ hS2 (fun zH=>?_)
 clear hK K' hS1 hS2
 refine tka 9 ?_
 refine tka 10 ?_
 refine tka 11 ?_
 refine tka 12 ?_
 refine tka 13 ?_
 refine doN ?_
 generalize (addWM (M k) o.n o.pl).1=M1 at *
 clear zH
 have hS3:StS PK 1 w.heap.size (.pointer (some ⟨rb k,0,none⟩)) o.n o.pl w2:=⟨p3,HB2.out 1 _ rfl,HB2.out 3 _ rfl,HB2.out 4 _ rfl,HB2.out 5 _ rfl,HB2.out 6 _ rfl,HB2.out 7 _ rfl,HB2.out 8 _ rfl⟩
 clear p3
 go_wp2
 refine wp_region_noPanic ?_
 refine wp_region_held_drew (S:=StS PK 1 w.heap.size (.pointer (some ⟨rb k,0,none⟩)) o.n o.pl) (by kernel_rfl) hS3 (fun zH=>?_)
 refine tka 0 ?_
 refine tka 1 ?_
 refine tka 2 ?_
 refine tka 3 ?_
 refine tka 4 ?_
 refine tka 5 ?_
 refine tka 6 ?_
 refine tka 7 ?_
 refine rd1 8 fun K' hK=>?_
 go_simp
 refine(st_refAddW (by first|exact H2.out|exact H2.out.below (Below.refl _ _).drew) hk Hr.out (by omega) o.n o.pl).mono ?_
 rintro e w4 ⟨rfl,F4,s1,s2⟩
 have V4:Hid (SMv w2 F2 w4 F4):=by first|exact s2|exact(SMv.below (Below.refl _ _).drew).trans s2
 have b2:∀(j:Nat) (u:Value),(opK 2 o)[j]? = some u->w4.cell? ⟨w.heap.size,j,none⟩=some u:=fun j u hu=>V4.out.cell (HB2.out j u hu) HZ2.out
 have p2:w4.cell? ⟨PK,1,none⟩=some (.pointer (some ⟨rb k,0,none⟩)):=by have h1:=(s1.pc k hk).2.1;rw[HPK.out]at h1;exact h1
 have hS4:StS PK 1 w.heap.size (.pointer (some ⟨rb k,0,none⟩)) o.n o.pl w4:=⟨p2,b2 1 _ rfl,b2 3 _ rfl,b2 4 _ rfl,b2 5 _ rfl,b2 6 _ rfl,b2 7 _ rfl,b2 8 _ rfl⟩
 have HE:Hid (∃F' M1 R1,Sta w4 F' K pb mb rb (upd M k M1) (upd R k R1) g (n+2)/\Rel (q+1) M1 R1/\SMv w F w4 F'):=⟨F4,_,_,s1.mono (by omega),HREL.out,((SMv.below HB1.out).trans V2.out).trans V4.out⟩
 clear s1 s2 b2 p2
 go_simp
 refine hK.out _ _ hS4 (fun zH=>?_)
 clear hK K'
 refine tka 9 ?_
 refine tka 10 ?_
 refine tka 11 ?_
 refine tka 12 ?_
 refine tka 13 ?_
 refine doN ?_
 clear zH hS3 hS4
 go_wp2_with fail
 refine(errNum_any _ _).mono ?_
 rintro e w5 ⟨rfl,hw5⟩
 rw[hw5]
 clear hw5
 go_wp2
 go_ret
 exact⟨rfl,HE.out⟩
theorem step5_any {w:World}{F:Nat->Nat->Nat}{K:Nat}{pb mb rb:Nat->Nat}{M:Nat->Md}{R:Nat->Rm}{g n q k:Nat}(o:OpD) (A:Nat) (h:Sta w F K pb mb rb M R g n) (hk:k<K) (hr:Rel q (M k) (R k)) (_hq:q<=1999999) (hn:n<=42000000) (ho:OpOk A w o) (_hA:A<=w.heap.size) :
  Calls Tryz.prog 8 #[.pointer (some ⟨pb k,0,none⟩),.pointer (some ⟨g,0,none⟩),.agg (opK 5 o)] w fun e w'=>e = .returned (.bool true)/\∃F' M1 R1,Sta w' F' K pb mb rb (upd M k M1) (upd R k R1) g (n+2)/\Rel (q+1) M1 R1/\SMv w F w' F':=by
 have H:=hyd h
 have Hr:=hyd hr
 obtain⟨y0,y1,y2⟩:=h.pc k hk
 obtain⟨PK,hPK⟩:∃PK,pb k=PK:=⟨_,rfl⟩
 have HPK:=hyd hPK
 rw[hPK]at y0 y1 y2 ⊢
 unfold ptr at y0 y1
 have hpl:PK<w.heap.size:=lt_of_cell y0
 have Ho:=hyd ho
 have HB0:Hid (∀bk,Below w.heap.size w (w.alloc bk)):=fun bk=>(Below.refl _ _).alloc (Nat.le_refl _) bk
 have hgl:=h.glt
 clear h hr hPK ho y2
 unfold opK opKL
 go_enter Tryz.func8,Tryz.ntmps8
 go_wp2_with fail
 have HB1':=HB0.out (.cells (opK 5 o) 45)
 have HC1:∀j:Nat,(w.alloc (.cells (opK 5 o) 45)).cell? ⟨w.heap.size,j,none⟩=(opK 5 o)[j]?:=fun j=>cell_new _ _ _ j
 have hz1:(w.alloc (.cells (opK 5 o) 45)).heap.size=w.heap.size+1:=by simp
 generalize w.alloc (.cells (opK 5 o) 45)=w1 at *
 have HB1:Hid (Below w.heap.size w w1):=HB1'
 have H1:Hid (Sta w1 F K pb mb rb M R g n):=H.out.below HB1'
 have HZ:Hid (∀i,F i w.heap.size=0):=fun i=>H.out.hi i _ (Nat.le_refl _)
 have z0:w1.cell? ⟨PK,0,none⟩=some (.pointer (some ⟨mb k,0,none⟩)):=(HB1.out.cell (p:=⟨PK,0,none⟩) hpl).trans y0
 rw[<-HPK.out]
 refine(lmissing_any H1.out hk Hr.out (by omega) o.n).mono ?_
 rintro e w2 ⟨rfl,F2,s1,s2⟩
 have HE:Hid (∃F' M1 R1,Sta w2 F' K pb mb rb (upd M k M1) (upd R k R1) g (n+2)/\Rel (q+1) M1 R1/\SMv w F w2 F'):=⟨F2,M k,R k,by rw[upd_same,upd_same];exact s1,Hr.out.mono (Nat.le_succ _),(SMv.below HB1.out).trans s2⟩
 clear s1 s2 HB1' HC1 y0 y1 z0
 go_wp2
 go_ret
 exact⟨rfl,HE.out⟩
theorem step6_any {w:World}{F:Nat->Nat->Nat}{K:Nat}{pb mb rb:Nat->Nat}{M:Nat->Md}{R:Nat->Rm}{g n q k:Nat}(o:OpD) (A:Nat) (h:Sta w F K pb mb rb M R g n) (hk:k<K) (hr:Rel q (M k) (R k)) (_hq:q<=1999999) (_hn:n<=42000000) (ho:OpOk A w o) (_hA:A<=w.heap.size) :
  Calls Tryz.prog 8 #[.pointer (some ⟨pb k,0,none⟩),.pointer (some ⟨g,0,none⟩),.agg (opK 6 o)] w fun e w'=>e = .returned (.bool true)/\∃F' M1 R1,Sta w' F' K pb mb rb (upd M k M1) (upd R k R1) g (n+2)/\Rel (q+1) M1 R1/\SMv w F w' F':=by
 have H:=hyd h
 have Hr:=hyd hr
 obtain⟨y0,y1,y2⟩:=h.pc k hk
 obtain⟨PK,hPK⟩:∃PK,pb k=PK:=⟨_,rfl⟩
 have HPK:=hyd hPK
 rw[hPK]at y0 y1 y2 ⊢
 unfold ptr at y0 y1
 have hpl:PK<w.heap.size:=lt_of_cell y0
 have Ho:=hyd ho
 have HB0:Hid (∀bk,Below w.heap.size w (w.alloc bk)):=fun bk=>(Below.refl _ _).alloc (Nat.le_refl _) bk
 have hgl:=h.glt
 clear h hr hPK ho y2
 unfold opK opKL
 have hp75:Tryz.prog.stoodInHeld 49=false:=by kernel_rfl
 have hm75:Tryz.prog.eqGuardType Tryz.prog.depth 49=false:=by kernel_rfl
 go_enter Tryz.func8,Tryz.ntmps8
 go_wp2
 have HB1':=HB0.out (.cells (opK 6 o) 45)
 have HC1:∀j:Nat,(w.alloc (.cells (opK 6 o) 45)).cell? ⟨w.heap.size,j,none⟩=(opK 6 o)[j]?:=fun j=>cell_new _ _ _ j
 have hz1:(w.alloc (.cells (opK 6 o) 45)).heap.size=w.heap.size+1:=by simp
 generalize w.alloc (.cells (opK 6 o) 45)=w1 at *
 have HB1:Hid (Below w.heap.size w w1):=HB1'
 have H1:Hid (Sta w1 F K pb mb rb M R g n):=H.out.below HB1'
 have HZ:Hid (∀i,F i w.heap.size=0):=fun i=>H.out.hi i _ (Nat.le_refl _)
 have z0:w1.cell? ⟨PK,0,none⟩=some (.pointer (some ⟨mb k,0,none⟩)):=(HB1.out.cell (p:=⟨PK,0,none⟩) hpl).trans y0
 have hS1:LkS PK (mb k) (rb k) (R k).s w1:=by have h1:=H1.out.lk hk;rw[HPK.out]at h1;exact h1
 have Hs:Hid ((M k).s=(R k).s):=Hr.out.s
 clear HB1' HC1 y0 y1 z0
 refine wp_region_noPanic ?_
 refine wp_region_held_drew (S:=LkS PK (mb k) (rb k) (R k).s) (by kernel_rfl) hS1 (fun zH=>?_)
 refine tka 0 ?_
 refine tka 1 ?_
 refine tka 2 ?_
 refine tka 3 ?_
 refine tka 5 ?_
 refine tka 6 ?_
 refine tka 7 ?_
 refine tka 8 ?_
 refine tka 9 ?_
 refine tka 10 ?_
 refine tka 11 ?_
 refine rd1 4 fun K' hK=>?_
 go_simp
 refine(st_look (by first|exact H1.out|exact H1.out.below (Below.refl _ _).drew) hk).mono ?_
 rintro e w2 ⟨rfl,hb2⟩
 have hB2:Below w1.heap.size w1 w2:=by first|exact hb2|exact(Below.refl _ _).drew.trans (hb2.mono (by simp))
 have H2:Hid (Sta w2 F K pb mb rb M R g n):=H1.out.below hB2
 have hS2:LkS PK (mb k) (rb k) (R k).s w2:=by have h1:=H2.out.lk hk;rw[HPK.out]at h1;exact h1
 have HE:Hid (∃F' M1 R1,Sta w2 F' K pb mb rb (upd M k M1) (upd R k R1) g (n+2)/\Rel (q+1) M1 R1/\SMv w F w2 F'):=⟨F,M k,R k,by rw[upd_same,upd_same];exact H2.out.mono (by omega),Hr.out.mono (Nat.le_succ _),(SMv.below HB1.out).trans (SMv.below hB2)⟩
 rw[Hs.out]
 unfold sttA
 clear hb2 hB2
 go_simp
 refine hK.out _ _ hS2 (fun zH=>?_)
 clear hK K' hS1
 refine tka 12 ?_
 refine tka 13 ?_
 refine doN ?_
 clear zH hS2
 go_wp2
 go_ret
 exact⟨rfl,HE.out⟩
theorem step0_any {w:World}{F:Nat->Nat->Nat}{K:Nat}{pb mb rb:Nat->Nat}{M:Nat->Md}{R:Nat->Rm}{g n q k:Nat}(o:OpD) (A:Nat) (h:Sta w F K pb mb rb M R g n) (hk:k<K) (hr:Rel q (M k) (R k)) (_hq:q<=1999999) (_hn:n<=42000000) (ho:OpOk A w o) (_hA:A<=w.heap.size) (h0:o.kind<=0) :
  Calls Tryz.prog 8 #[.pointer (some ⟨pb k,0,none⟩),.pointer (some ⟨g,0,none⟩),.agg (opK o.kind o)] w fun e w'=>e = .returned (.bool true)/\∃F' M1 R1,Sta w' F' K pb mb rb (upd M k M1) (upd R k R1) g (n+2)/\Rel (q+1) M1 R1/\SMv w F w' F':=by
 have H:=hyd h
 have Hr:=hyd hr
 obtain⟨y0,y1,y2⟩:=h.pc k hk
 obtain⟨PK,hPK⟩:∃PK,pb k=PK:=⟨_,rfl⟩
 have HPK:=hyd hPK
 rw[hPK]at y0 y1 y2 ⊢
 unfold ptr at y0 y1
 have hpl:PK<w.heap.size:=lt_of_cell y0
 have Ho:=hyd ho
 have HB0:Hid (∀bk,Below w.heap.size w (w.alloc bk)):=fun bk=>(Below.refl _ _).alloc (Nat.le_refl _) bk
 have hgl:=h.glt
 clear h hr hPK ho y2
 unfold opK opKL
 have e1:(o.kind == 1)=false:=by rw[beq_eq_false_iff_ne];omega
 have e2:(o.kind == 2)=false:=by rw[beq_eq_false_iff_ne];omega
 have e3:(o.kind == 3)=false:=by rw[beq_eq_false_iff_ne];omega
 have e4:(o.kind == 4)=false:=by rw[beq_eq_false_iff_ne];omega
 have e5:(o.kind == 5)=false:=by rw[beq_eq_false_iff_ne];omega
 have e6:(o.kind == 6)=false:=by rw[beq_eq_false_iff_ne];omega
 have e8:(o.kind == 8)=false:=by rw[beq_eq_false_iff_ne];omega
 have e9:(o.kind == 9)=false:=by rw[beq_eq_false_iff_ne];omega
 have e10:(o.kind == 10)=false:=by rw[beq_eq_false_iff_ne];omega
 have e11:(o.kind == 11)=false:=by rw[beq_eq_false_iff_ne];omega
 have HE:Hid (∀bk,∃F' M1 R1,Sta (w.alloc bk) F' K pb mb rb (upd M k M1) (upd R k R1) g (n+2)/\Rel (q+1) M1 R1/\SMv w F (w.alloc bk) F'):=fun bk=>⟨F,M k,R k,by rw[upd_same,upd_same];exact(H.out.below (HB0.out bk)).mono (by omega),Hr.out.mono (Nat.le_succ _),SMv.below (HB0.out bk)⟩
 clear h0
 go_enter Tryz.func8,Tryz.ntmps8
 go_wp2
 go_ret
 exact⟨rfl,HE.out _⟩
theorem step4_any {w:World}{F:Nat->Nat->Nat}{K:Nat}{pb mb rb:Nat->Nat}{M:Nat->Md}{R:Nat->Rm}{g n q k:Nat}(o:OpD) (A:Nat) (h:Sta w F K pb mb rb M R g n) (hk:k<K) (hr:Rel q (M k) (R k)) (hq:q<=1999999) (hn:n<=42000000) (ho:OpOk A w o) (hA:A<=w.heap.size) :
  Calls Tryz.prog 8 #[.pointer (some ⟨pb k,0,none⟩),.pointer (some ⟨g,0,none⟩),.agg (opK 4 o)] w fun e w'=>e = .returned (.bool true)/\∃F' M1 R1,Sta w' F' K pb mb rb (upd M k M1) (upd R k R1) g (n+2)/\Rel (q+1) M1 R1/\SMv w F w' F':=by
 have H:=hyd h
 have Hr:=hyd hr
 obtain⟨y0,y1,y2⟩:=h.pc k hk
 obtain⟨PK,hPK⟩:∃PK,pb k=PK:=⟨_,rfl⟩
 have HPK:=hyd hPK
 rw[hPK]at y0 y1 y2 ⊢
 unfold ptr at y0 y1
 have hpl:PK<w.heap.size:=lt_of_cell y0
 have Ho:=hyd ho
 have HB0:Hid (∀bk,Below w.heap.size w (w.alloc bk)):=fun bk=>(Below.refl _ _).alloc (Nat.le_refl _) bk
 have hgl:=h.glt
 clear h hr hPK ho y2
 unfold opK opKL
 go_enter Tryz.func8,Tryz.ntmps8
 go_wp2_with (refine wpList_load_list rfl 45 (.tmp 5) rfl ⟨w.heap.size,0,none⟩ rfl (opKL 4 o) (by kernel_rfl) (by kernel_rfl) (cells_new _ (opKL 4 o) _) ?_;refine stop_here ?_)
 refine hid_in ?_
 have HB1':=HB0.out (.cells (opK 4 o) 45)
 have HC1:∀j:Nat,(w.alloc (.cells (opK 4 o) 45)).cell? ⟨w.heap.size,j,none⟩=(opK 4 o)[j]?:=fun j=>cell_new _ _ _ j
 have hz1:(w.alloc (.cells (opK 4 o) 45)).heap.size=w.heap.size+1:=by simp
 generalize w.alloc (.cells (opK 4 o) 45)=w1 at *
 have HB1:Hid (Below w.heap.size w w1):=HB1'
 have H1:Hid (Sta w1 F K pb mb rb M R g n):=H.out.below HB1'
 have HZ:Hid (∀i,F i w.heap.size=0):=fun i=>H.out.hi i _ (Nat.le_refl _)
 have z0:w1.cell? ⟨PK,0,none⟩=some (.pointer (some ⟨mb k,0,none⟩)):=(HB1.out.cell (p:=⟨PK,0,none⟩) hpl).trans y0
 clear HB1' HC1 y0 y1 z0
 go_wp2_with fail
 rw[<-HPK.out]
 have HOk:Hid (OpOk A w1 o):=⟨Ho.out.tx,Ho.out.en,Ho.out.py,Ho.out.cl,Ho.out.cv.carry (HB1.out.mono hA)⟩
 refine(movesT_any o A H1.out hk Hr.out hq (by omega) HOk.out (by omega)).mono ?_
 rintro e w2 ⟨rfl,F2,M1,R1,s1,s2,s3⟩
 have HE:Hid (∃F' M1 R1,Sta w2 F' K pb mb rb (upd M k M1) (upd R k R1) g (n+2)/\Rel (q+1) M1 R1/\SMv w F w2 F'):=⟨F2,M1,R1,s1.mono (by omega),s2,(SMv.below HB1.out).trans s3⟩
 clear s1 s2 s3
 go_wp2
 go_ret
 exact⟨rfl,HE.out⟩
end Go.Proofs.YtdjhhnolcafkiaaGreat
namespace Go.Proofs.YtdjhhnolcafkiaaGreat
open Go.RowKit
namespace Pk
theorem Pr.nil (W:World) (g:Nat) (ρ:Nat->Nat) (ra rm:Nat) (te tm:TypeId) (cells:Value->List Value):Pr W g ρ ra rm te tm cells (.slice none 0 0) (.slice none 0 0) [] []:=
 ⟨World.ownsRow_nil _ _ _ _,World.ownsRow_nil _ _ _ _,fun b hb=>(by cases hb),fun b hb=>(by cases hb),rfl,fun i u m hu=>(by simp at hu)⟩
def newRole (g b:Nat):Nat:=if b=g then 1 else 0
theorem bkN_new (w:World) (t:TypeId):BkN (w.alloc (.cells #[.slice none 0 0,.slice none 0 0,.slice none 0 0,.slice none 0 0,.slice none 0 0,.slice none 0 0,.int .i64 0] t)) w.heap.size (newRole w.heap.size) (.slice none 0 0) (.slice none 0 0) (.slice none 0 0) (.slice none 0 0) (.slice none 0 0) (.slice none 0 0) [] [] [] [] [] [] 0:=by
 refine⟨cell_new _ _ _ 0,cell_new _ _ _ 1,cell_new _ _ _ 2,cell_new _ _ _ 3,cell_new _ _ _ 4,cell_new _ _ _ 5,cell_new _ _ _ 6,fun o=>frozen_new _ _ _ o,fun b=>?_,fun b hb=>?_,Pr.nil ..,Pr.nil ..,Pr.nil ..⟩
 ·unfold newRole
  split<;>simp_all
 ·unfold newRole
  rw[if_neg (by simp at hb;omega)]
end Pk
end Go.Proofs.YtdjhhnolcafkiaaGreat
namespace Go.Proofs.YtdjhhnolcafkiaaGreat
open Go.RowKit Pk Rl
namespace Rl
def opL (o:OpD):List Value:=opKL o.kind o
def IsOps (B:Nat) (W:World) (v:Value) (l:List OpD):Prop:=∃ao cap,v = .slice ao l.length cap/\∀(j:Nat) (o:OpD),l[j]? = some o->∃b off,ao=some ⟨b,off,none⟩/\b<B/\∀i u,(opL o)[i]? = some u->W.cell? ⟨b,off+j*30+i,none⟩=some u
theorem step_any {w:World}{F:Nat->Nat->Nat}{K:Nat}{pb mb rb:Nat->Nat}{M:Nat->Md}{R:Nat->Rm}{g n q k:Nat}(o:OpD) (A:Nat) (h:Sta w F K pb mb rb M R g n) (hk:k<K) (hr:Rel q (M k) (R k)) (hq:q<=1999999) (hn:n<=42000000) (ho:OpOk A w o) (hA:A<=w.heap.size) (h6:o.kind<=6) :
  Calls Tryz.prog 8 #[.pointer (some ⟨pb k,0,none⟩),.pointer (some ⟨g,0,none⟩),.agg (opK o.kind o)] w fun e w'=>e = .returned (.bool true)/\∃F' M1 R1,Sta w' F' K pb mb rb (upd M k M1) (upd R k R1) g (n+2)/\Rel (q+1) M1 R1/\SMv w F w' F':=by
 rcases(by omega:o.kind<=0\/o.kind=1\/o.kind=2\/o.kind=3\/o.kind=4\/o.kind=5\/o.kind=6)with e|e|e|e|e|e|e
 ·exact step0_any o A h hk hr hq hn ho hA e
 ·rw[e];exact step1_any o A h hk hr hq hn ho hA
 ·rw[e];exact step2_any o A h hk hr hq hn ho hA
 ·rw[e];exact step3_any o A h hk hr hq hn ho hA
 ·rw[e];exact step4_any o A h hk hr hq hn ho hA
 ·rw[e];exact step5_any o A h hk hr hq hn ho hA
 ·rw[e];exact step6_any o A h hk hr hq hn ho hA
def F1 (g:Nat) (ρm ρr:Nat->Nat):Nat->Nat->Nat
 | 0=>newRole g
 | 1=>ρm
 | 2=>ρr
 | _=>fun _=>0
def F2 (g:Nat) (ρa ρb ρc ρd:Nat->Nat):Nat->Nat->Nat
 | 0=>newRole g
 | 1=>ρa
 | 2=>ρb
 | 3=>ρc
 | 4=>ρd
 | _=>fun _=>0
theorem bk_new (w:World) (t:TypeId):Bk1 (w.alloc (.cells #[.slice none 0 0,.slice none 0 0,.slice none 0 0,.slice none 0 0,.slice none 0 0,.slice none 0 0,.int .i64 0] t)) w.heap.size (newRole w.heap.size) 0:=
 ⟨_,_,_,_,_,_,[],[],[],[],[],[],0,bkN_new w t,Nat.zero_le _,Nat.zero_le _,Nat.zero_le _,Int.le_refl _,by omega⟩
theorem PrN.below {w W V:World}{pb mb rb:Nat}{ρm ρr:Nat->Nat}{c:Cfg}(h:PrN w W pb mb rb ρm ρr c) (hb:Below W.heap.size W V):PrN w V pb mb rb ρm ρr c:=
 ⟨(hb.cell (p:=⟨pb,0,none⟩) (lt_of_cell h.c0)).trans h.c0,(hb.cell (p:=⟨pb,1,none⟩) (lt_of_cell h.c1)).trans h.c1,h.md.below hb,h.rd.below hb,h.nm,h.nr,h.np⟩
theorem Sta.init1 {w W:World}{pb mb rb:Nat}{ρm ρr:Nat->Nat}{c:Cfg}(t:TypeId) (h:PrN w W pb mb rb ρm ρr c) :
  Sta (W.alloc (.cells #[.slice none 0 0,.slice none 0 0,.slice none 0 0,.slice none 0 0,.slice none 0 0,.slice none 0 0,.int .i64 0] t)) (F1 W.heap.size ρm ρr) 1 (fun _=>pb) (fun _=>mb) (fun _=>rb) (fun _=>newM c) (fun _=>rNew c) W.heap.size 0:=by
 have hb:Below W.heap.size W (W.alloc (.cells #[.slice none 0 0,.slice none 0 0,.slice none 0 0,.slice none 0 0,.slice none 0 0,.slice none 0 0,.int .i64 0] t)):=(Below.refl _ _).alloc (Nat.le_refl _) _
 have h':=h.below hb
 have hpl:pb<W.heap.size:=lt_of_cell h.c0
 have m0:=h.md.hi
 have r0:=h.rd.hi
 have key:∀b,(newRole W.heap.size b≠0->b=W.heap.size):=fun b e=>by
  unfold newRole at e
  split at e
  ·assumption
  ·exact absurd rfl e
 refine⟨fun k hk=>⟨h'.c0,h'.c1,fun j=>?_⟩,fun k hk=>?_,fun k hk=>?_,bk_new W t,fun i j b hi hj=>?_,fun i b hb'=>?_⟩
 ·match j with
  | 0=>exact Decidable.byContradiction fun e=>by have:=key _ e;omega
  | 1=>exact Decidable.byContradiction fun e=>(h.nm pb e).2.2 rfl
  | 2=>exact Decidable.byContradiction fun e=>(h.nr pb e).2 rfl
  | _+3=>rfl
 ·obtain rfl:k=0:=by omega
  exact⟨_,_,_,_,h'.md⟩
 ·obtain rfl:k=0:=by omega
  exact⟨_,_,h'.rd⟩
 ·have g1:∀b,newRole W.heap.size b≠0->ρm b=0/\ρr b=0:=fun b e=>by rw[key b e];exact⟨m0 _ (Nat.le_refl _),r0 _ (Nat.le_refl _)⟩
  match i,j,hi,hj with
  | 0,0,_,_=>rfl
  | 0,1,hi,hj=>exact absurd (g1 b hi).1 hj
  | 0,2,hi,hj=>exact absurd (g1 b hi).2 hj
  | 1,0,hi,hj=>exact absurd (g1 b hj).1 hi
  | 1,1,_,_=>rfl
  | 1,2,hi,hj=>exact absurd (h.nm b hi).2.1 hj
  | 2,0,hi,hj=>exact absurd (g1 b hj).2 hi
  | 2,1,hi,hj=>exact absurd (h.nm b hj).2.1 hi
  | 2,2,_,_=>rfl
  | _+3,_,hi,_=>exact absurd rfl hi
  | 0,_+3,_,hj=>exact absurd rfl hj
  | 1,_+3,_,hj=>exact absurd rfl hj
  | 2,_+3,_,hj=>exact absurd rfl hj
 ·have hz:W.heap.size<b:=by simp at hb';omega
  match i with
  | 0=>exact Decidable.byContradiction fun e=>by have:=key _ e;omega
  | 1=>exact m0 b (by omega)
  | 2=>exact r0 b (by omega)
  | _+3=>rfl
theorem Sta.init2 {w V W:World}{pa ma ra pb mb rb:Nat}{ρa ρb ρm ρr:Nat->Nat}{c d:Cfg}(t:TypeId) (ha:PrN w V pa ma ra ρa ρb c) (hv:Below V.heap.size V W) (h:PrN V W pb mb rb ρm ρr d) :
  Sta (W.alloc (.cells #[.slice none 0 0,.slice none 0 0,.slice none 0 0,.slice none 0 0,.slice none 0 0,.slice none 0 0,.int .i64 0] t)) (F2 W.heap.size ρa ρb ρm ρr) 2 (fun k=>if k=0 then pa else pb) (fun k=>if k=0 then ma else mb) (fun k=>if k=0 then ra else rb) (fun k=>if k=0 then newM c else newM d) (fun k=>if k=0 then rNew c else rNew d) W.heap.size 0:=by
 have hb:Below W.heap.size W (W.alloc (.cells #[.slice none 0 0,.slice none 0 0,.slice none 0 0,.slice none 0 0,.slice none 0 0,.slice none 0 0,.int .i64 0] t)):=(Below.refl _ _).alloc (Nat.le_refl _) _
 have h':=h.below hb
 have ha':=(ha.below hv).below hb
 have hpl:pb<W.heap.size:=lt_of_cell h.c0
 have hal:pa<V.heap.size:=lt_of_cell ha.c0
 have hvz:=hv.size
 have m0:=h.md.hi
 have r0:=h.rd.hi
 have ma0:=ha.md.hi
 have ra0:=ha.rd.hi
 have key:∀b,(newRole W.heap.size b≠0->b=W.heap.size):=fun b e=>by
  unfold newRole at e
  split at e
  ·assumption
  ·exact absurd rfl e
 have la:∀b,ρa b≠0->b<V.heap.size:=fun b e=>Nat.lt_of_not_le fun h=>e (ma0 b h)
 have lb:∀b,ρb b≠0->b<V.heap.size:=fun b e=>Nat.lt_of_not_le fun h=>e (ra0 b h)
 have lm:∀b,ρm b≠0->V.heap.size<=b/\b<W.heap.size:=fun b e=>⟨(h.nm b e).1,Nat.lt_of_not_le fun h=>e (m0 b h)⟩
 have lr:∀b,ρr b≠0->V.heap.size<=b/\b<W.heap.size:=fun b e=>⟨(h.nr b e).1,Nat.lt_of_not_le fun h=>e (r0 b h)⟩
 have hpb:=h.np
 refine⟨fun k hk=>?_,fun k hk=>?_,fun k hk=>?_,bk_new W t,fun i j b hi hj=>?_,fun i b hb'=>?_⟩
 ·rcases(by omega:k=0\/k=1)with rfl|rfl
  ·refine⟨ha'.c0,ha'.c1,fun j=>?_⟩
   show F2 _ _ _ _ _ j pa=0
   match j with
   | 0=>exact Decidable.byContradiction fun e=>by have:=key _ e;omega
   | 1=>exact Decidable.byContradiction fun e=>(ha.nm pa e).2.2 rfl
   | 2=>exact Decidable.byContradiction fun e=>(ha.nr pa e).2 rfl
   | 3=>exact Decidable.byContradiction fun e=>by have:=lm _ e;omega
   | 4=>exact Decidable.byContradiction fun e=>by have:=lr _ e;omega
   | _+5=>rfl
  ·refine⟨h'.c0,h'.c1,fun j=>?_⟩
   show F2 _ _ _ _ _ j pb=0
   match j with
   | 0=>exact Decidable.byContradiction fun e=>by have:=key _ e;omega
   | 1=>exact Decidable.byContradiction fun e=>by have:=la _ e;omega
   | 2=>exact Decidable.byContradiction fun e=>by have:=lb _ e;omega
   | 3=>exact Decidable.byContradiction fun e=>(h.nm pb e).2.2 rfl
   | 4=>exact Decidable.byContradiction fun e=>(h.nr pb e).2 rfl
   | _+5=>rfl
 ·rcases(by omega:k=0\/k=1)with rfl|rfl
  ·exact⟨_,_,_,_,ha'.md⟩
  ·exact⟨_,_,_,_,h'.md⟩
 ·rcases(by omega:k=0\/k=1)with rfl|rfl
  ·exact⟨_,_,ha'.rd⟩
  ·exact⟨_,_,h'.rd⟩
 ·have kb:=key b
  have ka:=la b
  have kB:=lb b
  have km:=lm b
  have kr:=lr b
  match i,j,hi,hj with
  | 0,0,_,_=>rfl
  | 1,1,_,_=>rfl
  | 2,2,_,_=>rfl
  | 3,3,_,_=>rfl
  | 4,4,_,_=>rfl
  | 0,1,hi,hj=>have:=kb hi;have:=ka hj;omega
  | 0,2,hi,hj=>have:=kb hi;have:=kB hj;omega
  | 0,3,hi,hj=>have:=kb hi;have:=km hj;omega
  | 0,4,hi,hj=>have:=kb hi;have:=kr hj;omega
  | 1,0,hi,hj=>have:=kb hj;have:=ka hi;omega
  | 2,0,hi,hj=>have:=kb hj;have:=kB hi;omega
  | 3,0,hi,hj=>have:=kb hj;have:=km hi;omega
  | 4,0,hi,hj=>have:=kb hj;have:=kr hi;omega
  | 1,2,hi,hj=>exact absurd (ha.nm b hi).2.1 hj
  | 2,1,hi,hj=>exact absurd (ha.nm b hj).2.1 hi
  | 3,4,hi,hj=>exact absurd (h.nm b hi).2.1 hj
  | 4,3,hi,hj=>exact absurd (h.nm b hj).2.1 hi
  | 1,3,hi,hj=>have:=ka hi;have:=km hj;omega
  | 1,4,hi,hj=>have:=ka hi;have:=kr hj;omega
  | 2,3,hi,hj=>have:=kB hi;have:=km hj;omega
  | 2,4,hi,hj=>have:=kB hi;have:=kr hj;omega
  | 3,1,hi,hj=>have:=ka hj;have:=km hi;omega
  | 4,1,hi,hj=>have:=ka hj;have:=kr hi;omega
  | 3,2,hi,hj=>have:=kB hj;have:=km hi;omega
  | 4,2,hi,hj=>have:=kB hj;have:=kr hi;omega
  | _+5,_,hi,_=>exact absurd rfl hi
  | 0,_+5,_,hj=>exact absurd rfl hj
  | 1,_+5,_,hj=>exact absurd rfl hj
  | 2,_+5,_,hj=>exact absurd rfl hj
  | 3,_+5,_,hj=>exact absurd rfl hj
  | 4,_+5,_,hj=>exact absurd rfl hj
 ·have hz:W.heap.size<b:=by simp at hb';omega
  match i with
  | 0=>exact Decidable.byContradiction fun e=>by have:=key _ e;omega
  | 1=>exact ma0 b (by omega)
  | 2=>exact ra0 b (by omega)
  | 3=>exact m0 b (by omega)
  | 4=>exact r0 b (by omega)
  | _+5=>rfl
end Rl
end Go.Proofs.YtdjhhnolcafkiaaGreat
namespace Go.Proofs.YtdjhhnolcafkiaaGreat
open Go.ChangeShapes Go.WideShapes Go.ChangeAt Go.RowKit Go.Deep
namespace Oi
open Up Pk Rl
section
variable {H : Type} {enc : TypeId × Value -> H} {W : World} {base : Nat} {spare : Nat -> Bool} {held : Bool}
theorem list6 {cs:List Value}(h:cs.length=6):∃c0 c1 c2 c3 c4 c5,cs=[c0,c1,c2,c3,c4,c5]:=by
 match cs,h with
 | [c0,c1,c2,c3,c4,c5],_=>exact⟨c0,c1,c2,c3,c4,c5,rfl⟩
set_option maxRecDepth 100000 in
theorem want_in {fuel:Nat}{cs:List Value}{x:DataW H × List MemPlace}(h:DataW.trod enc Tryz.prog W base spare held fuel 39 cs=some x):∃p:Plan,cs=[.int .i64 p.source,.int .i64 p.second,.int .i64 p.ty,.int .i64 p.secondTy,.int .i64 p.first,.int .i64 p.secondFirst]:=by
 have hC:Tryz.prog.cellsOf 39=6:=by kernel_rfl
 obtain⟨xs,n,_,rfl,hcl,hxl,hx⟩:=DataW.trod_struct Tryz.underlying39 h
 obtain⟨c0,c1,c2,c3,c4,c5,rfl⟩:=list6 (hcl.trans hC)
 have k3:Tryz.prog.cellsOf 3=1:=by kernel_rfl
 have hlen:xs.length=6:=hxl
 have at_:∀i,i<6->∃y,xs[i]? = some y:=fun i hi=>⟨xs[i],List.getElem?_eq_getElem (by omega)⟩
 obtain⟨z0,g0⟩:=at_ 0 (by omega)
 have e0:=(hx 0 _ rfl).trans g0
 obtain⟨z1,g1⟩:=at_ 1 (by omega)
 have e1:=(hx 1 _ rfl).trans g1
 obtain⟨z2,g2⟩:=at_ 2 (by omega)
 have e2:=(hx 2 _ rfl).trans g2
 obtain⟨z3,g3⟩:=at_ 3 (by omega)
 have e3:=(hx 3 _ rfl).trans g3
 obtain⟨z4,g4⟩:=at_ 4 (by omega)
 have e4:=(hx 4 _ rfl).trans g4
 obtain⟨z5,g5⟩:=at_ 5 (by omega)
 have e5:=(hx 5 _ rfl).trans g5
 simp[k3]at e0 e1 e2 e3 e4 e5
 obtain⟨v0,m0,_,_⟩:=DataW.trod_int Tryz.underlying3 e0
 obtain⟨v1,m1,_,_⟩:=DataW.trod_int Tryz.underlying3 e1
 obtain⟨v2,m2,_,_⟩:=DataW.trod_int Tryz.underlying3 e2
 obtain⟨v3,m3,_,_⟩:=DataW.trod_int Tryz.underlying3 e3
 obtain⟨v4,m4,_,_⟩:=DataW.trod_int Tryz.underlying3 e4
 obtain⟨v5,m5,_,_⟩:=DataW.trod_int Tryz.underlying3 e5
 simp only[List.cons.injEq,and_true]at m0 m1 m2 m3 m4 m5
 subst m0 m1 m2 m3 m4 m5
 exact⟨⟨v0,v1,v2,v3,v4,v5⟩,rfl⟩
theorem list7 {cs:List Value}(h:cs.length=7):∃c0 c1 c2 c3 c4 c5 c6,cs=[c0,c1,c2,c3,c4,c5,c6]:=by
 match cs,h with
 | [c0,c1,c2,c3,c4,c5,c6],_=>exact⟨c0,c1,c2,c3,c4,c5,c6,rfl⟩
set_option maxRecDepth 100000 in
theorem cfg_in {fuel:Nat}{cs:List Value}{x:DataW H × List MemPlace}(h:DataW.trod enc Tryz.prog W base spare held fuel 23 cs=some x):∃p:Cfg,cs=[.int .i64 p.ring,.int .i64 p.window,.int .i64 p.delay,.int .i64 p.rate,.int .i64 p.burst,.int .i64 p.retry,.int .i64 p.tries]:=by
 have hC:Tryz.prog.cellsOf 23=7:=by kernel_rfl
 obtain⟨xs,n,_,rfl,hcl,hxl,hx⟩:=DataW.trod_struct Tryz.underlying23 h
 obtain⟨c0,c1,c2,c3,c4,c5,c6,rfl⟩:=list7 (hcl.trans hC)
 have k3:Tryz.prog.cellsOf 3=1:=by kernel_rfl
 have hlen:xs.length=7:=hxl
 have at_:∀i,i<7->∃y,xs[i]? = some y:=fun i hi=>⟨xs[i],List.getElem?_eq_getElem (by omega)⟩
 obtain⟨z0,g0⟩:=at_ 0 (by omega)
 have e0:=(hx 0 _ rfl).trans g0
 obtain⟨z1,g1⟩:=at_ 1 (by omega)
 have e1:=(hx 1 _ rfl).trans g1
 obtain⟨z2,g2⟩:=at_ 2 (by omega)
 have e2:=(hx 2 _ rfl).trans g2
 obtain⟨z3,g3⟩:=at_ 3 (by omega)
 have e3:=(hx 3 _ rfl).trans g3
 obtain⟨z4,g4⟩:=at_ 4 (by omega)
 have e4:=(hx 4 _ rfl).trans g4
 obtain⟨z5,g5⟩:=at_ 5 (by omega)
 have e5:=(hx 5 _ rfl).trans g5
 obtain⟨z6,g6⟩:=at_ 6 (by omega)
 have e6:=(hx 6 _ rfl).trans g6
 simp[k3]at e0 e1 e2 e3 e4 e5 e6
 obtain⟨v0,m0,_,_⟩:=DataW.trod_int Tryz.underlying3 e0
 obtain⟨v1,m1,_,_⟩:=DataW.trod_int Tryz.underlying3 e1
 obtain⟨v2,m2,_,_⟩:=DataW.trod_int Tryz.underlying3 e2
 obtain⟨v3,m3,_,_⟩:=DataW.trod_int Tryz.underlying3 e3
 obtain⟨v4,m4,_,_⟩:=DataW.trod_int Tryz.underlying3 e4
 obtain⟨v5,m5,_,_⟩:=DataW.trod_int Tryz.underlying3 e5
 obtain⟨v6,m6,_,_⟩:=DataW.trod_int Tryz.underlying3 e6
 simp only[List.cons.injEq,and_true]at m0 m1 m2 m3 m4 m5 m6
 subst m0 m1 m2 m3 m4 m5 m6
 exact⟨⟨v0,v1,v2,v3,v4,v5,v6⟩,rfl⟩
theorem list11 {cs:List Value}(h:cs.length=11):∃c0 c1 c2 c3 c4 c5 c6 c7 c8 c9 c10,cs=[c0,c1,c2,c3,c4,c5,c6,c7,c8,c9,c10]:=by
 match cs,h with
 | [c0,c1,c2,c3,c4,c5,c6,c7,c8,c9,c10],_=>exact⟨c0,c1,c2,c3,c4,c5,c6,c7,c8,c9,c10,rfl⟩
set_option maxRecDepth 100000 in
theorem packet_in {fuel:Nat}{cs:List Value}{x:DataW H × List MemPlace}(h:DataW.trod enc Tryz.prog W base spare held fuel 41 cs=some x) (hk:Rows.uptoBulk x.1<=1048576) :
  ∃(mk ex:Bool) (ty nu ti so pr pd:Int) (cv:Value) (cl:List Int) (en py:ByteArray),cs=[.bool mk,.int .i64 ty,.int .i64 nu,.int .i64 ti,.int .i64 so,cv,.bool ex,.int .i64 pr,.string en,.string py,.int .i64 pd]/\
   Pk.IsInts W.heap.size W cv cl/\cl.length<=1048576/\en.size<=1048576/\py.size<=1048576:=by
 have hC:Tryz.prog.cellsOf 41=11:=by kernel_rfl
 obtain⟨xs,n,_,rfl,hcl,hxl,hx⟩:=DataW.trod_struct Tryz.underlying41 h
 obtain⟨c0,c1,c2,c3,c4,c5,c6,c7,c8,c9,c10,rfl⟩:=list11 (hcl.trans hC)
 have k4:Tryz.prog.cellsOf 4=1:=by kernel_rfl
 have k3:Tryz.prog.cellsOf 3=1:=by kernel_rfl
 have k9:Tryz.prog.cellsOf 9=1:=by kernel_rfl
 have k27:Tryz.prog.cellsOf 34=1:=by kernel_rfl
 have hlen:xs.length=11:=hxl
 have at_:∀i,i<11->∃y,xs[i]? = some y:=fun i hi=>⟨xs[i],List.getElem?_eq_getElem (by omega)⟩
 obtain⟨z0,g0⟩:=at_ 0 (by omega);obtain⟨z1,g1⟩:=at_ 1 (by omega);obtain⟨z2,g2⟩:=at_ 2 (by omega);obtain⟨z3,g3⟩:=at_ 3 (by omega)
 obtain⟨z4,g4⟩:=at_ 4 (by omega);obtain⟨z5,g5⟩:=at_ 5 (by omega);obtain⟨z6,g6⟩:=at_ 6 (by omega);obtain⟨z7,g7⟩:=at_ 7 (by omega)
 obtain⟨z8,g8⟩:=at_ 8 (by omega);obtain⟨z9,g9⟩:=at_ 9 (by omega);obtain⟨z10,g10⟩:=at_ 10 (by omega)
 have e0:=(hx 0 _ rfl).trans g0;have e1:=(hx 1 _ rfl).trans g1;have e2:=(hx 2 _ rfl).trans g2;have e3:=(hx 3 _ rfl).trans g3
 have e4:=(hx 4 _ rfl).trans g4;have e5:=(hx 5 _ rfl).trans g5;have e6:=(hx 6 _ rfl).trans g6;have e7:=(hx 7 _ rfl).trans g7
 have e8:=(hx 8 _ rfl).trans g8;have e9:=(hx 9 _ rfl).trans g9;have e10:=(hx 10 _ rfl).trans g10
 simp[k4,k3,k9,k27]at e0 e1 e2 e3 e4 e5 e6 e7 e8 e9 e10
 have hb:=bulk_agg (xs.map (·.1))
 simp only at hk
 have mem:∀(i:Nat) (z:DataW H × List MemPlace),xs[i]? = some z->Rows.uptoBulk z.1<=1048576:=fun i z hz=>by
  have:=bulk_mem (d:=z.1) (l:=xs.map (·.1)) (List.mem_map.2 ⟨z,List.mem_of_getElem? hz,rfl⟩)
  omega
 obtain⟨mk,m0,_⟩:=DataW.trod_bool Tryz.underlying4 e0
 obtain⟨ty,m1,_,_⟩:=DataW.trod_int Tryz.underlying3 e1
 obtain⟨nu,m2,_,_⟩:=DataW.trod_int Tryz.underlying3 e2
 obtain⟨ti,m3,_,_⟩:=DataW.trod_int Tryz.underlying3 e3
 obtain⟨so,m4,_,_⟩:=DataW.trod_int Tryz.underlying3 e4
 obtain⟨cl,i1,i2⟩:=ints_in e5
 obtain⟨ex,m6,_⟩:=DataW.trod_bool Tryz.underlying4 e6
 obtain⟨pr,m7,_,_⟩:=DataW.trod_int Tryz.underlying3 e7
 obtain⟨en,m8,w8⟩:=text_in e8
 obtain⟨py,m9,w9⟩:=text_in e9
 obtain⟨pd,m10,_,_⟩:=DataW.trod_int Tryz.underlying3 e10
 simp only[List.cons.injEq,and_true]at m0 m1 m2 m3 m4 m6 m7 m10
 subst m0 m1 m2 m3 m4 m6 m7 m8 m9 m10
 have b5:=mem 5 _ g5
 have b8:=mem 8 _ g8
 have b9:=mem 9 _ g9
 exact⟨mk,ex,ty,nu,ti,so,pr,pd,c5,cl,en,py,rfl,i1,by omega,by omega,by omega⟩
theorem list3 {cs:List Value}(h:cs.length=3):∃c0 c1 c2,cs=[c0,c1,c2]:=by
 match cs,h with
 | [c0,c1,c2],_=>exact⟨c0,c1,c2,rfl⟩
set_option maxRecDepth 100000 in
theorem asking_in {fuel:Nat}{cs:List Value}{x:DataW H × List MemPlace}(h:DataW.trod enc Tryz.prog W base spare held fuel 43 cs=some x) (hk:Rows.uptoBulk x.1<=1048576) :
  ∃(se so:Int) (cv:Value) (cl:List Int),cs=[.int .i64 se,.int .i64 so,cv]/\Pk.IsInts W.heap.size W cv cl/\cl.length<=1048576:=by
 have hC:Tryz.prog.cellsOf 43=3:=by kernel_rfl
 obtain⟨xs,n,_,rfl,hcl,hxl,hx⟩:=DataW.trod_struct Tryz.underlying43 h
 obtain⟨c0,c1,c2,rfl⟩:=list3 (hcl.trans hC)
 have k3:Tryz.prog.cellsOf 3=1:=by kernel_rfl
 have k27:Tryz.prog.cellsOf 34=1:=by kernel_rfl
 have hlen:xs.length=3:=hxl
 have at_:∀i,i<3->∃y,xs[i]? = some y:=fun i hi=>⟨xs[i],List.getElem?_eq_getElem (by omega)⟩
 obtain⟨z0,g0⟩:=at_ 0 (by omega);obtain⟨z1,g1⟩:=at_ 1 (by omega);obtain⟨z2,g2⟩:=at_ 2 (by omega)
 have e0:=(hx 0 _ rfl).trans g0;have e1:=(hx 1 _ rfl).trans g1;have e2:=(hx 2 _ rfl).trans g2
 simp[k3,k27]at e0 e1 e2
 have hb:=bulk_agg (xs.map (·.1))
 simp only at hk
 have mem:∀(i:Nat) (z:DataW H × List MemPlace),xs[i]? = some z->Rows.uptoBulk z.1<=1048576:=fun i z hz=>by
  have:=bulk_mem (d:=z.1) (l:=xs.map (·.1)) (List.mem_map.2 ⟨z,List.mem_of_getElem? hz,rfl⟩)
  omega
 obtain⟨se,m0,_,_⟩:=DataW.trod_int Tryz.underlying3 e0
 obtain⟨so,m1,_,_⟩:=DataW.trod_int Tryz.underlying3 e1
 obtain⟨cl,i1,i2⟩:=ints_in e2
 simp only[List.cons.injEq,and_true]at m0 m1
 subst m0 m1
 have b2:=mem 2 _ g2
 exact⟨se,so,c2,cl,rfl,i1,by omega⟩
theorem list30 {cs:List Value}(h:cs.length=30):∃c0 c1 c2 c3 c4 c5 c6 c7 c8 c9 c10 c11 c12 c13 c14 c15 c16 c17 c18 c19 c20 c21 c22 c23 c24 c25 c26 c27 c28 c29,cs=[c0,c1,c2,c3,c4,c5,c6,c7,c8,c9,c10,c11,c12,c13,c14,c15,c16,c17,c18,c19,c20,c21,c22,c23,c24,c25,c26,c27,c28,c29]:=by
 match cs,h with
 | [c0,c1,c2,c3,c4,c5,c6,c7,c8,c9,c10,c11,c12,c13,c14,c15,c16,c17,c18,c19,c20,c21,c22,c23,c24,c25,c26,c27,c28,c29],_=>exact⟨c0,c1,c2,c3,c4,c5,c6,c7,c8,c9,c10,c11,c12,c13,c14,c15,c16,c17,c18,c19,c20,c21,c22,c23,c24,c25,c26,c27,c28,c29,rfl⟩
set_option maxRecDepth 100000 in
theorem op_in {fuel:Nat}{cs:List Value}{x:DataW H × List MemPlace}(h:DataW.trod enc Tryz.prog W base spare held fuel 45 cs=some x) (hk:Rows.uptoBulk x.1<=1048576) :
  ∃o:OpD,cs=opL o/\OpOk W.heap.size W o:=by
 have hC:Tryz.prog.cellsOf 45=30:=by kernel_rfl
 obtain⟨xs,n,_,rfl,hcl,hxl,hx⟩:=DataW.trod_struct Tryz.underlying45 h
 obtain⟨c0,c1,c2,c3,c4,c5,c6,c7,c8,c9,c10,c11,c12,c13,c14,c15,c16,c17,c18,c19,c20,c21,c22,c23,c24,c25,c26,c27,c28,c29,rfl⟩:=list30 (hcl.trans hC)
 have k3:Tryz.prog.cellsOf 3=1:=by kernel_rfl
 have k9:Tryz.prog.cellsOf 9=1:=by kernel_rfl
 have kW:Tryz.prog.cellsOf 39=6:=by kernel_rfl
 have kC:Tryz.prog.cellsOf 23=7:=by kernel_rfl
 have kP:Tryz.prog.cellsOf 41=11:=by kernel_rfl
 have kA:Tryz.prog.cellsOf 43=3:=by kernel_rfl
 have hlen:xs.length=7:=hxl
 have at_:∀i,i<7->∃y,xs[i]? = some y:=fun i hi=>⟨xs[i],List.getElem?_eq_getElem (by omega)⟩
 obtain⟨z0,g0⟩:=at_ 0 (by omega)
 have e0:=(hx 0 _ rfl).trans g0
 obtain⟨z1,g1⟩:=at_ 1 (by omega)
 have e1:=(hx 1 _ rfl).trans g1
 obtain⟨z2,g2⟩:=at_ 2 (by omega)
 have e2:=(hx 2 _ rfl).trans g2
 obtain⟨z3,g3⟩:=at_ 3 (by omega)
 have e3:=(hx 3 _ rfl).trans g3
 obtain⟨z4,g4⟩:=at_ 4 (by omega)
 have e4:=(hx 4 _ rfl).trans g4
 obtain⟨z5,g5⟩:=at_ 5 (by omega)
 have e5:=(hx 5 _ rfl).trans g5
 obtain⟨z6,g6⟩:=at_ 6 (by omega)
 have e6:=(hx 6 _ rfl).trans g6
 simp[k3,k9,kW,kC,kP,kA]at e0 e1 e2 e3 e4 e5 e6
 have hb:=bulk_agg (xs.map (·.1))
 simp only at hk
 have mem:∀(i:Nat) (z:DataW H × List MemPlace),xs[i]? = some z->Rows.uptoBulk z.1<=1048576:=fun i z hz=>by
  have:=bulk_mem (d:=z.1) (l:=xs.map (·.1)) (List.mem_map.2 ⟨z,List.mem_of_getElem? hz,rfl⟩)
  omega
 obtain⟨kind,m0,_,_⟩:=DataW.trod_int Tryz.underlying3 e0
 obtain⟨nn,m1,_,_⟩:=DataW.trod_int Tryz.underlying3 e1
 obtain⟨tx,m2,w2⟩:=text_in e2
 obtain⟨pl,m3⟩:=want_in e3
 obtain⟨cf,m4⟩:=cfg_in e4
 obtain⟨mk,ex,ty,nu,ti,so,pr,pd,cv,cl,en,py,m5,i1,i2,i3,i4⟩:=packet_in e5 (mem 5 _ g5)
 obtain⟨se,s2,nv,nl,m6,j1,j2⟩:=asking_in e6 (mem 6 _ g6)
 have b2:=mem 2 _ g2
 obtain⟨ca,cc,hcv,hci⟩:=i1
 obtain⟨na,nc,hnv,-⟩:=j1
 subst hcv hnv
 simp only[List.cons.injEq,and_true]at m0 m1 m3 m4 m5 m6
 subst m0 m1 m2
 refine⟨⟨kind,nn,tx,pl,cf,⟨mk,ex,ty,nu,ti,so,pr,pd,cl,en,py⟩,ca,cc,se,s2,na,nl.length,nc⟩,?_,by unfold maxLen;simp only;omega,by simp only;omega,by simp only;omega,by simp only;omega,⟨ca,cc,rfl,hci⟩⟩
 unfold opL opKL
 simp only[m3,m4,m5,m6]
theorem list_of {α:Type}(P:Nat->α->Prop):∀n:Nat,(∀i,i<n->∃a,P i a)->∃l:List α,l.length=n/\∀i a,l[i]? = some a->P i a
 | 0,_=>⟨[],rfl,fun i a h=>by simp at h⟩
 | n+1,h=>by
  obtain⟨l,h1,h2⟩:=list_of P n (fun i hi=>h i (by omega))
  obtain⟨a,ha⟩:=h n (by omega)
  refine⟨l++[a],by simp[h1],fun i b hb=>?_⟩
  by_cases hi:i<n
  ·rw[List.getElem?_append_left (by omega)]at hb
   exact h2 i b hb
  ·rw[List.getElem?_append_right (by omega)]at hb
   have hlt:i-l.length<1:=by
    have:=(List.getElem?_eq_some_iff.1 hb).1
    simpa using this
   obtain rfl:i=n:=by omega
   rw[h1,Nat.sub_self]at hb
   simp at hb
   rw[<-hb]
   exact ha
theorem ops_in {fuel:Nat}{c:Value}{x:DataW H × List MemPlace}(h:DataW.trod enc Tryz.prog W base spare held fuel 24 [c]=some x) (hk:Rows.uptoBulk x.1<=1048576) :
  ∃l:List OpD,IsOps W.heap.size W c l/\l.length<=1048576/\∀o∈l,OpOk W.heap.size W o:=by
 have hC:Tryz.prog.cellsOf 45=30:=by kernel_rfl
 rcases open_slice Tryz.underlying24 h with⟨hcs,_⟩|⟨a,len,cap,m,n,D,Pl,hcs,_,hl,hm,hmm,rfl,hx⟩
 ·simp only[List.cons.injEq,and_true]at hcs
  subst hcs
  exact⟨[],⟨none,0,rfl,fun j r hj=>by simp at hj⟩,Nat.zero_le _,by simp⟩
 ·simp only[List.cons.injEq,and_true]at hcs
  subst hcs
  have hlm:len<=m:=by rw[hmm];split<;>omega
  have hb1:=bulk_row ((List.range len).map D) ((List.range (m-len)).map fun j=>D (len+j))
  have hb2:=bulk_len ((List.range len).map D)
  rw[List.length_map,List.length_range]at hb2
  simp only at hk
  have key:∀i,i<len->∃o:OpD,OpOk W.heap.size W o/\∃b off,a=⟨b,off,none⟩/\b<W.heap.size/\∀k u,(opL o)[k]? = some u->W.cell? ⟨b,off+i*30+k,none⟩=some u:=fun i hi=>by
   obtain⟨cs',h1,h2⟩:=hx i (by omega)
   rw[hC]at h1
   have hb3:=bulk_mem (d:=D i) (l:=(List.range len).map D) (List.mem_map.2 ⟨i,List.mem_range.2 hi,rfl⟩)
   obtain⟨o,rfl,r1⟩:=op_in h2 (by simp only;omega)
   obtain⟨_,_,hcell⟩:=World.cells?_some h1
   obtain⟨b,off,spot⟩:=a
   have hspot:spot=none:=by
    obtain⟨cs0,h10,_⟩:=hx 0 (by omega)
    obtain⟨_,hl0,hc0⟩:=World.cells?_some h10
    have h:=(hc0 0 (by omega)).trans (List.getElem?_eq_getElem (by omega))
    simpa[Addr.add]using World.cell?_spot h
   subst hspot
   rw[add_plain]at hcell
   have at_:∀k u,(opL o)[k]? = some u->W.cell? ⟨b,off+i*30+k,none⟩=some u:=fun k u hu=>by
    have hk30:k<30:=(List.getElem?_eq_some_iff.1 hu).1
    have:=hcell k hk30
    rw[add_plain]at this
    exact this.trans hu
   exact⟨o,r1,b,off,rfl,Pk.lt_of_cell (at_ 0 _ rfl),at_⟩
  obtain⟨l,l1,l2⟩:=list_of _ len key
  refine⟨l,⟨some a,cap,by rw[l1],fun j o hj=>?_⟩,by omega,fun o ho=>?_⟩
  ·obtain⟨-,b,off,rfl,h1,h2⟩:=l2 j o hj
   exact⟨b,off,rfl,h1,h2⟩
  ·obtain⟨j,hj⟩:=List.mem_iff_getElem?.1 ho
   exact(l2 j o hj).1
set_option maxRecDepth 100000 in
theorem config_in {r:Reach}{b0:Nat}{v:Value}{d:DataW H}{p:List MemPlace}(hv:Value.okWide Tryz.prog W r b0 23 v) (h:DataW.Trod enc Tryz.prog W base spare held 23 v d p):∃c:Cfg,v = .agg #[.int .i64 c.ring,.int .i64 c.window,.int .i64 c.delay,.int .i64 c.rate,.int .i64 c.burst,.int .i64 c.retry,.int .i64 c.tries]:=by
 obtain⟨cs,rfl,hsz⟩:=okWide_struct Tryz.underlying23 hv
 obtain⟨m,hm⟩:=h
 obtain⟨c,hc⟩:=cfg_in hm
 refine⟨c,?_⟩
 congr 1
 apply Array.toList_inj.1
 simpa[Value.cells]using hc
end
end Oi
end Go.Proofs.YtdjhhnolcafkiaaGreat
namespace Go.Proofs.YtdjhhnolcafkiaaGreat
open Go.RowKit Pk Rl
namespace Rl
def LkS2 (PA ma ra:Nat) (s:Stt) (PB mb rb:Nat) (t:Stt) (W:World):Prop:=W.cell? ⟨PA,0,none⟩=some (.pointer (some ⟨ma,0,none⟩))/\W.cell? ⟨PA,1,none⟩=some (.pointer (some ⟨ra,0,none⟩))/\W.cell? ⟨ra,7,none⟩=some (.int .i64 s.now)/\W.cell? ⟨ra,8,none⟩=some (.int .i64 s.tokens)/\W.cell? ⟨ra,9,none⟩=some (.int .i64 s.passed)/\W.cell? ⟨ra,10,none⟩=some (.int .i64 s.late)/\W.cell? ⟨ra,11,none⟩=some (.int .i64 s.doubled)/\W.cell? ⟨ra,12,none⟩=some (.int .i64 s.wrong)/\W.cell? ⟨ra,13,none⟩=some (.int .i64 s.unknown)/\W.cell? ⟨ra,14,none⟩=some (.int .i64 s.again)/\W.cell? ⟨ra,15,none⟩=some (.int .i64 s.refused)/\W.cell? ⟨ra,16,none⟩=some (.int .i64 s.asked)/\W.cell? ⟨ra,17,none⟩=some (.int .i64 s.givenUp)/\W.cell? ⟨PB,0,none⟩=some (.pointer (some ⟨mb,0,none⟩))/\W.cell? ⟨PB,1,none⟩=some (.pointer (some ⟨rb,0,none⟩))/\W.cell? ⟨rb,7,none⟩=some (.int .i64 t.now)/\W.cell? ⟨rb,8,none⟩=some (.int .i64 t.tokens)/\W.cell? ⟨rb,9,none⟩=some (.int .i64 t.passed)/\W.cell? ⟨rb,10,none⟩=some (.int .i64 t.late)/\W.cell? ⟨rb,11,none⟩=some (.int .i64 t.doubled)/\W.cell? ⟨rb,12,none⟩=some (.int .i64 t.wrong)/\W.cell? ⟨rb,13,none⟩=some (.int .i64 t.unknown)/\W.cell? ⟨rb,14,none⟩=some (.int .i64 t.again)/\W.cell? ⟨rb,15,none⟩=some (.int .i64 t.refused)/\W.cell? ⟨rb,16,none⟩=some (.int .i64 t.asked)/\W.cell? ⟨rb,17,none⟩=some (.int .i64 t.givenUp)
theorem LkS.two {PA ma ra PB mb rb:Nat}{s t:Stt}{W:World}(h:LkS PA ma ra s W) (k:LkS PB mb rb t W):LkS2 PA ma ra s PB mb rb t W:=by
 obtain⟨a0,a1,a2,a3,a4,a5,a6,a7,a8,a9,a10,a11,a12⟩:=h
 obtain⟨b0,b1,b2,b3,b4,b5,b6,b7,b8,b9,b10,b11,b12⟩:=k
 exact⟨a0,a1,a2,a3,a4,a5,a6,a7,a8,a9,a10,a11,a12,b0,b1,b2,b3,b4,b5,b6,b7,b8,b9,b10,b11,b12⟩
structure PLS (w:World) (K:Nat) (pb mb rb:Nat->Nat) (g n i p q:Nat) (F:Nat->Nat->Nat) (M:Nat->Md) (R:Nat->Rm) (W:World):Prop where
 p:p<K
 q:q<K
 st:Sta W F K pb mb rb M R g n
 rel:∀k,k<K->Rel i (M k) (R k)
 af:∀b,b<w.heap.size->∀j,F j b=0
 bl:Below w.heap.size w W
section
variable {w W W' : World} {K : Nat} {pb mb rb : Nat -> Nat} {g n i p q : Nat} {F F' : Nat -> Nat -> Nat} {M : Nat -> Md} {R : Nat -> Rm}
theorem PLS.vary (h:PLS w K pb mb rb g n i p q F M R W){M':Nat->Md}{R':Nat->Rm}{n' i':Nat}(hs:Sta W' F' K pb mb rb M' R' g n') (hr:∀k,k<K->Rel i' (M' k) (R' k)) (hv:SMv W F W' F'):PLS w K pb mb rb g n' i' p q F' M' R' W':=
 ⟨h.p,h.q,hs,hr,fun b hb=>hv.1 b (Nat.lt_of_lt_of_le hb h.bl.size) (h.af b hb),h.bl.trans (hv.2.below h.bl.size (fun x ⟨j,e⟩=>Nat.le_of_not_lt fun hx=>e (h.af x hx j)))⟩
theorem PLS.step (h:PLS w K pb mb rb g n i p q F M R W){M1:Md}{R1:Rm}(hs:Sta W' F' K pb mb rb (upd M p M1) (upd R p R1) g (n+2)) (hr:Rel (i+1) M1 R1) (hv:SMv W F W' F'):PLS w K pb mb rb g (n+2) (i+1) p q F' (upd M p M1) (upd R p R1) W':=
 h.vary hs (fun k hk=>by
  unfold upd
  split
  ·exact hr
  ·exact(h.rel k hk).mono (Nat.le_succ _)) hv
theorem PLS.idle (h:PLS w K pb mb rb g n i p q F M R W) (hb:Below W.heap.size W W'):PLS w K pb mb rb g n i p q F M R W':=h.vary (h.st.below hb) h.rel (SMv.below hb)
theorem PLS.up (h:PLS w K pb mb rb g n i p q F M R W):PLS w K pb mb rb g (n+2) (i+1) p q F M R W:=⟨h.p,h.q,h.st.mono (by omega),fun k hk=>(h.rel k hk).mono (Nat.le_succ _),h.af,h.bl⟩
theorem PLS.swap (h:PLS w K pb mb rb g n i p q F M R W):PLS w K pb mb rb g n i q p F M R W:=⟨h.q,h.p,h.st,h.rel,h.af,h.bl⟩
end
def knownC:Cfg:=⟨4,8,10,5,100,20,2⟩
theorem knownC_ok:cfgOk knownC=true:=by decide
end Rl
set_option maxRecDepth 40000 in
theorem plays_any (c:Cfg) (L:List OpD) (sv:Value) (w:World) (hsv:IsOps w.heap.size w sv L) (hL:L.length<=1048576) (hok:∀o∈L,OpOk w.heap.size w o) :
  Calls Tryz.prog 6 #[.agg #[.int .i64 c.ring,.int .i64 c.window,.int .i64 c.delay,.int .i64 c.rate,.int .i64 c.burst,.int .i64 c.retry,.int .i64 c.tries],sv,.int .i64 7] w fun e w'=>e = .returned (.bool true)/\Below w.heap.size w w':=by
 obtain⟨ao,cap,rfl,hcs⟩:=hsv
 have Hcs:=hyd hcs
 have Hok:=hyd hok
 obtain⟨N,hN⟩:∃N,L.length=N:=⟨_,rfl⟩
 have HN:=hyd hN
 rw[hN]at hL ⊢
 clear hcs hok hN
 have hp75:Tryz.prog.stoodInHeld 49=false:=by kernel_rfl
 have hm75:Tryz.prog.eqGuardType Tryz.prog.depth 49=false:=by kernel_rfl
 have HBa:Hid (∀bk,Below w.heap.size w (w.alloc bk)):=fun bk=>(Below.refl _ _).alloc (Nat.le_refl _) bk
 go_enter Tryz.func6,Tryz.ntmps6
 go_wp2_with fail
 refine(begun_any c _).mono ?_
 rintro e w1 ⟨hb1,hc1⟩
 have HB1:Hid (Below w.heap.size w w1):=(HBa.out _).trans (hb1.mono (HBa.out _).size)
 have hz1:w.heap.size<=(w.alloc (.cells #[.int .i64 c.ring,.int .i64 c.window,.int .i64 c.delay,.int .i64 c.rate,.int .i64 c.burst,.int .i64 c.retry,.int .i64 c.tries] 23)).heap.size:=by simp
 generalize w.alloc (.cells #[.int .i64 c.ring,.int .i64 c.window,.int .i64 c.delay,.int .i64 c.rate,.int .i64 c.burst,.int .i64 c.retry,.int .i64 c.tries] 23)=w0 at *
 rcases hc1 with⟨hf1,rfl⟩|⟨hf1,pa,ma,ra,ρa,ρb,rfl,hP1⟩
 ·clear hb1
  go_wp2_with fail
  refine(begun_any knownC _).mono ?_
  rintro e w2 ⟨hb2,⟨hf2,rfl⟩|⟨hf2,p2,m2,r2,ρm,ρr,rfl,hP2⟩⟩
  ·exact absurd (hf2.symm.trans knownC_ok) (by decide)
  have HB2:Hid (Below w.heap.size w w2):=HB1.out.trans (hb2.mono HB1.out.size)
  have HP2:=hyd hP2
  clear hb2 hP2 hf2
  go_wp2
  have HS0:Hid (∃(K:Nat) (pb mb rb:Nat->Nat) (g p q:Nat) (F:Nat->Nat->Nat) (M:Nat->Md) (R:Nat->Rm),w2.heap.size=g/\p2=pb p/\p2=pb q/\PLS w K pb mb rb g 0 0 p q F M R (w2.alloc (.cells #[.slice none 0 0,.slice none 0 0,.slice none 0 0,.slice none 0 0,.slice none 0 0,.slice none 0 0,.int .i64 0] 37))):=by
   refine⟨1,_,_,_,_,0,0,_,_,_,rfl,rfl,rfl,Nat.one_pos,Nat.one_pos,Sta.init1 _ HP2.out,fun k hk=>Rel.new _ knownC_ok,fun b hb j=>?_,HB2.out.alloc HB2.out.size _⟩
   have h1:=HB1.out.size
   have h2:=HB2.out.size
   have hpz:w1.heap.size<=p2:=HP2.out.np
   match j with
   | 0=>
    show newRole _ b=0
    unfold newRole
    exact if_neg (by omega)
   | 1=>exact Decidable.byContradiction fun e=>by have:=(HP2.out.nm b e).1;omega
   | 2=>exact Decidable.byContradiction fun e=>by have:=(HP2.out.nr b e).1;omega
   | _+3=>rfl
  generalize w2.alloc (.cells #[.slice none 0 0,.slice none 0 0,.slice none 0 0,.slice none 0 0,.slice none 0 0,.slice none 0 0,.int .i64 0] 37)=W7 at *
  obtain⟨K,pb,mb,rb,g,p0,q0,F0,M0,R0,hg,e1,e2,hPL⟩:=HS0.out
  rw[hg]
  rw[e2]at e1
  rw[e2]
  have HPL:Hid (PLS w K pb mb rb g 0 0 q0 q0 F0 M0 R0 W7):=⟨hPL.q,hPL.q,hPL.st,hPL.rel,hPL.af,hPL.bl⟩
  clear hPL HS0 HB1 HB2 HP2 HBa e1 e2 hg hf1
  go_loopw [7,8,9,12] (fun s7 s8 s9 s12 wr=>∃(i p q:Nat) (F:Nat->Nat->Nat) (M:Nat->Md) (R:Nat->Rm),i<=N/\s12 = .int .i64 i/\s7 = .pointer (some ⟨pb p,0,none⟩)/\s9 = .pointer (some ⟨pb q,0,none⟩)/\s8 = .bool true/\PLS w K pb mb rb g (2*i) i p q F M R wr) (fun _ _ _ s12 _=>N-(intOf s12).toNat)
  case atStart=>exact⟨0,q0,q0,F0,M0,R0,Nat.zero_le _,rfl,rfl,rfl,rfl,HPL.out⟩
  case round=>
   obtain⟨i,p,q,F,M,R,hi,rfl,rfl,rfl,rfl,hP⟩:=hrel
   have HP:=hyd hP
   clear hP HPL
   by_cases hiN:i<N
   ·have hiN':(i:Int)<N:=by omega
    obtain⟨o,ho⟩:∃o,L[i]? = some o:=⟨_,List.getElem?_eq_getElem (by rw[HN.out];exact hiN)⟩
    obtain⟨sb,off,rfl,hsb,hcl⟩:=Hcs.out i o ho
    have HOk:Hid (OpOk w.heap.size w o):=Hok.out o (List.mem_of_getElem? ho)
    have HCl:Hid (∀j u,(opL o)[j]? = some u->wr.cell? (Addr.add ⟨sb,off+i*30,none⟩ j)=some u):=fun j u hu=>by
     have h1:=(HP.out.bl.cell (p:=⟨sb,off+i*30+j,none⟩) hsb).trans (hcl j u hu)
     rw[show(⟨sb,off+i*30,none⟩:Addr).add j=⟨sb,off+i*30+j,none⟩ by unfold Addr.add;split<;>simp_all]
     exact h1
    clear hcl ho hsb
    go_wp2_with (refine wpList_load_list rfl 45 (.tmp 50) rfl ⟨sb,off+i*30,none⟩ rfl (opKL o.kind o) (by kernel_rfl) (by kernel_rfl) HCl.out ?_;refine stop_here ?_)
    refine hid_in ?_
    go_wp2_with (refine wpList_store_new rfl 45 (.tmp 13) (.tmp 51) rfl wr #[.int .i64 0,.int .i64 0,.string ⟨#[]⟩,.int .i64 0,.int .i64 0,.int .i64 0,.int .i64 0,.int .i64 0,.int .i64 0,.int .i64 0,.int .i64 0,.int .i64 0,.int .i64 0,.int .i64 0,.int .i64 0,.int .i64 0,.bool false,.int .i64 0,.int .i64 0,.int .i64 0,.int .i64 0,.slice none 0 0,.bool false,.int .i64 0,.string ⟨#[]⟩,.string ⟨#[]⟩,.int .i64 0,.int .i64 0,.int .i64 0,.slice none 0 0] (opK o.kind o) rfl rfl rfl (by kernel_rfl) rfl (by kernel_rfl) ?_;refine stop_here ?_)
    refine hid_in ?_
    have hC1:∀j u,((opKL o.kind o):List Value)[j]? = some u->(wr.alloc (.cells (opK o.kind o) 45)).cell? (Addr.add ⟨wr.heap.size,0,none⟩ j)=some u:=cells_new _ (opKL o.kind o) _
    have k0:(wr.alloc (.cells (opK o.kind o) 45)).cell? ⟨wr.heap.size,0,none⟩=some (.int .i64 o.kind):=cell_new _ _ _ 0
    have hBb:Below wr.heap.size wr (wr.alloc (.cells (opK o.kind o) 45)):=(Below.refl _ _).alloc (Nat.le_refl _) _
    have HP1:Hid (PLS w K pb mb rb g (2*i) i p q F M R (wr.alloc (.cells (opK o.kind o) 45))):=HP.out.idle hBb
    have HOk1:Hid (OpOk w.heap.size (wr.alloc (.cells (opK o.kind o) 45)) o):=⟨HOk.out.tx,HOk.out.en,HOk.out.py,HOk.out.cl,HOk.out.cv.carry HP1.out.bl⟩
    have HC1:=hyd hC1
    have hwz:w.heap.size<=(wr.alloc (.cells (opK o.kind o) 45)).heap.size:=HP1.out.bl.size
    clear hBb HP HOk HCl hC1
    generalize wr.alloc (.cells (opK o.kind o) 45)=wb at *
    generalize wr.heap.size=B at *
    by_cases h7:o.kind=7
    ·have h7':(o.kind == 7)=true:=by simp[h7]
     clear h7
     go_wp2_with fail
     refine(st_looks HP1.out.st (by omega)).mono ?_
     rintro e w3 ⟨rfl,s1,s2⟩
     have HP3:Hid (PLS w K pb mb rb g (2*i+2) (i+1) q p F M R w3):=((HP1.out.vary s1 HP1.out.rel s2).up).swap
     clear s1 s2 k0
     go_wp2
     go_roundw
     case rel=>exact⟨i+1,q,p,F,M,R,by omega,by go_num,rfl,rfl,rfl,HP3.out⟩
     case measure=>simp[intOf];omega
    ·have h7':(o.kind == 7)=false:=by rw[beq_eq_false_iff_ne];exact h7
     by_cases h8:o.kind<=7
     ·have h8':decide (o.kind<=7)=true:=decide_eq_true h8
      have h6:o.kind<=6:=by omega
      have hpk:=HP1.out.p
      go_wp2_with (refine wpList_load_list rfl 45 (.tmp 13) rfl ⟨B,0,none⟩ rfl (opKL o.kind o) (by kernel_rfl) (by kernel_rfl) HC1.out ?_;refine stop_here ?_)
      refine hid_in ?_
      go_wp2_with fail
      refine(step_any o w.heap.size HP1.out.st hpk (HP1.out.rel p hpk) (by omega) (by omega) HOk1.out hwz h6).mono ?_
      rintro e w2 ⟨rfl,F2,M1,R1,s1,s2,s3⟩
      have HP2:Hid (PLS w K pb mb rb g (2*i+2) (i+1) p q F2 (upd M p M1) (upd R p R1) w2):=HP1.out.step s1 s2 s3
      clear s1 s2 s3 k0
      go_wp2_with fail
      refine(st_looks HP2.out.st (by omega)).mono ?_
      rintro e w3 ⟨rfl,s1,s2⟩
      have HP3:Hid (PLS w K pb mb rb g (2*i+2) (i+1) p q F2 (upd M p M1) (upd R p R1) w3):=HP2.out.vary s1 HP2.out.rel s2
      clear s1 s2
      go_wp2
      go_roundw
      case rel=>exact⟨i+1,p,q,F2,_,_,by omega,by go_num,rfl,rfl,rfl,HP3.out⟩
      case measure=>simp[intOf];omega
     ·have h8':decide (o.kind<=7)=false:=decide_eq_false h8
      go_wp2_with fail
      refine(st_looks HP1.out.st (by omega)).mono ?_
      rintro e w3 ⟨rfl,s1,s2⟩
      have HP3:Hid (PLS w K pb mb rb g (2*i+2) (i+1) p q F M R w3):=(HP1.out.vary s1 HP1.out.rel s2).up
      clear s1 s2 k0
      go_wp2
      go_roundw
      case rel=>exact⟨i+1,p,q,F,M,R,by omega,by go_num,rfl,rfl,rfl,HP3.out⟩
      case measure=>simp[intOf];omega
   ·have hiN':¬(i:Int)<N:=by omega
    obtain⟨S,hS⟩:∃S,(R p).sds.length=S:=⟨_,rfl⟩
    have HS:=hyd hS
    have hS4:S<=4:=by
     have h1:=HP.out.rel p HP.out.p
     have h2:=h1.sl
     have h3:=h1.s4
     omega
    clear hS
    go_wp2
    generalize wr=wo at *
    go_loopw [8,16] (fun s8 s16 wr=>∃(j:Nat) (F:Nat->Nat->Nat),j<=S/\s16 = .int .i64 j/\s8 = .bool true/\PLS w K pb mb rb g (2*i+2*j) i p q F M R wr) (fun _ s16 _=>S-(intOf s16).toNat)
    case atStart=>exact⟨0,F,Nat.zero_le _,rfl,rfl,HP.out⟩
    case round=>
     obtain⟨j,F3,hj,rfl,rfl,hP⟩:=hrel
     have HP3:=hyd hP
     have hpk:=hP.p
     obtain⟨y0,y1,-⟩:=hP.st.pc p hpk
     unfold ptr at y0 y1
     obtain⟨sv,wv,hR⟩:=hP.st.rd p hpk
     obtain⟨aS,cS,hsv⟩:=rowA_shape hR.sr.1
     have y18:wr.cell? ⟨rb p,18,none⟩=some sv:=hR.k 18 _ rfl
     rw[HS.out]at hsv
     rw[hsv]at y18
     clear hP HP
     by_cases hjS:j<S
     ·have hjS':(j:Int)<S:=by omega
      obtain⟨s,hs⟩:∃s,(R p).sds[j]? = some s:=⟨_,List.getElem?_eq_getElem (by rw[HS.out];exact hjS)⟩
      obtain⟨sg,scap,hsl,x0,-⟩:=hR.sndAt hs
      rw[hsv,HS.out]at hsl
      simp only[Value.slice.injEq,true_and]at hsl
      obtain⟨rfl,rfl⟩:=hsl
      clear hR hs hsv
      go_wp2_with fail
      refine(lmissing_any HP3.out.st hpk (HP3.out.rel p hpk) (by omega) _).mono ?_
      rintro e w4 ⟨rfl,F4,s1,s2⟩
      have HP4:Hid (PLS w K pb mb rb g (2*i+2*j+2) i p q F4 M R w4):=HP3.out.vary s1 HP3.out.rel s2
      clear s1 s2 y0 y1 y18 x0
      go_wp2
      go_roundw
      case rel=>exact⟨j+1,F4,by omega,by go_num,rfl,HP4.out⟩
      case measure=>simp[intOf];omega
     ·have hjS':¬(j:Int)<S:=by omega
      have hqk:=HP3.out.q
      have es:=(HP3.out.rel p hpk).s
      have et:=(HP3.out.rel q hqk).s
      have Hes:=hyd es
      have Het:=hyd et
      have hS1:LkS2 (pb p) (mb p) (rb p) (R p).s (pb q) (mb q) (rb q) (R q).s wr:=(HP3.out.st.lk hpk).two (HP3.out.st.lk hqk)
      clear hR hsv es et
      go_wp2
      clear y0 y1 y18
      refine wp_region_noPanic ?_
      refine wp_region_held_drew (S:=LkS2 (pb p) (mb p) (rb p) (R p).s (pb q) (mb q) (rb q) (R q).s) (by kernel_rfl) hS1 (fun zH=>?_)
      refine tka 0 ?_
      refine tka 1 ?_
      refine tka 2 ?_
      refine tka 3 ?_
      refine tka 5 ?_
      refine tka 6 ?_
      refine tka 7 ?_
      refine tka 8 ?_
      refine tka 9 ?_
      refine tka 10 ?_
      refine tka 11 ?_
      refine rd1 4 fun K' hK=>?_
      go_simp
      refine(st_look (by first|exact HP3.out.st|exact HP3.out.st.below (Below.refl _ _).drew) hpk).mono ?_
      rintro e w5 ⟨rfl,hb5⟩
      have hB5:Below wr.heap.size wr w5:=by first|exact hb5|exact(Below.refl _ _).drew.trans (hb5.mono (by simp))
      have HP5:Hid (PLS w K pb mb rb g (2*i+2*j) i p q F3 M R w5):=HP3.out.idle hB5
      have hS5:LkS2 (pb p) (mb p) (rb p) (R p).s (pb q) (mb q) (rb q) (R q).s w5:=(HP5.out.st.lk hpk).two (HP5.out.st.lk hqk)
      rw[Hes.out]
      unfold sttA
      clear hb5 hB5
      go_simp
      refine hK.out _ _ hS5 (fun zH=>?_)
      clear hK K' hS1
      refine tka 12 ?_
      refine tka 13 ?_
      refine tka 14 ?_
      refine tka 15 ?_
      refine tka 16 ?_
      refine tka 17 ?_
      refine tka 19 ?_
      refine tka 20 ?_
      refine tka 21 ?_
      refine tka 22 ?_
      refine tka 23 ?_
      refine tka 24 ?_
      refine tka 25 ?_
      refine rd1 18 fun K' hK=>?_
      go_simp
      refine(st_look (by first|exact HP5.out.st|exact HP5.out.st.below (Below.refl _ _).drew) hqk).mono ?_
      rintro e w6 ⟨rfl,hb6⟩
      have hB6:Below w5.heap.size w5 w6:=by first|exact hb6|exact(Below.refl _ _).drew.trans (hb6.mono (by simp))
      have HP6:Hid (PLS w K pb mb rb g (2*i+2*j) i p q F3 M R w6):=HP5.out.idle hB6
      have hS6:LkS2 (pb p) (mb p) (rb p) (R p).s (pb q) (mb q) (rb q) (R q).s w6:=(HP6.out.st.lk hpk).two (HP6.out.st.lk hqk)
      rw[Het.out]
      unfold sttA
      clear hb6 hB6
      go_simp
      refine hK.out _ _ hS6 (fun zH=>?_)
      clear hK K' hS5
      refine tka 26 ?_
      refine tka 27 ?_
      refine tka 28 ?_
      refine doN ?_
      clear zH hS6
      go_wp2
      go_ret
      exact⟨rfl,HP6.out.bl⟩
 ·have HP1:Hid (PrN w0 w1 pa ma ra ρa ρb c):=hP1
  have Hf1:=hyd hf1
  clear hb1 hP1 hf1
  go_wp2_with fail
  refine(begun_any knownC _).mono ?_
  rintro e w2 ⟨hb2,⟨hf2,rfl⟩|⟨hf2,p2,m2,r2,ρm,ρr,rfl,hP2⟩⟩
  ·exact absurd (hf2.symm.trans knownC_ok) (by decide)
  have HB2:Hid (Below w.heap.size w w2):=HB1.out.trans (hb2.mono HB1.out.size)
  have HV:=hyd hb2
  have HP2:=hyd hP2
  clear hb2 hP2 hf2
  go_wp2
  have HS0:Hid (∃(K:Nat) (pb mb rb:Nat->Nat) (g p q:Nat) (F:Nat->Nat->Nat) (M:Nat->Md) (R:Nat->Rm),w2.heap.size=g/\pa=pb p/\p2=pb q/\PLS w K pb mb rb g 0 0 p q F M R (w2.alloc (.cells #[.slice none 0 0,.slice none 0 0,.slice none 0 0,.slice none 0 0,.slice none 0 0,.slice none 0 0,.int .i64 0] 37))):=by
   refine⟨2,_,_,_,_,0,1,_,_,_,rfl,rfl,rfl,Nat.two_pos,by omega,Sta.init2 _ HP1.out HV.out HP2.out,fun k hk=>?_,fun b hb j=>?_,HB2.out.alloc HB2.out.size _⟩
   ·rcases(by omega:k=0\/k=1)with rfl|rfl
    ·exact Rel.new _ Hf1.out
    ·exact Rel.new _ knownC_ok
   have h1:=HB1.out.size
   have h2:=HB2.out.size
   match j with
   | 0=>
    show newRole _ b=0
    unfold newRole
    exact if_neg (by omega)
   | 1=>exact Decidable.byContradiction fun e=>by have:=(HP1.out.nm b e).1;omega
   | 2=>exact Decidable.byContradiction fun e=>by have:=(HP1.out.nr b e).1;omega
   | 3=>exact Decidable.byContradiction fun e=>by have:=(HP2.out.nm b e).1;omega
   | 4=>exact Decidable.byContradiction fun e=>by have:=(HP2.out.nr b e).1;omega
   | _+5=>rfl
  generalize w2.alloc (.cells #[.slice none 0 0,.slice none 0 0,.slice none 0 0,.slice none 0 0,.slice none 0 0,.slice none 0 0,.int .i64 0] 37)=W7 at *
  obtain⟨K,pb,mb,rb,g,p0,q0,F0,M0,R0,hg,e1,e2,hPL⟩:=HS0.out
  rw[hg,e1,e2]
  have HPL:=hyd hPL
  clear hPL HS0 HB1 HB2 HP1 HP2 HV HBa e1 e2 hg Hf1
  go_loopw [7,8,9,12] (fun s7 s8 s9 s12 wr=>∃(i p q:Nat) (F:Nat->Nat->Nat) (M:Nat->Md) (R:Nat->Rm),i<=N/\s12 = .int .i64 i/\s7 = .pointer (some ⟨pb p,0,none⟩)/\s9 = .pointer (some ⟨pb q,0,none⟩)/\s8 = .bool true/\PLS w K pb mb rb g (2*i) i p q F M R wr) (fun _ _ _ s12 _=>N-(intOf s12).toNat)
  case atStart=>exact⟨0,p0,q0,F0,M0,R0,Nat.zero_le _,rfl,rfl,rfl,rfl,HPL.out⟩
  case round=>
   obtain⟨i,p,q,F,M,R,hi,rfl,rfl,rfl,rfl,hP⟩:=hrel
   have HP:=hyd hP
   clear hP HPL
   by_cases hiN:i<N
   ·have hiN':(i:Int)<N:=by omega
    obtain⟨o,ho⟩:∃o,L[i]? = some o:=⟨_,List.getElem?_eq_getElem (by rw[HN.out];exact hiN)⟩
    obtain⟨sb,off,rfl,hsb,hcl⟩:=Hcs.out i o ho
    have HOk:Hid (OpOk w.heap.size w o):=Hok.out o (List.mem_of_getElem? ho)
    have HCl:Hid (∀j u,(opL o)[j]? = some u->wr.cell? (Addr.add ⟨sb,off+i*30,none⟩ j)=some u):=fun j u hu=>by
     have h1:=(HP.out.bl.cell (p:=⟨sb,off+i*30+j,none⟩) hsb).trans (hcl j u hu)
     rw[show(⟨sb,off+i*30,none⟩:Addr).add j=⟨sb,off+i*30+j,none⟩ by unfold Addr.add;split<;>simp_all]
     exact h1
    clear hcl ho hsb
    go_wp2_with (refine wpList_load_list rfl 45 (.tmp 50) rfl ⟨sb,off+i*30,none⟩ rfl (opKL o.kind o) (by kernel_rfl) (by kernel_rfl) HCl.out ?_;refine stop_here ?_)
    refine hid_in ?_
    go_wp2_with (refine wpList_store_new rfl 45 (.tmp 13) (.tmp 51) rfl wr #[.int .i64 0,.int .i64 0,.string ⟨#[]⟩,.int .i64 0,.int .i64 0,.int .i64 0,.int .i64 0,.int .i64 0,.int .i64 0,.int .i64 0,.int .i64 0,.int .i64 0,.int .i64 0,.int .i64 0,.int .i64 0,.int .i64 0,.bool false,.int .i64 0,.int .i64 0,.int .i64 0,.int .i64 0,.slice none 0 0,.bool false,.int .i64 0,.string ⟨#[]⟩,.string ⟨#[]⟩,.int .i64 0,.int .i64 0,.int .i64 0,.slice none 0 0] (opK o.kind o) rfl rfl rfl (by kernel_rfl) rfl (by kernel_rfl) ?_;refine stop_here ?_)
    refine hid_in ?_
    have hC1:∀j u,((opKL o.kind o):List Value)[j]? = some u->(wr.alloc (.cells (opK o.kind o) 45)).cell? (Addr.add ⟨wr.heap.size,0,none⟩ j)=some u:=cells_new _ (opKL o.kind o) _
    have k0:(wr.alloc (.cells (opK o.kind o) 45)).cell? ⟨wr.heap.size,0,none⟩=some (.int .i64 o.kind):=cell_new _ _ _ 0
    have hBb:Below wr.heap.size wr (wr.alloc (.cells (opK o.kind o) 45)):=(Below.refl _ _).alloc (Nat.le_refl _) _
    have HP1:Hid (PLS w K pb mb rb g (2*i) i p q F M R (wr.alloc (.cells (opK o.kind o) 45))):=HP.out.idle hBb
    have HOk1:Hid (OpOk w.heap.size (wr.alloc (.cells (opK o.kind o) 45)) o):=⟨HOk.out.tx,HOk.out.en,HOk.out.py,HOk.out.cl,HOk.out.cv.carry HP1.out.bl⟩
    have HC1:=hyd hC1
    have hwz:w.heap.size<=(wr.alloc (.cells (opK o.kind o) 45)).heap.size:=HP1.out.bl.size
    clear hBb HP HOk HCl hC1
    generalize wr.alloc (.cells (opK o.kind o) 45)=wb at *
    generalize wr.heap.size=B at *
    by_cases h7:o.kind=7
    ·have h7':(o.kind == 7)=true:=by simp[h7]
     clear h7
     go_wp2_with fail
     refine(st_looks HP1.out.st (by omega)).mono ?_
     rintro e w3 ⟨rfl,s1,s2⟩
     have HP3:Hid (PLS w K pb mb rb g (2*i+2) (i+1) q p F M R w3):=((HP1.out.vary s1 HP1.out.rel s2).up).swap
     clear s1 s2 k0
     go_wp2
     go_roundw
     case rel=>exact⟨i+1,q,p,F,M,R,by omega,by go_num,rfl,rfl,rfl,HP3.out⟩
     case measure=>simp[intOf];omega
    ·have h7':(o.kind == 7)=false:=by rw[beq_eq_false_iff_ne];exact h7
     by_cases h8:o.kind<=7
     ·have h8':decide (o.kind<=7)=true:=decide_eq_true h8
      have h6:o.kind<=6:=by omega
      have hpk:=HP1.out.p
      go_wp2_with (refine wpList_load_list rfl 45 (.tmp 13) rfl ⟨B,0,none⟩ rfl (opKL o.kind o) (by kernel_rfl) (by kernel_rfl) HC1.out ?_;refine stop_here ?_)
      refine hid_in ?_
      go_wp2_with fail
      refine(step_any o w.heap.size HP1.out.st hpk (HP1.out.rel p hpk) (by omega) (by omega) HOk1.out hwz h6).mono ?_
      rintro e w2 ⟨rfl,F2,M1,R1,s1,s2,s3⟩
      have HP2:Hid (PLS w K pb mb rb g (2*i+2) (i+1) p q F2 (upd M p M1) (upd R p R1) w2):=HP1.out.step s1 s2 s3
      clear s1 s2 s3 k0
      go_wp2_with fail
      refine(st_looks HP2.out.st (by omega)).mono ?_
      rintro e w3 ⟨rfl,s1,s2⟩
      have HP3:Hid (PLS w K pb mb rb g (2*i+2) (i+1) p q F2 (upd M p M1) (upd R p R1) w3):=HP2.out.vary s1 HP2.out.rel s2
      clear s1 s2
      go_wp2
      go_roundw
      case rel=>exact⟨i+1,p,q,F2,_,_,by omega,by go_num,rfl,rfl,rfl,HP3.out⟩
      case measure=>simp[intOf];omega
     ·have h8':decide (o.kind<=7)=false:=decide_eq_false h8
      go_wp2_with fail
      refine(st_looks HP1.out.st (by omega)).mono ?_
      rintro e w3 ⟨rfl,s1,s2⟩
      have HP3:Hid (PLS w K pb mb rb g (2*i+2) (i+1) p q F M R w3):=(HP1.out.vary s1 HP1.out.rel s2).up
      clear s1 s2 k0
      go_wp2
      go_roundw
      case rel=>exact⟨i+1,p,q,F,M,R,by omega,by go_num,rfl,rfl,rfl,HP3.out⟩
      case measure=>simp[intOf];omega
   ·have hiN':¬(i:Int)<N:=by omega
    obtain⟨S,hS⟩:∃S,(R p).sds.length=S:=⟨_,rfl⟩
    have HS:=hyd hS
    have hS4:S<=4:=by
     have h1:=HP.out.rel p HP.out.p
     have h2:=h1.sl
     have h3:=h1.s4
     omega
    clear hS
    go_wp2
    generalize wr=wo at *
    go_loopw [8,16] (fun s8 s16 wr=>∃(j:Nat) (F:Nat->Nat->Nat),j<=S/\s16 = .int .i64 j/\s8 = .bool true/\PLS w K pb mb rb g (2*i+2*j) i p q F M R wr) (fun _ s16 _=>S-(intOf s16).toNat)
    case atStart=>exact⟨0,F,Nat.zero_le _,rfl,rfl,HP.out⟩
    case round=>
     obtain⟨j,F3,hj,rfl,rfl,hP⟩:=hrel
     have HP3:=hyd hP
     have hpk:=hP.p
     obtain⟨y0,y1,-⟩:=hP.st.pc p hpk
     unfold ptr at y0 y1
     obtain⟨sv,wv,hR⟩:=hP.st.rd p hpk
     obtain⟨aS,cS,hsv⟩:=rowA_shape hR.sr.1
     have y18:wr.cell? ⟨rb p,18,none⟩=some sv:=hR.k 18 _ rfl
     rw[HS.out]at hsv
     rw[hsv]at y18
     clear hP HP
     by_cases hjS:j<S
     ·have hjS':(j:Int)<S:=by omega
      obtain⟨s,hs⟩:∃s,(R p).sds[j]? = some s:=⟨_,List.getElem?_eq_getElem (by rw[HS.out];exact hjS)⟩
      obtain⟨sg,scap,hsl,x0,-⟩:=hR.sndAt hs
      rw[hsv,HS.out]at hsl
      simp only[Value.slice.injEq,true_and]at hsl
      obtain⟨rfl,rfl⟩:=hsl
      clear hR hs hsv
      go_wp2_with fail
      refine(lmissing_any HP3.out.st hpk (HP3.out.rel p hpk) (by omega) _).mono ?_
      rintro e w4 ⟨rfl,F4,s1,s2⟩
      have HP4:Hid (PLS w K pb mb rb g (2*i+2*j+2) i p q F4 M R w4):=HP3.out.vary s1 HP3.out.rel s2
      clear s1 s2 y0 y1 y18 x0
      go_wp2
      go_roundw
      case rel=>exact⟨j+1,F4,by omega,by go_num,rfl,HP4.out⟩
      case measure=>simp[intOf];omega
     ·have hjS':¬(j:Int)<S:=by omega
      have hqk:=HP3.out.q
      have es:=(HP3.out.rel p hpk).s
      have et:=(HP3.out.rel q hqk).s
      have Hes:=hyd es
      have Het:=hyd et
      have hS1:LkS2 (pb p) (mb p) (rb p) (R p).s (pb q) (mb q) (rb q) (R q).s wr:=(HP3.out.st.lk hpk).two (HP3.out.st.lk hqk)
      clear hR hsv es et
      go_wp2
      clear y0 y1 y18
      refine wp_region_noPanic ?_
      refine wp_region_held_drew (S:=LkS2 (pb p) (mb p) (rb p) (R p).s (pb q) (mb q) (rb q) (R q).s) (by kernel_rfl) hS1 (fun zH=>?_)
      refine tka 0 ?_
      refine tka 1 ?_
      refine tka 2 ?_
      refine tka 3 ?_
      refine tka 5 ?_
      refine tka 6 ?_
      refine tka 7 ?_
      refine tka 8 ?_
      refine tka 9 ?_
      refine tka 10 ?_
      refine tka 11 ?_
      refine rd1 4 fun K' hK=>?_
      go_simp
      refine(st_look (by first|exact HP3.out.st|exact HP3.out.st.below (Below.refl _ _).drew) hpk).mono ?_
      rintro e w5 ⟨rfl,hb5⟩
      have hB5:Below wr.heap.size wr w5:=by first|exact hb5|exact(Below.refl _ _).drew.trans (hb5.mono (by simp))
      have HP5:Hid (PLS w K pb mb rb g (2*i+2*j) i p q F3 M R w5):=HP3.out.idle hB5
      have hS5:LkS2 (pb p) (mb p) (rb p) (R p).s (pb q) (mb q) (rb q) (R q).s w5:=(HP5.out.st.lk hpk).two (HP5.out.st.lk hqk)
      rw[Hes.out]
      unfold sttA
      clear hb5 hB5
      go_simp
      refine hK.out _ _ hS5 (fun zH=>?_)
      clear hK K' hS1
      refine tka 12 ?_
      refine tka 13 ?_
      refine tka 14 ?_
      refine tka 15 ?_
      refine tka 16 ?_
      refine tka 17 ?_
      refine tka 19 ?_
      refine tka 20 ?_
      refine tka 21 ?_
      refine tka 22 ?_
      refine tka 23 ?_
      refine tka 24 ?_
      refine tka 25 ?_
      refine rd1 18 fun K' hK=>?_
      go_simp
      refine(st_look (by first|exact HP5.out.st|exact HP5.out.st.below (Below.refl _ _).drew) hqk).mono ?_
      rintro e w6 ⟨rfl,hb6⟩
      have hB6:Below w5.heap.size w5 w6:=by first|exact hb6|exact(Below.refl _ _).drew.trans (hb6.mono (by simp))
      have HP6:Hid (PLS w K pb mb rb g (2*i+2*j) i p q F3 M R w6):=HP5.out.idle hB6
      have hS6:LkS2 (pb p) (mb p) (rb p) (R p).s (pb q) (mb q) (rb q) (R q).s w6:=(HP6.out.st.lk hpk).two (HP6.out.st.lk hqk)
      rw[Het.out]
      unfold sttA
      clear hb6 hB6
      go_simp
      refine hK.out _ _ hS6 (fun zH=>?_)
      clear hK K' hS5
      refine tka 26 ?_
      refine tka 27 ?_
      refine tka 28 ?_
      refine doN ?_
      clear zH hS6
      go_wp2
      go_ret
      exact⟨rfl,HP6.out.bl⟩
end Go.Proofs.YtdjhhnolcafkiaaGreat
