import Derived.Test.YtdjhhnolcafkiaaGreatG05
import Derived.Test.YtdjhhnolcafkiaaGreatG01
import Derived.Test.YtdjhhnolcafkiaaGreatG02
import Derived.Test.YtdjhhnolcafkiaaGreatG04
set_option linter.unusedVariables false
set_option linter.unusedSimpArgs false
set_option maxHeartbeats 40000000
set_option maxRecDepth 20000
namespace Go.Proofs.YtdjhhnolcafkiaaGreat
open Go.RowKit
namespace Pk
def rShift (x:Rw) (nu:Int):Int:=if x.all.length=0 then x.pl.first-nu else x.shift
def rPassX (x:Rw) (p:PP):PP:={ p with so:=x.pl.source,ty:=x.pl.ty,nu:=(p.nu+rShift x p.nu)%65536 }
def rPassW (x:Rw) (p:PP) (cv av:Value):Rw:={ x with shift:=rShift x p.nu,av:=av,all:=x.all++[⟨rPassX x p,cv,-1⟩] }
def RPass (p:PP) (cv:Value) (R:Rm) (k:Nat) (R':Rm) (out:List ByteArray):Prop:=
 ∀C:Nat->Rm->List ByteArray->Prop,C 0 R []->(∀(k:Nat) (R':Rm) (out:List ByteArray) (x:Rw),C k R' out->R'.wns[k]? = some x->x.of_≠p.so->C (k+1) R' out)->(∀(k:Nat) (R':Rm) (out:List ByteArray) (x:Rw) (av:Value),C k R' out->R'.wns[k]? = some x->x.of_=p.so->C (k+1) { R' with wns:=R'.wns.set k (rPassW x p cv av) } (out++[(tellX (rPassX x p)).1]))->C k R' out
theorem RPass.zero {p:PP}{cv:Value}{R:Rm}:RPass p cv R 0 R []:=fun _ z _ _=>z
theorem RPass.skip {p:PP}{cv:Value}{R:Rm}{k:Nat}{R':Rm}{out:List ByteArray}{x:Rw}(h:RPass p cv R k R' out) (a:R'.wns[k]? = some x) (b:x.of_≠p.so):RPass p cv R (k+1) R' out:=fun C z s q=>s _ _ _ _ (h C z s q) a b
theorem RPass.pass {p:PP}{cv:Value}{R:Rm}{k:Nat}{R':Rm}{out:List ByteArray}{x:Rw}(av:Value) (h:RPass p cv R k R' out) (a:R'.wns[k]? = some x) (b:x.of_=p.so):RPass p cv R (k+1) { R' with wns:=R'.wns.set k (rPassW x p cv av) } (out++[(tellX (rPassX x p)).1]):=fun C z s q=>q _ _ _ _ av (h C z s q) a b
theorem RPass.ind {p:PP}{cv:Value}{R:Rm}{motive:(k:Nat)->(R':Rm)->(out:List ByteArray)->RPass p cv R k R' out->Prop}(zero:motive 0 R [] .zero)
  (skip:∀{k:Nat}{R':Rm}{out:List ByteArray}{x:Rw}(h:RPass p cv R k R' out) (a:R'.wns[k]? = some x) (b:x.of_≠p.so),motive k R' out h->motive (k+1) R' out (.skip h a b))
  (pass:∀{k:Nat}{R':Rm}{out:List ByteArray}{x:Rw}(av:Value) (h:RPass p cv R k R' out) (a:R'.wns[k]? = some x) (b:x.of_=p.so),motive k R' out h->motive (k+1) { R' with wns:=R'.wns.set k (rPassW x p cv av) } (out++[(tellX (rPassX x p)).1]) (.pass av h a b))
  {k:Nat}{R':Rm}{out:List ByteArray}(h:RPass p cv R k R' out):motive k R' out h:=by
 obtain⟨_,e⟩:=h (fun k R' out=>∃g:RPass p cv R k R' out,motive k R' out g) ⟨.zero,zero⟩ (fun _ _ _ _ g a b=>⟨.skip g.1 a b,skip g.1 a b g.2⟩) (fun _ _ _ _ av g a b=>⟨.pass av g.1 a b,pass av g.1 a b g.2⟩)
 exact e
theorem RPass.keeps {p:PP}{cv:Value}{R:Rm}{k:Nat}{R':Rm}{out:List ByteArray}(h:RPass p cv R k R' out):R'.c=R.c/\R'.s=R.s/\R'.sds=R.sds/\R'.ids=R.ids/\R'.wns.length=R.wns.length/\out.length<=k:=by
 induction h using RPass.ind with
 | zero=>exact⟨rfl,rfl,rfl,rfl,rfl,Nat.le_refl _⟩
 | skip _ _ _ ih=>exact⟨ih.1,ih.2.1,ih.2.2.1,ih.2.2.2.1,ih.2.2.2.2.1,by have:=ih.2.2.2.2.2;omega⟩
 | pass av _ _ _ ih=>exact⟨ih.1,ih.2.1,ih.2.2.1,ih.2.2.2.1,by simp only[List.length_set];exact ih.2.2.2.2.1,by rw[List.length_append];have:=ih.2.2.2.2.2;simp;omega⟩
theorem RPass.rest {p:PP}{cv:Value}{R:Rm}{k:Nat}{R':Rm}{out:List ByteArray}(h:RPass p cv R k R' out):∀j,k<=j->R'.wns[j]? = R.wns[j]?:=by
 induction h using RPass.ind with
 | zero=>exact fun _ _=>rfl
 | skip _ _ _ ih=>exact fun j hj=>ih j (by omega)
 | pass av _ _ _ ih=>
  intro j hj
  simp only
  rw[List.getElem?_set_ne (by omega)]
  exact ih j (by omega)
section
variable {w W : World} {ρ : Nat -> Nat} {rb : Nat} {R : Rm} {sv wv cv : Value}
theorem RdAt.give4 (h:RdAt w ρ rb R sv wv) (hz:∀b,cv.ownBlock=some b->ρ b=0/\b<w.heap.size):RdAt w (role cv 4 ρ) rb R sv wv:=by
 have hk:∀b,b<w.heap.size->ρ b≠0->role cv 4 ρ b=ρ b:=fun b _ e0=>role_out (fun e=>e0 (hz b e).1)
 have hc:Chg (fun _=>False) w w:=Chg.refl _ _
 obtain⟨k1,k2⟩:=h.cells hc (fun e=>e)
 refine h.make hc hk (fun b hb=>?_) k1 k2 (h.sr.keep hc (fun _ e=>e.elim) (fun b hb e=>(hk b hb (by omega)).trans e)) (h.wr.keep hc (fun _ e=>e.elim) (fun b hb e=>(hk b hb (by omega)).trans e)) (fun i s hs=>.inl ⟨s,hs,rfl,rfl,fun _ e=>e.elim⟩) (fun i x hx=>.inl ⟨i,x,hx,rfl,rfl,rfl,fun _ e=>e.elim⟩) (fun _ e=>e.elim) h.ids h.s4 h.w8
 rw[role_out (fun e=>by have:=(hz b e).2;omega)]
 exact h.hi b hb
theorem RdAt.pass {g cap i:Nat}{x:Rw}{p:PP}{av':Value}{W2:World}(h:RdAt w ρ rb R sv (.slice (some ⟨g,0,none⟩) R.wns.length cap)) (hx:R.wns[i]? = some x)
  (m:RMid w ρ rb { R with wns:=R.wns.set i { x with shift:=rShift x p.nu } } sv (.slice (some ⟨g,0,none⟩) R.wns.length cap) (fun b=>ρ b=1000+x.id.toNat\/ρ b=1\/ρ b=3) W2)
  (hr:W2.ownsRow 0 152 12 av' (x.all.length+1) ((x.all++[(⟨rPassX x p,cv,-1⟩:Re)]).flatMap cRe)) (ho:∀b,av'.ownBlock=some b->ρ b=1000+x.id.toNat\/w.heap.size<=b) (hcv:IsC (fun b=>ρ b=4) w cv p.cl) :
  RdAt (W2.setCell ⟨g,i*11+8,none⟩ av') (role av' (1000+x.id.toNat) ρ) rb { R with wns:=R.wns.set i (rPassW x p cv av') } sv (.slice (some ⟨g,0,none⟩) R.wns.length cap)/\RMv w ρ (W2.setCell ⟨g,i*11+8,none⟩ av') (role av' (1000+x.id.toNat) ρ):=by
 have hil:i<R.wns.length:=(List.getElem?_eq_some_iff.1 hx).1
 have hg3:ρ g=3:=h.wr.2 g rfl
 have hgl:g<w.heap.size:=(h.wr.1.lt g rfl).2
 have hset:=m.setW (i:=i) (g:=g) (cap:=cap) h.rm (by simp only[List.length_set]) (.inl (.inr (.inr hg3))) (by simp only[List.length_set];exact hil) 8 (by omega) av' (rPassW x p cv av') (by simp only[List.getElem_set_self];rfl)
 simp only[List.set_set]at hset
 have hρ:∀b,b<w.heap.size->role av' (1000+x.id.toNat) ρ b=ρ b:=fun b hb=>by
  by_cases e:av'.ownBlock=some b
  ·rcases ho b e with o|o
   ·rw[role_in e,o]
   ·omega
  ·exact role_out e
 refine RMid.endW (x:=x) (x':=rPassW x p cv av') h hset (fun b e=>e) hx rfl rfl rfl hρ (fun b hb=>?_) ⟨?_,fun b e=>role_in e⟩ (fun e he=>?_)
 ·have hs:=hset.c.size
  have hs2:(W2.setCell ⟨g,i*11+8,none⟩ av').heap.size=W2.heap.size:=World.size_setCell _ _ _
  rw[role_out (fun e=>by have:=(hr.lt b e).2;omega)]
  exact h.hi b (by omega)
 ·have hl:(rPassW x p cv av').all.length=x.all.length+1:=by unfold rPassW;simp
  rw[hl]
  refine rowA_chg ((Chg.refl (fun b=>b=g) _).setCell ⟨g,i*11+8,none⟩ (.inl rfl) _) hr (fun b e e'=>?_)
  rcases ho b e with o|o
  ·rw[e',hg3]at o;omega
  ·omega
 ·have hC:IsC (fun b=>ρ b=4) w e.cv e.x.cl:=by
   rcases List.mem_append.1 he with h1|h1
   ·exact(h.al i x hx).2 e h1
   ·simp at h1
    subst h1
    exact hcv
  refine((hC.mono (C':=fun b=>ρ b=4/\role av' (1000+x.id.toNat) ρ b=4) (fun b hb e4=>⟨e4,(hρ b hb).trans e4⟩)).chg hset.c (fun b hb e'=>?_)).mono (fun _ _ e4=>e4.2)
  rcases e' with e'|e'|e'<;>omega
end
def RPk (R:Rm) (t:ByteArray) (cw:Nat) (R':Rm) (out:List ByteArray) (e:Int):Prop:=
 match readP t with
 | none=>R'={ R with s:={ R.s with wrong:=R.s.wrong+1 } }/\out=[]/\e=1
 | some p=>
  match rsPos R p.so with
  | none=>R'={ R with s:={ R.s with unknown:=R.s.unknown+1 } }/\out=[]/\e=4
  | some i=>
   match R.sds[i]? with
   | none=>False
   | some s=>∃gv,if(rComes R i s p.nu cw gv).2=false then R'=(rComes R i s p.nu cw gv).1/\out=[]/\e=0
    else ∃cv,RPass p cv { (rComes R i s p.nu cw gv).1 with s:={ (rComes R i s p.nu cw gv).1.s with passed:=(rComes R i s p.nu cw gv).1.s.passed+1 } } R.wns.length R' out/\e=0
theorem rComes_keeps (R:Rm) (i:Nat) (s:Rs) (n:Int) (cw:Nat) (gv:Value):(rComes R i s n cw gv).1.c=R.c/\(rComes R i s n cw gv).1.wns=R.wns/\(rComes R i s n cw gv).1.ids=R.ids/\(rComes R i s n cw gv).1.s.passed=R.s.passed:=by
 unfold rComes
 split
 ·exact⟨rfl,rfl,rfl,rfl⟩
 ·split
  ·exact⟨rfl,rfl,rfl,rfl⟩
  ·split
   ·exact⟨rfl,rfl,rfl,rfl⟩
   ·split<;>exact⟨rfl,rfl,rfl,rfl⟩
end Pk
end Go.Proofs.YtdjhhnolcafkiaaGreat
namespace Go.Proofs.YtdjhhnolcafkiaaGreat
open Go.RowKit Pk
theorem read_ext (s:ByteArray) (w:World) (hs:12<=s.size) (hs2:s.size<=1500) (hm:(B0 s).toNat/64=2) (hat:at0 s<=s.size) (hx:(B0 s).toNat/16%2=1) :
  Calls Tryz.prog 72 #[.string s] w fun e w'=>Below w.heap.size w w'/\ReadAs (readP s) w.heap.size e w':=by
 have hi:(12:Int)<=s.size:=by omega
 have hi2:(s.size:Int)<=1500:=by omega
 have i0:(0:Int)<s.size:=by omega
 have hbad:bad1 s=false:=by unfold bad1;exact decide_eq_false (by omega)
 have HP:Hid (readP s=(extPart s).bind fun x=>(padPart s x.2.2).map fun y=>mkP s x y):=readP_of s hbad hat
 clear hbad
 have j0:∀W:World,(Instr.index 9 (.string s) (.int .i64 0)).run Tryz.prog W = .ok (.int .u8 ((B0 s).toNat:Int)) W:=fun W=>by
  rw[run_index_string W 9 s .i64 0 Tryz.underlying9,dif_pos ⟨by omega,i0⟩,<-get0 s (by omega)];rfl
 have hb:=(B0 s).toNat_lt
 have hne:(((B0 s).toNat:Int)/64 != 2)=false:=by rw[bne_eq_false_iff_eq];omega
 have e15:IntKind.i64.wrap (bits .and .u8 ((B0 s).toNat:Int) 15)=((B0 s).toNat:Int)%16:=by rw[low4];exact(wrapI64 _ (by omega) (by omega)).trans (by omega)
 obtain⟨A,hA⟩:∃A,A=at0 s:=⟨_,rfl⟩
 have HA:=hyd hA
 have hA1:(12+4*(((B0 s).toNat:Int)%16))=(A:Int):=by rw[hA];unfold at0;omega
 have hA2:A<=s.size:=by rw[hA];exact hat
 have hA3:12<=A:=by rw[hA];unfold at0;omega
 clear hm hat hA
 go_enter Tryz.func72,Tryz.ntmps72
 go_wp2
 refine wp_scope_fwd 0 rfl ?_
 go_wp2_with fail
 refine(readHead_any s _ hs hs2).mono ?_
 rintro e w1 ⟨rfl,hb1⟩
 rw[get0 s (by omega),get1 s (by omega)]
 have hSt0:=St.init w 41
 have hSt1:=hSt0.below hb1
 have hSt:=hSt1
 obtain⟨bel,siz,r0,r1,r2,r3,r4,r5,r6,r7,r8,r9,r10,y0,y1,y2,y3,y4,y5,y6,y7,y8,y9,y10,fr,fy⟩:=hSt1
 clear hb1 hSt0
 go_wp2_with fail
 clear bel siz r0 r1 r2 r3 r4 r5 r6 r7 r8 r9 r10 y0 y1 y2 y3 y4 y5 y6 y7 y8 y9 y10 fr fy
 refine(readWords_any _ _ (by simp only[ByteArray.size_extract];omega)).mono ?_
 rintro e w2 ⟨v,rfl,hown,hb2⟩
 have hSt2:=(((((((((((hSt.set0 _).set1 _).set2 _).set3 _).set4 _).set5 _).set6 _).set7 _).set8 _).set9 _).set10 _).below hb2
 have hown2:=hown.mono (base':=w.heap.size+2) (by have:=hSt.siz;simp;omega)
 clear hown hb2 hSt
 obtain⟨ao,cap,rfl⟩:=hown2.shape
 have Hown:=hyd hown2
 clear hown2
 generalize hcl:words (s.extract 12 A).data.toList=cl at *
 have Hcl:=hyd hcl
 clear hcl
 have hSt:=hSt2
 obtain⟨bel,siz,r0,r1,r2,r3,r4,r5,r6,r7,r8,r9,r10,y0,y1,y2,y3,y4,y5,y6,y7,y8,y9,y10,fr,fy⟩:=hSt2
 clear w1
 have hxd:decide ((B0 s).toNat/16%2=1)=true:=decide_eq_true hx
 have HE:Hid (extPart s=if s.size-A<4 then none else if s.size-(A+4)<4*num (s.extract (A+2) (A+4)).data.toList then none else some (num (s.extract A (A+2)).data.toList,s.extract (A+4) (A+4+4*num (s.extract (A+2) (A+4)).data.toList),A+4+4*num (s.extract (A+2) (A+4)).data.toList)):=by
  show _=_
  unfold extPart extLen
  rw[if_pos hx,HA.out]
 clear hx
 by_cases h4:s.size-A<4
 ·have h4':(s.size:Int)-A<4:=by omega
  have HR:Hid (readP s=none):=by
   show _=_
   rw[HP.out,HE.out,if_pos h4]
   rfl
  go_wp2
  go_step3
  refine jump_here 0 ?_
  go_wp2
  rw[Exit.noGoto_ret]
  refine bodyPost_ret (v:=wrongV) (by simp[results,Tryz.results72,wrongV,go_sem,r0,r1,r2,r3,r4,r5,r6,r7,r8,r9,r10]) rfl ⟨?_,?_⟩
  ·exact below_fin ((bel.setCell (p:=⟨w.heap.size+1,5,none⟩) (by simp) _))
  ·rw[HR.out]
   rfl
 ·have h4':¬((s.size:Int)-A<4):=by omega
  have HE2:Hid (extPart s=if s.size-(A+4)<4*num (s.extract (A+2) (A+4)).data.toList then none else some (num (s.extract A (A+2)).data.toList,s.extract (A+4) (A+4+4*num (s.extract (A+2) (A+4)).data.toList),A+4+4*num (s.extract (A+2) (A+4)).data.toList)):=by
   show _=_
   rw[HE.out,if_neg h4]
  clear HE
  have hA5:A+4<=s.size:=by omega
  go_wp2_with fail
  refine(readNumber_any _ _ (by simp only[ByteArray.size_extract];omega)).mono ?_
  rintro e w4 ⟨rfl,rfl⟩
  have hm:=num_two s (A+2)
  generalize num (s.extract (A+2) (A+4)).data.toList=m at *
  go_wp2_with fail
  refine(readNumber_any _ _ (by simp only[ByteArray.size_extract];omega)).mono ?_
  rintro e w4 ⟨rfl,rfl⟩
  generalize num (s.extract A (A+2)).data.toList=pr at *
  by_cases hL:s.size-(A+4)<4*m
  ·have hL':(s.size:Int)-(A+4)<4*m:=by omega
   have HR:Hid (readP s=none):=by
    show _=_
    rw[HP.out,HE2.out,if_pos hL]
    rfl
   go_wp2
   go_step3
   refine jump_here 0 ?_
   go_wp2
   rw[Exit.noGoto_ret]
   refine bodyPost_ret (v:=wrongV) (by simp[results,Tryz.results72,wrongV,go_sem,r0,r1,r2,r3,r4,r5,r6,r7,r8,r9,r10]) rfl ⟨?_,?_⟩
   ·exact below_fin (((bel.setCell (p:=⟨w.heap.size+1,5,none⟩) (by simp) _).setCell (p:=⟨w.heap.size+1,7,none⟩) (by simp) _))
   ·rw[HR.out]
    rfl
  ·have hL':¬((s.size:Int)-(A+4)<4*m):=by omega
   obtain⟨A1,hA6⟩:∃A1,A1=A+4+4*m:=⟨_,rfl⟩
   have hA7:A1<=s.size:=by omega
   have hA8:(A:Int)+4+4*m=A1:=by omega
   have hA9:A+4+4*m=A1:=hA6.symm
   have HX:Hid (extPart s=some (pr,s.extract (A+4) A1,A1)):=by
    show _=_
    rw[HE2.out,if_neg hL,hA9]
   have hA10:A+4<=A1:=by omega
   clear hA6 HE2
   go_wp2_with fail
   clear bel siz r0 r1 r2 r3 r4 r5 r6 r7 r8 r9 r10 y0 y1 y2 y3 y4 y5 y6 y7 y8 y9 y10 fr fy
   refine(clone_any _ _ (by simp only[ByteArray.size_extract];omega)).mono ?_
   rintro e w5 ⟨rfl,hb5⟩
   have hStn:=((hSt.set5 _).set7 _).below hb5
   have hownn:=((Hown.out.setCell (a:=⟨w.heap.size+1,5,none⟩) (by simp) _).setCell (a:=⟨w.heap.size+1,7,none⟩) (by simp) _).below hb5
   clear hb5 hSt Hown
   have Hown:=hyd hownn
   clear hownn
   have hSt:=hStn
   obtain⟨bel,siz,r0,r1,r2,r3,r4,r5,r6,r7,r8,r9,r10,y0,y1,y2,y3,y4,y5,y6,y7,y8,y9,y10,fr,fy⟩:=hStn
   generalize s.extract (A+4) A1=en at *
   clear w2
   by_cases hp:(B0 s).toNat/32%2=1
   ·have hpd:(bits .and .u8 ((B0 s).toNat:Int) 32 != 0)=true:=by rw[pad_bit];exact decide_eq_true hp
    have hq:=(Bl s).toNat_lt
    have jl:∀W:World,(Instr.index 9 (.string s) (.int .i64 ((s.size:Int)-1))).run Tryz.prog W = .ok (.int .u8 ((Bl s).toNat:Int)) W:=fun W=>run_last W s (by omega)
    have HPd:Hid (padPart s A1=if(Bl s).toNat=0\/s.size-A1<(Bl s).toNat then none else if noughts (s.extract (s.size-(Bl s).toNat) (s.size-1)).data.toList=true then some ((Bl s).toNat,s.size-(Bl s).toNat)else none):=by show _=_;unfold padPart;rw[if_pos hp]
    clear hp
    generalize hqq:(Bl s).toNat=q at *
    have Hqq:=hyd hqq
    clear hqq
    by_cases hq0:q=0
    ·subst hq0
     have HR:Hid (readP s=none):=by
      show _=_
      rw[HP.out,HX.out]
      simp only[Option.bind_some]
      rw[HPd.out,if_pos (.inl rfl)]
      rfl
     go_wp2
     go_step3
     refine jump_here 0 ?_
     go_wp2
     rw[Exit.noGoto_ret]
     refine bodyPost_ret (v:=wrongV) (by simp[results,Tryz.results72,wrongV,go_sem,r0,r1,r2,r3,r4,r5,r6,r7,r8,r9,r10]) rfl ⟨?_,?_⟩
     ·exact below_fin (((bel.setCell (p:=⟨w.heap.size+1,8,none⟩) (by simp) _).setCell (p:=⟨w.heap.size+1,10,none⟩) (by simp) _))
     ·rw[HR.out]
      rfl
    ·have hq0':((q:Int) == 0)=false:=by simpa using hq0
     by_cases hq1:s.size-A1<q
     ·have hq1':(s.size:Int)-(A1:Nat)<q:=by omega
      have HR:Hid (readP s=none):=by
       show _=_
       rw[HP.out,HX.out]
       simp only[Option.bind_some]
       rw[HPd.out,if_pos (.inr hq1)]
       rfl
      clear hq0
      go_wp2
      go_step3
      refine jump_here 0 ?_
      go_wp2
      rw[Exit.noGoto_ret]
      refine bodyPost_ret (v:=wrongV) (by simp[results,Tryz.results72,wrongV,go_sem,r0,r1,r2,r3,r4,r5,r6,r7,r8,r9,r10]) rfl ⟨?_,?_⟩
      ·exact below_fin (((bel.setCell (p:=⟨w.heap.size+1,8,none⟩) (by simp) _).setCell (p:=⟨w.heap.size+1,10,none⟩) (by simp) _))
      ·rw[HR.out]
       rfl
     ·have hq1':¬((s.size:Int)-(A1:Nat)<q):=by omega
      have hq2:(1:Int)<=q:=by omega
      have hq3:(q:Int)<=s.size:=by omega
      have HPd2:Hid (padPart s A1=if noughts (s.extract (s.size-q) (s.size-1)).data.toList=true then some (q,s.size-q)else none):=by show _=_;rw[HPd.out,if_neg (by omega)]
      clear hq0 HPd
      have hz1:s.size-q<=s.size-1:=by omega
      have hz2:A1<=s.size-q:=by omega
      have hz3:s.size-q<=s.size:=by omega
      go_wp2_with fail
      refine(allNoughts_any _ _ (by simp only[ByteArray.size_extract];unfold maxLen;omega)).mono ?_
      rintro e w4 ⟨rfl,rfl⟩
      cases hN:noughts (s.extract (s.size-q) (s.size-1)).data.toList with
      | false=>
       have HR:Hid (readP s=none):=by
        show _=_
        rw[HP.out,HX.out]
        simp only[Option.bind_some]
        rw[HPd2.out,hN]
        rfl
       clear hN
       go_wp2
       go_step3
       refine jump_here 0 ?_
       go_wp2
       rw[Exit.noGoto_ret]
       refine bodyPost_ret (v:=wrongV) (by simp[results,Tryz.results72,wrongV,go_sem,r0,r1,r2,r3,r4,r5,r6,r7,r8,r9,r10]) rfl ⟨?_,?_⟩
       ·exact below_fin (((bel.setCell (p:=⟨w.heap.size+1,8,none⟩) (by simp) _).setCell (p:=⟨w.heap.size+1,10,none⟩) (by simp) _))
       ·rw[HR.out]
        rfl
      | true=>
       have HR:Hid (readP s=some (mkP s (pr,en,A1) (q,s.size-q))):=by
        show _=_
        rw[HP.out,HX.out]
        simp only[Option.bind_some]
        rw[HPd2.out,hN]
        rfl
       clear hN
       go_wp2_with fail
       clear bel siz r0 r1 r2 r3 r4 r5 r6 r7 r8 r9 r10 y0 y1 y2 y3 y4 y5 y6 y7 y8 y9 y10 fr fy
       refine(clone_any _ _ (by simp only[ByteArray.size_extract];omega)).mono ?_
       rintro e w9 ⟨rfl,hb9⟩
       have hStn:=((hSt.set8 _).set10 _).below hb9
       have hownn:=((Hown.out.setCell (a:=⟨w.heap.size+1,8,none⟩) (by simp) _).setCell (a:=⟨w.heap.size+1,10,none⟩) (by simp) _).below hb9
       clear hb9 hSt Hown
       have Hown:=hyd hownn
       clear hownn
       have hSt:=hStn
       obtain⟨bel,siz,r0,r1,r2,r3,r4,r5,r6,r7,r8,r9,r10,y0,y1,y2,y3,y4,y5,y6,y7,y8,y9,y10,fr,fy⟩:=hStn
       go_wp2
       simp only[Exit.jump]
       obtain⟨q1,q2⟩:=told_fin (bel.setCell (p:=⟨w.heap.size+1,9,none⟩) (by simp) _) (Hown.out.setCell (a:=⟨w.heap.size+1,9,none⟩) (by simp) _)
       refine bodyPost_ret (v:=.tuple #[.agg #[.bool (decide (128<=(B1 s).toNat)),.int .i64 ((B1 s).toNat%128),.int .i64 (num ((s.data.toList.drop 2).take 2)),.int .i64 (num ((s.data.toList.drop 4).take 4)),.int .i64 (num ((s.data.toList.drop 8).take 4)),.slice ao cl.length cap,.bool true,.int .i64 pr,.string en,.string (s.extract A1 (s.size-q)),.int .i64 q],.int .i64 0]) (by simp[results,Tryz.results72,go_sem,r0,r1,r2,r3,r4,r5,r6,r7,r8,r9,r10]) rfl ⟨?_,?_⟩
       ·exact q1
       ·rw[HR.out]
        refine⟨.slice ao cl.length cap,?_,?_⟩
        ·simp[okV,mkP,hxd]
        ·have e:(mkP s (pr,en,A1) (q,s.size-q)).cl=cl:=by rw[<-Hcl.out,HA.out];rfl
         rw[e]
         exact q2.mono (by omega)
   ·have hpd:(bits .and .u8 ((B0 s).toNat:Int) 32 != 0)=false:=by rw[pad_bit];exact decide_eq_false hp
    have HR:Hid (readP s=some (mkP s (pr,en,A1) (0,s.size))):=by
     show _=_
     rw[HP.out,HX.out]
     simp[padPart,hp]
    clear hp
    go_wp2_with fail
    clear bel siz r0 r1 r2 r3 r4 r5 r6 r7 r8 r9 r10 y0 y1 y2 y3 y4 y5 y6 y7 y8 y9 y10 fr fy
    refine(clone_any _ _ (by simp only[ByteArray.size_extract];omega)).mono ?_
    rintro e w9 ⟨rfl,hb9⟩
    have hStn:=(hSt.set8 _).below hb9
    have hownn:=(Hown.out.setCell (a:=⟨w.heap.size+1,8,none⟩) (by simp) _).below hb9
    clear hb9 hSt Hown
    have Hown:=hyd hownn
    clear hownn
    have hSt:=hStn
    obtain⟨bel,siz,r0,r1,r2,r3,r4,r5,r6,r7,r8,r9,r10,y0,y1,y2,y3,y4,y5,y6,y7,y8,y9,y10,fr,fy⟩:=hStn
    go_wp2
    simp only[Exit.jump]
    obtain⟨q1,q2⟩:=told_fin (bel.setCell (p:=⟨w.heap.size+1,9,none⟩) (by simp) _) (Hown.out.setCell (a:=⟨w.heap.size+1,9,none⟩) (by simp) _)
    refine bodyPost_ret (v:=.tuple #[.agg #[.bool (decide (128<=(B1 s).toNat)),.int .i64 ((B1 s).toNat%128),.int .i64 (num ((s.data.toList.drop 2).take 2)),.int .i64 (num ((s.data.toList.drop 4).take 4)),.int .i64 (num ((s.data.toList.drop 8).take 4)),.slice ao cl.length cap,.bool true,.int .i64 pr,.string en,.string (s.extract A1 s.size),.int .i64 0],.int .i64 0]) (by simp[results,Tryz.results72,go_sem,r0,r1,r2,r3,r4,r5,r6,r7,r8,r9,r10]) rfl ⟨?_,?_⟩
    ·exact q1
    ·rw[HR.out]
     refine⟨.slice ao cl.length cap,?_,?_⟩
     ·simp[okV,mkP,hxd]
     ·have e:(mkP s (pr,en,A1) (0,s.size)).cl=cl:=by rw[<-Hcl.out,HA.out];rfl
      rw[e]
      exact q2.mono (by omega)
theorem read_at (s:ByteArray) (w:World) (hs:12<=s.size) (hs2:s.size<=1500) (hm:(B0 s).toNat/64=2) (hat:s.size<at0 s) :
  Calls Tryz.prog 72 #[.string s] w fun e w'=>Below w.heap.size w w'/\ReadAs (readP s) w.heap.size e w':=by
 have hi:(12:Int)<=s.size:=by omega
 have hi2:(s.size:Int)<=1500:=by omega
 have i0:(0:Int)<s.size:=by omega
 have hbad:bad1 s=false:=by unfold bad1;exact decide_eq_false (by omega)
 have HR:Hid (readP s=none):=readP_at s hbad hat
 clear hbad
 have j0:∀W:World,(Instr.index 9 (.string s) (.int .i64 0)).run Tryz.prog W = .ok (.int .u8 ((B0 s).toNat:Int)) W:=fun W=>by
  rw[run_index_string W 9 s .i64 0 Tryz.underlying9,dif_pos ⟨by omega,i0⟩,<-get0 s (by omega)];rfl
 have hb:=(B0 s).toNat_lt
 have hne:(((B0 s).toNat:Int)/64 != 2)=false:=by rw[bne_eq_false_iff_eq];omega
 have e15:IntKind.i64.wrap (bits .and .u8 ((B0 s).toNat:Int) 15)=((B0 s).toNat:Int)%16:=by rw[low4];exact(wrapI64 _ (by omega) (by omega)).trans (by omega)
 obtain⟨A,hA⟩:∃A,A=at0 s:=⟨_,rfl⟩
 have HA:=hyd hA
 have hA1:(12+4*(((B0 s).toNat:Int)%16))=(A:Int):=by rw[hA];unfold at0;omega
 have hA2:(s.size:Int)<A:=by rw[hA];omega
 have hA3:12<=A:=by rw[hA];unfold at0;omega
 clear hm hat hA
 go_enter Tryz.func72,Tryz.ntmps72
 go_wp2
 refine wp_scope_fwd 0 rfl ?_
 go_wp2_with fail
 refine(readHead_any s _ hs hs2).mono ?_
 rintro e w1 ⟨rfl,hb1⟩
 rw[get0 s (by omega),get1 s (by omega)]
 have hSt0:=St.init w 41
 have hSt1:=hSt0.below hb1
 have hSt:=hSt1
 obtain⟨bel,siz,r0,r1,r2,r3,r4,r5,r6,r7,r8,r9,r10,y0,y1,y2,y3,y4,y5,y6,y7,y8,y9,y10,fr,fy⟩:=hSt1
 clear hb1 hSt0
 go_wp2
 go_step3
 refine jump_here 0 ?_
 go_wp2
 rw[Exit.noGoto_ret]
 refine bodyPost_ret (v:=wrongV) (by simp[results,Tryz.results72,wrongV,go_sem,r0,r1,r2,r3,r4,r5,r6,r7,r8,r9,r10]) rfl ⟨?_,?_⟩
 ·exact below_fin (((((((((((bel.setCell (p:=⟨w.heap.size+1,0,none⟩) (by simp) _).setCell (p:=⟨w.heap.size+1,1,none⟩) (by simp) _).setCell (p:=⟨w.heap.size+1,2,none⟩) (by simp) _).setCell (p:=⟨w.heap.size+1,3,none⟩) (by simp) _).setCell (p:=⟨w.heap.size+1,4,none⟩) (by simp) _).setCell (p:=⟨w.heap.size+1,5,none⟩) (by simp) _).setCell (p:=⟨w.heap.size+1,6,none⟩) (by simp) _).setCell (p:=⟨w.heap.size+1,7,none⟩) (by simp) _).setCell (p:=⟨w.heap.size+1,8,none⟩) (by simp) _).setCell (p:=⟨w.heap.size+1,9,none⟩) (by simp) _).setCell (p:=⟨w.heap.size+1,10,none⟩) (by simp) _)
 ·rw[HR.out]
  rfl
theorem readPacket_any (s:ByteArray) (w:World) (hs:s.size<=maxLen) :
  Calls Tryz.prog 72 #[.string s] w fun e w'=>Below w.heap.size w w'/\ReadAs (readP s) w.heap.size e w':=by
 by_cases h1:s.size<12
 ·exact read_short s w h1
 ·by_cases h2:1500<s.size
  ·exact read_long s w h2 hs
  ·by_cases h3:(B0 s).toNat/64=2
   ·by_cases h4:s.size<at0 s
    ·exact read_at s w (by omega) (by omega) h3 h4
    ·by_cases h5:(B0 s).toNat/16%2=1
     ·exact read_ext s w (by omega) (by omega) h3 (by omega) h5
     ·exact read_plain s w (by omega) (by omega) h3 (by omega) h5
   ·exact read_mark s w (by omega) (by omega) h3
end Go.Proofs.YtdjhhnolcafkiaaGreat
namespace Go.Proofs.YtdjhhnolcafkiaaGreat
open Go.RowKit
namespace Pk
def passTo (M:Md) (p:PP) (cv:Value) (ring k:Nat):Md:={ M with wns:=M.wns.mapIdx fun i x=>if i<k/\x.of_=p.so then passW x p cv ring else x }
def textOf (x:Wn) (p:PP):ByteArray:=(tellR p.mrk p.ex x.pl.ty (numOf x p.nu.toNat:Nat) p.ti x.src p.pr p.pa p.cl p.en p.py).1
def textsTo (M:Md) (p:PP) (k:Nat):List ByteArray:=((M.wns.take k).filter fun x=>decide (x.of_=p.so)).map fun x=>textOf x p
theorem passTo_len (M:Md) (p:PP) (cv:Value) (ring k:Nat):(passTo M p cv ring k).wns.length=M.wns.length:=by simp[passTo]
theorem passTo_at (M:Md) (p:PP) (cv:Value) (ring k i:Nat) (x:Wn) (h:M.wns[i]? = some x):(passTo M p cv ring k).wns[i]? = some (if i<k/\x.of_=p.so then passW x p cv ring else x):=by
 simp[passTo,h]
theorem passTo_zero (M:Md) (p:PP) (cv:Value) (ring:Nat):passTo M p cv ring 0=M:=by
 obtain⟨c,s,sds,wns,last⟩:=M
 unfold passTo
 congr 1
 apply List.ext_getElem?
 intro i
 simp
theorem passTo_skip (M:Md) (p:PP) (cv:Value) (ring k:Nat) (x:Wn) (h:M.wns[k]? = some x) (hn:x.of_≠p.so):passTo M p cv ring (k+1)=passTo M p cv ring k:=by
 unfold passTo
 congr 1
 apply List.ext_getElem?
 intro i
 rw[List.getElem?_mapIdx,List.getElem?_mapIdx]
 by_cases e:i=k
 ·subst e
  rw[h]
  simp[hn]
 ·cases M.wns[i]? with
  | none=>rfl
  | some y=>
   simp only[Option.map_some,Option.some.injEq]
   by_cases hk:i<k
   ·have:i<k+1:=by omega
    simp[hk,this]
   ·have:¬i<k+1:=by omega
    simp[hk,this]
theorem passTo_step (M:Md) (p:PP) (cv:Value) (ring k:Nat) (x:Wn) (h:M.wns[k]? = some x) (hn:x.of_=p.so):(⟨(passTo M p cv ring k).c,(passTo M p cv ring k).s,(passTo M p cv ring k).sds,(passTo M p cv ring k).wns.set k (passW x p cv ring),(passTo M p cv ring k).last⟩:Md)=passTo M p cv ring (k+1):=by
 have hl:=(List.getElem?_eq_some_iff.1 h).1
 unfold passTo
 congr 1
 apply List.ext_getElem?
 intro i
 rw[List.getElem?_set,List.getElem?_mapIdx,List.getElem?_mapIdx]
 by_cases e:k=i
 ·subst e
  rw[h,if_pos rfl,if_pos (by simpa using hl)]
  simp[hn]
 ·rw[if_neg e]
  cases M.wns[i]? with
  | none=>rfl
  | some y=>
   simp only[Option.map_some,Option.some.injEq]
   by_cases hk:i<k
   ·have:i<k+1:=by omega
    simp[hk,this]
   ·have:¬i<k+1:=by omega
    simp[hk,this]
theorem textsTo_zero (M:Md) (p:PP):textsTo M p 0=[]:=by simp[textsTo]
theorem textsTo_skip (M:Md) (p:PP) (k:Nat) (x:Wn) (h:M.wns[k]? = some x) (hn:x.of_≠p.so):textsTo M p (k+1)=textsTo M p k:=by
 unfold textsTo
 rw[List.take_add_one,h,List.filter_append]
 simp[hn]
theorem textsTo_step (M:Md) (p:PP) (k:Nat) (x:Wn) (h:M.wns[k]? = some x) (hn:x.of_=p.so):textsTo M p (k+1)=textsTo M p k++[textOf x p]:=by
 unfold textsTo
 rw[List.take_add_one,h,List.filter_append,List.map_append]
 simp[hn]
theorem textsTo_len (M:Md) (p:PP) (k:Nat):(textsTo M p k).length<=k:=by
 unfold textsTo
 rw[List.length_map]
 exact Nat.le_trans (List.length_filter_le _ _) (by rw[List.length_take];exact Nat.min_le_left _ _)
structure PbAt (B:Nat) (p:PP) (cv:Value) (W:World):Prop where
 q0:W.cell? ⟨B,0,none⟩=some (.bool p.mrk)
 q1:W.cell? ⟨B,1,none⟩=some (.int .i64 p.ty)
 q2:W.cell? ⟨B,2,none⟩=some (.int .i64 p.nu)
 q3:W.cell? ⟨B,3,none⟩=some (.int .i64 p.ti)
 q4:W.cell? ⟨B,4,none⟩=some (.int .i64 p.so)
 q5:W.cell? ⟨B,5,none⟩=some cv
 q6:W.cell? ⟨B,6,none⟩=some (.bool p.ex)
 q7:W.cell? ⟨B,7,none⟩=some (.int .i64 p.pr)
 q8:W.cell? ⟨B,8,none⟩=some (.string p.en)
 q9:W.cell? ⟨B,9,none⟩=some (.string p.py)
 q10:W.cell? ⟨B,10,none⟩=some (.int .i64 p.pa)
theorem PbAt.chg {T:Nat->Prop}{W W':World}{B:Nat}{p:PP}{cv:Value}(h:PbAt B p cv W) (hc:Chg T W W') (hn:¬T B):PbAt B p cv W':=
 ⟨hc.cell h.q0 hn,hc.cell h.q1 hn,hc.cell h.q2 hn,hc.cell h.q3 hn,hc.cell h.q4 hn,hc.cell h.q5 hn,hc.cell h.q6 hn,hc.cell h.q7 hn,hc.cell h.q8 hn,hc.cell h.q9 hn,hc.cell h.q10 hn⟩
theorem PbAt.below {W W':World}{B:Nat}{p:PP}{cv:Value}(h:PbAt B p cv W) (hb:Below W.heap.size W W'):PbAt B p cv W':=h.chg (T:=fun _=>False) (Chg.ofBelow hb) (fun e=>e)
theorem PbAt.lt {W:World}{B:Nat}{p:PP}{cv:Value}(h:PbAt B p cv W):B<W.heap.size:=lt_of_cell h.q0
structure PassRel (w:World) (ρ:Nat->Nat) (mb:Nat) (M:Md) (sv wv:Value) (SB:List (Nat × Value)) (p:PP) (cv:Value) (ring k:Nat) (ov:Value) (W:World) (ρ':Nat->Nat) (WB:List (Nat × Value)):Prop where
 md:MdAt W ρ' mb (passTo M p cv ring k) sv wv SB WB
 ic:IsC (fun b=>ρ' b=4) W cv p.cl
 row:W.ownsRow (w.heap.size+1) 9 1 ov (textsTo M p k).length ((textsTo M p k).map Value.string)
 r0:∀b,ov.ownBlock=some b->ρ' b=0
 rb:ρ' w.heap.size=0
 bx:PbAt w.heap.size p cv W
 z:∀b,b<w.heap.size->ρ b=0->ρ' b=0
 chg:Chg (fun b=>ρ b≠0) w W
theorem PassRel.skip {w:World}{ρ:Nat->Nat}{mb:Nat}{M:Md}{sv wv:Value}{SB:List (Nat × Value)}{p:PP}{cv:Value}{ring k:Nat}{ov:Value}{W:World}{ρ':Nat->Nat}{WB:List (Nat × Value)}(h:PassRel w ρ mb M sv wv SB p cv ring k ov W ρ' WB){x:Wn}(hx:M.wns[k]? = some x) (hn:x.of_≠p.so):PassRel w ρ mb M sv wv SB p cv ring (k+1) ov W ρ' WB:=by
 obtain⟨a,b,c,d,e,f,g,i⟩:=h
 refine⟨?_,b,?_,d,e,f,g,i⟩
 ·rw[passTo_skip M p cv ring k x hx hn];exact a
 ·rw[textsTo_skip M p k x hx hn];exact c
theorem PassRel.step {w:World}{ρ:Nat->Nat}{mb:Nat}{M:Md}{sv wv:Value}{SB:List (Nat × Value)}{p:PP}{cv:Value}{ring k:Nat}{ov:Value}{W:World}{ρ':Nat->Nat}{WB:List (Nat × Value)}(h:PassRel w ρ mb M sv wv SB p cv ring k ov W ρ' WB){x:Wn}(hx:M.wns[k]? = some x) (hn:x.of_=p.so)
  {q:Nat × Value}{v1 ov':Value}{Wd W1 W2 W3:World}{ob:Obj}(hq:WB[k]? = some q) (hd:Below W.heap.size W Wd) (hW1:WnAt (fun b=>ρ' b=4) W1 (q.1+1) q.1 v1 (passW x p cv ring)) (hU1:SdUp Wd W1 q.1 q.2 v1) (hb2:Below W1.heap.size W1 W2) (hg:(W2.alloc ob).grownBy W3 ov.ownBlock)
  (hrow:W3.ownsRow (w.heap.size+1) 9 1 ov' ((textsTo M p k).length+1) ((textsTo M p k).map Value.string++[.string (textOf x p)])) (hob:ov'.ownBlock=ov.ownBlock\/ov'.ownBlock=some (W2.alloc ob).heap.size) :
  ∃ρ3 WB3,PassRel w ρ mb M sv wv SB p cv ring (k+1) ov' W3 ρ3 WB3:=by
 have hMd:=h.md.below hd
 have hxk:(passTo M p cv ring k).wns[k]? = some x:=by rw[passTo_at M p cv ring k k x hx];simp
 obtain⟨_,hr1,hr2⟩:=hMd.wa k q x hq hxk
 obtain⟨m1,z1,c1⟩:=hMd.wnt (x':=passW x p cv ring) hq hxk rfl hW1 hU1
 rw[passTo_step M p cv ring k x hx hn]at m1
 have hbx:=h.bx.lt
 have hWd:=hd.size
 have hW2a:Below W1.heap.size W1 (W2.alloc ob):=hb2.alloc hb2.size _
 have m2:=m1.below hW2a
 have hovlt:∀b,ov.ownBlock=some b->b<W.heap.size/\w.heap.size+1<=b:=fun b hb=>⟨(h.row.lt b hb).2,(h.row.lt b hb).1⟩
 have hz:∀b,b<W.heap.size->ρ' b=0->(if v1.ownBlock=some b then 1001+2*x.id.toNat else ρ' b)=0:=fun b hb e=>z1 b (Nat.lt_of_lt_of_le hb hWd) e
 have hov:∀b,ov.ownBlock=some b->(if v1.ownBlock=some b then 1001+2*x.id.toNat else ρ' b)=0:=fun b hb=>hz b (hovlt b hb).1 (h.r0 b hb)
 have m3:=m2.chg (Chg.ofGrown hg) hov
 have cU:∀b,(b=q.1\/q.2.ownBlock=some b)->ρ' b≠0/\ρ' b≠4:=fun b hb=>by
  rcases hb with e|e
  ·rw[e,hr1];omega
  ·rw[hr2 b e];omega
 have ic1:IsC (fun b=>(if v1.ownBlock=some b then 1001+2*x.id.toNat else ρ' b)=4) W1 cv p.cl:=by
  have i1:IsC (fun b=>ρ' b=4) W1 cv p.cl:=(h.ic.chg (T:=fun _=>False) (Chg.ofBelow hd) (fun _ _ e=>e)).chg hU1.chg (fun b hb e=>(cU b e).2 hb)
  refine i1.mono (fun b _ e=>?_)
  rw[if_neg (fun e'=>?_)]
  ·exact e
  ·rcases hU1.own b e' with e2|e2
   ·exact(cU b (.inr e2)).2 e
   ·have:=hMd.hi b e2
    omega
 have cAll:Chg (fun b=>ρ b≠0) w W3:=by
  have t1:Chg (fun b=>ρ b≠0) w Wd:=h.chg.trans (T':=fun _=>False) (Chg.ofBelow hd) (fun _ _ e=>e.elim)
  have t2:Chg (fun b=>ρ b≠0) w W1:=t1.trans hU1.chg (fun b hb e=>fun e0=>(cU b e).1 (h.z b hb e0))
  have t3:Chg (fun b=>ρ b≠0) w (W2.alloc ob):=t2.trans (T':=fun _=>False) (Chg.ofBelow hW2a) (fun _ _ e=>e.elim)
  exact t3.trans (Chg.ofGrown hg) (fun b hb e=>by have:=(hovlt b e).2;omega)
 have b1:PbAt w.heap.size p cv W1:=(h.bx.below hd).chg hU1.chg (fun e=>(cU _ e).1 h.rb)
 refine⟨_,_,m3,?_,?_,?_,hz _ hbx h.rb,(b1.below hW2a).chg (Chg.ofGrown hg) (fun e=>by have:=(hovlt _ e).2;omega),fun b hb e=>hz b (Nat.lt_of_lt_of_le hb h.chg.size) (h.z b hb e),cAll⟩
 ·exact(ic1.chg (T:=fun _=>False) (Chg.ofBelow hW2a) (fun _ _ e=>e)).chg (Chg.ofGrown hg) (fun b hb e=>by have:=hov b e;omega)
 ·rw[textsTo_step M p k x hx hn,List.length_append,List.map_append]
  exact hrow
 ·intro b hb
  rcases hob with e|e
  ·exact hov b (e▸hb)
  ·rw[e]at hb
   cases hb
   exact m2.hi _ (Nat.le_refl _)
theorem infoT:(Tryz.prog.info? 9).map (fun i=>(i.zero,i.size,i.bytes))=some (some (.string ⟨#[]⟩),1,16):=by kernel_rfl
def PsS (mb B ring:Nat) (mk ex:Bool) (ty n ti so pr pa:Int) (cv:Value) (en py:ByteArray) (W:World):Prop:=
 W.cell? ⟨mb,0,none⟩=some (.int .i64 ring)/\W.cell? ⟨B,0,none⟩=some (.bool mk)/\W.cell? ⟨B,1,none⟩=some (.int .i64 ty)/\W.cell? ⟨B,2,none⟩=some (.int .i64 n)/\W.cell? ⟨B,3,none⟩=some (.int .i64 ti)/\W.cell? ⟨B,4,none⟩=some (.int .i64 so)/\W.cell? ⟨B,5,none⟩=some cv/\W.cell? ⟨B,6,none⟩=some (.bool ex)/\W.cell? ⟨B,7,none⟩=some (.int .i64 pr)/\W.cell? ⟨B,8,none⟩=some (.string en)/\W.cell? ⟨B,9,none⟩=some (.string py)/\W.cell? ⟨B,10,none⟩=some (.int .i64 pa)
theorem PsS.of {mb B ring:Nat}{mk ex:Bool}{ty n ti so pr pa:Int}{cl:List Int}{cv:Value}{en py:ByteArray}{W:World}(h0:W.cell? ⟨mb,0,none⟩=some (.int .i64 ring)) (h:PbAt B ⟨mk,ex,ty,n,ti,so,pr,pa,cl,en,py⟩ cv W):PsS mb B ring mk ex ty n ti so pr pa cv en py W:=
 ⟨h0,h.q0,h.q1,h.q2,h.q3,h.q4,h.q5,h.q6,h.q7,h.q8,h.q9,h.q10⟩
theorem PsS.chg {T:Nat->Prop}{W W':World}{mb B ring:Nat}{mk ex:Bool}{ty n ti so pr pa:Int}{cv:Value}{en py:ByteArray}(h:PsS mb B ring mk ex ty n ti so pr pa cv en py W) (hc:Chg T W W') (h1:¬T mb) (h2:¬T B):PsS mb B ring mk ex ty n ti so pr pa cv en py W':=by
 obtain⟨a,b0,b1,b2,b3,b4,b5,b6,b7,b8,b9,b10⟩:=h
 exact⟨hc.cell a h1,hc.cell b0 h2,hc.cell b1 h2,hc.cell b2 h2,hc.cell b3 h2,hc.cell b4 h2,hc.cell b5 h2,hc.cell b6 h2,hc.cell b7 h2,hc.cell b8 h2,hc.cell b9 h2,hc.cell b10 h2⟩
theorem PsS.below {W W':World}{mb B ring:Nat}{mk ex:Bool}{ty n ti so pr pa:Int}{cv:Value}{en py:ByteArray}(h:PsS mb B ring mk ex ty n ti so pr pa cv en py W) (hb:Below W.heap.size W W'):PsS mb B ring mk ex ty n ti so pr pa cv en py W':=h.chg (T:=fun _=>False) (Chg.ofBelow hb) (fun e=>e) (fun e=>e)
def WOk (x:Wn):Prop:=0<=x.pl.first/\x.pl.first<=65535/\x.shift<65536/\x.kept.length<=90000
end Pk
open Pk
theorem passOn_any (ρ:Nat->Nat) (mb:Nat) (M:Md) (sv wv:Value) (SB WB:List (Nat × Value)) (mk ex:Bool) (ty ti so pr pa:Int) (n:Nat) (cl:List Int) (en py:ByteArray) (cv:Value) (ring:Nat) (w:World) (h:MdAt w ρ mb M sv wv SB WB) (hcv:IsC (fun b=>ρ b=4) w cv cl)
  (hr:M.c.ring=ring) (hring:ring<=1000) (hn:n<65536) (h8:M.wns.length<=8) (hw:∀x∈M.wns,WOk x) (hcl:cl.length<=1000) (hen:en.size<=1000000) (hpy:py.size<=1000000) :
  Calls Tryz.prog 74 #[.pointer (some ⟨mb,0,none⟩),.agg #[.bool mk,.int .i64 ty,.int .i64 n,.int .i64 ti,.int .i64 so,cv,.bool ex,.int .i64 pr,.string en,.string py,.int .i64 pa]] w fun e w'=>
   ∃ρ' WB' ov,e = .returned ov/\PassRel w ρ mb M sv wv SB ⟨mk,ex,ty,n,ti,so,pr,pa,cl,en,py⟩ cv ring M.wns.length ov w' ρ' WB':=by
 obtain⟨ao,cap,rfl⟩:=rowA_shape h.wr
 obtain⟨acv,ccv,rfl,-⟩:=id hcv
 have Hr:=hyd hr
 have Hw:=hyd hw
 have hlt:=h.lt
 have y19:w.cell? ⟨mb,19,none⟩=some (.slice ao WB.length cap):=h.k 19 _ rfl
 have Hwl:Hid (WB.length=M.wns.length):=h.wl
 have HR0:Hid (PassRel w ρ mb M sv (.slice ao WB.length cap) SB ⟨mk,ex,ty,n,ti,so,pr,pa,cl,en,py⟩ (.slice acv cl.length ccv) ring 0 (.slice none 0 0) (w.alloc (.cells #[.bool mk,.int .i64 ty,.int .i64 n,.int .i64 ti,.int .i64 so,.slice acv cl.length ccv,.bool ex,.int .i64 pr,.string en,.string py,.int .i64 pa] 41)) ρ WB):=by
  have hb0:Below w.heap.size w (w.alloc (.cells #[.bool mk,.int .i64 ty,.int .i64 n,.int .i64 ti,.int .i64 so,.slice acv cl.length ccv,.bool ex,.int .i64 pr,.string en,.string py,.int .i64 pa] 41)):=(Below.refl _ _).alloc (Nat.le_refl _) _
  refine⟨?_,hcv.chg (T:=fun _=>False) (Chg.ofBelow hb0) (fun _ _ e=>e),?_,fun b hb=>(by cases hb),h.hi _ (Nat.le_refl _),⟨cell_new _ _ _ 0,cell_new _ _ _ 1,cell_new _ _ _ 2,cell_new _ _ _ 3,cell_new _ _ _ 4,cell_new _ _ _ 5,cell_new _ _ _ 6,cell_new _ _ _ 7,cell_new _ _ _ 8,cell_new _ _ _ 9,cell_new _ _ _ 10⟩,fun _ _ e=>e,Chg.ofBelow hb0⟩
  ·rw[passTo_zero];exact h.below hb0
  ·rw[textsTo_zero];exact World.ownsRow_nil _ _ _ _
 obtain⟨i0,hi0,hz0,hz1,hz2⟩:=info_parts infoT
 have Hi:Hid (Tryz.prog.info? 9=some i0/\i0.zero=some (.string ⟨#[]⟩)/\i0.size=1/\i0.bytes=16):=⟨hi0,hz0,hz1,hz2⟩
 clear h hcv hr hw hi0 hz0 hz1 hz2
 go_enter Tryz.func74,Tryz.ntmps74
 go_wp2
 go_loopw [5,15] (fun s5 s15 wr=>∃(k:Nat) (ρ':Nat->Nat) (WB':List (Nat × Value)),k<=WB.length/\s15 = .int .i64 k/\PassRel w ρ mb M sv (.slice ao WB.length cap) SB ⟨mk,ex,ty,n,ti,so,pr,pa,cl,en,py⟩ (.slice acv cl.length ccv) ring k s5 wr ρ' WB') (fun _ s15 _=>WB.length-(intOf s15).toNat)
 case atStart=>exact⟨0,ρ,WB,Nat.zero_le _,rfl,HR0.out⟩
 case round=>
  obtain⟨k,ρ',WB',hk,rfl,hR⟩:=hrel
  obtain⟨ov,oc,rfl⟩:=rowA_shape hR.row
  have HR:=hyd hR
  have htl:=textsTo_len M ⟨mk,ex,ty,n,ti,so,pr,pa,cl,en,py⟩ k
  generalize hkl:(textsTo M ⟨mk,ex,ty,n,ti,so,pr,pa,cl,en,py⟩ k).length=tl at *
  have Hkl:=hyd hkl
  have q4:=hR.bx.q4
  clear hR hkl
  by_cases hlt:k<WB.length
  ·have hlt':(k:Int)<WB.length:=by omega
   have hwl':WB'.length=WB.length:=by rw[HR.out.md.wl,passTo_len,Hwl.out]
   have hwr:=HR.out.md.wr
   rw[hwl']at hwr
   obtain⟨g,rfl⟩:=rowA_some hwr (by omega)
   have hks:k<M.wns.length:=by have:=Hwl.out;omega
   have hp:WB'[k]? = some (WB'[k]'(by omega)):=List.getElem?_eq_getElem (by omega)
   have hs:M.wns[k]? = some M.wns[k]:=List.getElem?_eq_getElem hks
   obtain⟨q,hq⟩:∃q,WB'[k]'(by omega)=q:=⟨_,rfl⟩
   obtain⟨x,hx⟩:∃x,M.wns[k]=x:=⟨_,rfl⟩
   rw[hq]at hp
   rw[hx]at hs
   have d0:wr.cell? ⟨g,k,none⟩=some (ptr q.1):=by
    have h:=hwr.cellAt k (by omega)
    rw[h,List.getElem?_map,hp]
    rfl
   have hxk:(passTo M ⟨mk,ex,ty,n,ti,so,pr,pa,cl,en,py⟩ (.slice acv cl.length ccv) ring k).wns[k]? = some x:=by rw[passTo_at _ _ _ _ k k x hs];simp
   obtain⟨hWn,hr1,hr2⟩:=HR.out.md.wa k q x hp hxk
   have Hp:=hyd hp
   have Hs:=hyd hs
   have HWn:=hyd hWn
   have hc4:=hWn.c4
   have HWO:Hid (WOk x):=Hw.out x (List.mem_of_getElem? hs)
   unfold ptr at d0
   clear hq hx hp hs hWn hxk hwr
   go_wp2_with fail
   refine(wantOf_any q.1 x.of_ so _ hc4).mono ?_
   rintro e w1 ⟨rfl,hw1⟩
   rw[hw1]
   clear hw1
   by_cases he:x.of_=so
   ·rw[decide_eq_true he]
    have He:=hyd he
    clear he hc4
    go_wp2
    have HS:Hid (PsS mb w.heap.size ring mk ex ty n ti so pr pa (.slice acv cl.length ccv) en py wr):=by
     refine PsS.of ?_ HR.out.bx
     have:=HR.out.md.k 0 _ rfl
     rw[this]
     exact congrArg (fun z=>some (Value.int .i64 z)) Hr.out
    have hmr:ρ' mb=1:=HR.out.md.rm
    have hbr:ρ' w.heap.size=0:=HR.out.rb
    have cU:∀b,(b=q.1\/q.2.ownBlock=some b)->ρ' b≠0/\ρ' b≠1:=fun b hb=>by
     rcases hb with e|e
     ·rw[e,hr1];omega
     ·rw[hr2 b e];omega
    have HU:=hyd cU
    clear cU hr1 hr2 q4
    have HWd:Hid (WnAt (fun b=>ρ' b=4) wr.drew (q.1+1) q.1 q.2 x):=HWn.out.below (Below.refl _ _).drew
    have HId:Hid (IsC (fun b=>ρ' b=4) wr.drew (.slice acv cl.length ccv) cl):=HR.out.ic.chg (T:=fun _=>False) (Chg.refl _ _).drew (fun _ _ e=>e)
    have Hbd:Hid (Below wr.heap.size wr wr.drew):=(Below.refl _ _).drew
    have HCd:Hid (∀b,ρ' b=4->b<wr.drew.heap.size):=fun b hb=>by
     rcases Nat.lt_or_ge b wr.heap.size with h|h
     ·exact h
     ·have:=HR.out.md.hi b h
      omega
    refine wp_region_noPanic ?_
    refine wp_region_held_drew (S:=PsS mb w.heap.size ring mk ex ty n ti so pr pa (.slice acv cl.length ccv) en py) (by kernel_rfl) HS.out (fun zH=>?_)
    refine tka 0 ?_
    refine tka 1 ?_
    refine tka 2 ?_
    refine tka 3 ?_
    refine tka 4 ?_
    refine tka 5 ?_
    refine tka 6 ?_
    refine rd1 7 fun K hK=>?_
    go_simp
    refine(pass_any (fun b=>ρ' b=4) (q.1+1) q.1 q.2 x mk ex ty ti so pr pa n (.slice acv cl.length ccv) cl en py ring _ HWd.out HId.out HCd.out hn HWO.out.1 HWO.out.2.1 HWO.out.2.2.1 HWO.out.2.2.2 hring HWd.out.lt).mono ?_
    rintro e w1 ⟨rfl,v1,hW1,hU1⟩
    have HW1:=hyd hW1
    have HU1:=hyd hU1
    have hS1:PsS mb w.heap.size ring mk ex ty n ti so pr pa (.slice acv cl.length ccv) en py w1:=PsS.chg zH hU1.chg (fun e=>(HU.out _ e).2 hmr) (fun e=>(HU.out _ e).1 hbr)
    have HI1:Hid (IsC (fun b=>ρ' b=4) w1 (.slice acv cl.length ccv) cl):=HId.out.chg hU1.chg (fun b hb e=>by
     rcases e with e|e
     ·exact HWd.out.n1 (e▸hb)
     ·exact HWd.out.n2 b e hb)
    clear hW1 hU1
    generalize hnm:numOf x n=nm at *
    have Hnm:=hyd hnm
    clear hnm
    go_simp
    refine hK.out _ _ hS1 (fun zH=>?_)
    clear hK K
    refine rd1 8 fun K hK=>?_
    go_simp
    refine(writePacket_any mk ex x.pl.ty nm ti x.src pr pa (.slice acv cl.length ccv) cl en py _ _ (Nat.le_refl _) HI1.out.isInts (by omega) (by omega) (by omega)).mono ?_
    rintro e w2 ⟨rfl,hb2⟩
    have Hb2:=hyd hb2
    have hS2:PsS mb w.heap.size ring mk ex ty n ti so pr pa (.slice acv cl.length ccv) en py w2:=PsS.below hS1 hb2
    clear hb2
    obtain⟨t,ht⟩:∃t,(tellR mk ex x.pl.ty (nm:Int) ti x.src pr pa cl en py).1=t:=⟨_,rfl⟩
    have Ht:Hid (textOf x ⟨mk,ex,ty,n,ti,so,pr,pa,cl,en,py⟩=t):=by show _=_;rw[<-ht,<-Hnm.out];rfl
    rw[ht]
    clear ht
    generalize (tellR mk ex x.pl.ty (nm:Int) ti x.src pr pa cl en py).2=e2 at *
    go_simp
    refine hK.out _ _ hS2 (fun zH=>?_)
    clear hK K
    refine tka 9 ?_
    refine tka 10 ?_
    refine tka 11 ?_
    refine rd1 12 fun K hK=>?_
    go_simp
    refine hK.out _ _ zH (fun zH=>?_)
    clear hK K
    refine rd1 13 fun K hK=>?_
    go_simp
    refine hK.out _ _ zH (fun zH=>?_)
    clear hK K
    refine doN ?_
    clear zH hS1 hS2 HS
    have Hrow:Hid (w2.ownsRow (w.heap.size+1) 9 1 (.slice ov tl oc) tl ((textsTo M ⟨mk,ex,ty,n,ti,so,pr,pa,cl,en,py⟩ k).map Value.string)):=by
     have h1:=rowA_chg (Chg.ofBelow (T:=fun _=>False) Hbd.out) HR.out.row (fun _ _ e=>e)
     rw[Hkl.out]at h1
     refine rowA_chg (Chg.ofBelow (T:=fun _=>False) Hb2.out) (rowA_chg HU1.out.chg h1 (fun b hb e=>(HU.out b e).1 (HR.out.r0 b hb))) (fun _ _ e=>e)
    have hsz:w.heap.size+1<=w2.heap.size:=Nat.le_trans HR.out.bx.lt (Nat.le_trans Hbd.out.size (Nat.le_trans HU1.out.chg.size Hb2.out.size))
    go_wp2_with (at_builtin;(
     refine wpList_append_at rfl (.tmp 35) (.tmp 37) 32 rfl (w.heap.size+1) 9 i0 _ 1 16 Tryz.underlying32 Hi.out rfl (by decide) _ tl _ rfl (Hrow.out.alloc _) _ 1 1 [.string t] rfl rfl (cells_new _ [.string t] _) ?_ (by unfold maxLen;omega) (by omega) (by simp;omega) ?_
     ·intro u hu;simp at hu;subst hu;rfl
     intro v' w3 hown' hgrow hob
     refine stop_here ?_))
    obtain⟨a3,c3,rfl⟩:=rowA_shape hown'
    have HR3:Hid (∃ρ3 WB3,PassRel w ρ mb M sv (.slice (some ⟨g,0,none⟩) WB.length cap) SB ⟨mk,ex,ty,n,ti,so,pr,pa,cl,en,py⟩ (.slice acv cl.length ccv) ring (k+1) (.slice a3 (tl+1) c3) w3 ρ3 WB3):=by
     refine HR.out.step Hs.out He.out Hp.out Hbd.out HW1.out HU1.out Hb2.out hgrow ?_ hob
     rw[Ht.out,Hkl.out]
     exact hown'
    clear hown' hgrow hob
    refine hid_in ?_
    go_wp2
    go_roundw
    case rel=>
     obtain⟨ρ3,WB3,hh⟩:=HR3.out
     exact⟨k+1,ρ3,WB3,by omega,by go_num,hh⟩
    case measure=>simp[intOf];omega
   ·rw[decide_eq_false he]
    have HR':Hid (PassRel w ρ mb M sv (.slice (some ⟨g,0,none⟩) WB.length cap) SB ⟨mk,ex,ty,n,ti,so,pr,pa,cl,en,py⟩ (.slice acv cl.length ccv) ring (k+1) (.slice ov tl oc) wr ρ' WB'):=HR.out.skip Hs.out he
    clear he hc4
    go_wp2
    go_roundw
    case rel=>exact⟨k+1,ρ',WB',by omega,by go_num,HR'.out⟩
    case measure=>simp[intOf];omega
  ·have hlt':¬(k:Int)<WB.length:=by omega
   obtain rfl:k=M.wns.length:=by have:=Hwl.out;omega
   go_wp2
   go_ret
   exact⟨ρ',WB',_,rfl,HR.out⟩
end Go.Proofs.YtdjhhnolcafkiaaGreat
namespace Go.Proofs.YtdjhhnolcafkiaaGreat
open Go.RowKit
namespace Pk
theorem read_facts (s:ByteArray) (x:PP) (h:readP s=some x):(0<=x.nu/\x.nu<=65535)/\x.cl.length<=15/\x.en.size<=1500/\x.py.size<=1500:=by
 obtain⟨h1,-,h3⟩:=told_of_read s x h
 have h4:headOk x.ty x.nu x.ti x.so x.cl=true:=by
  simp only[tellOk,Bool.and_eq_true]at h1
  exact h1.1.1
 obtain⟨-,h5,-,-,h6,-⟩:=headOk_of h4
 refine⟨h5,h6,?_⟩
 have ex:∀a b,(s.extract a b).size<=1500:=fun a b=>by rw[ByteArray.size_extract];omega
 cases hb:bad1 s with
 | true=>rw[readP_bad s hb]at h;cases h
 | false=>
  by_cases hat:s.size<at0 s
  ·rw[readP_at s hb hat]at h;cases h
  ·rw[readP_of s hb (by omega)]at h
   cases hx:extPart s with
   | none=>rw[hx]at h;cases h
   | some q=>
    obtain⟨pr,en,a1⟩:=q
    have hen:en.size<=1500:=by
     unfold extPart at hx
     split at hx
     ·split at hx
      ·cases hx
      ·split at hx
       ·cases hx
       ·simp only[Option.some.injEq,Prod.mk.injEq]at hx
        rw[<-hx.2.1]
        exact ex _ _
     ·simp only[Option.some.injEq,Prod.mk.injEq]at hx
      rw[<-hx.2.1]
      exact Nat.zero_le _
    rw[hx,Option.bind_some]at h
    cases hp:padPart s a1 with
    | none=>rw[hp]at h;cases h
    | some q=>
     rw[hp,Option.map_some,Option.some.injEq]at h
     subst h
     exact⟨hen,ex _ _⟩
def Mv (w:World) (ρ:Nat->Nat) (W:World) (ρ':Nat->Nat):Prop:=(∀b,b<w.heap.size->ρ b=0->ρ' b=0)/\Chg (fun b=>ρ b≠0) w W
theorem Mv.trans {w W V:World}{ρ ρ' ρ2:Nat->Nat}(h:Mv w ρ W ρ') (k:Mv W ρ' V ρ2):Mv w ρ V ρ2:=
 ⟨fun b hb e=>k.1 b (Nat.lt_of_lt_of_le hb h.2.size) (h.1 b hb e),h.2.trans k.2 (fun b hb e e0=>e (h.1 b hb e0))⟩
theorem Mv.below {w W:World}{ρ:Nat->Nat}(h:Below w.heap.size w W):Mv w ρ W ρ:=⟨fun _ _ e=>e,Chg.ofBelow h⟩
theorem Mv.refl (w:World) (ρ:Nat->Nat):Mv w ρ w ρ:=Mv.below (Below.refl _ _)
section
variable {W : World} {ρ : Nat -> Nat} {mb : Nat} {M : Md} {sv wv : Value} {SB WB : List (Nat × Value)}
theorem MdAt.put {M':Md}(h:MdAt W ρ mb M sv wv SB WB) (i:Nat) (y:Value) (hi:i<21) (he:mdV M' sv wv=(mdV M sv wv).set i y) (e1:M'.sds=M.sds) (e2:M'.wns=M.wns):MdAt (W.setCell ⟨mb,i,none⟩ y) ρ mb M' sv wv SB WB/\Mv W ρ (W.setCell ⟨mb,i,none⟩ y) ρ:=by
 have hc:Chg (fun b=>b=mb) W (W.setCell ⟨mb,i,none⟩ y):=(Chg.refl (fun b=>b=mb) _).setCell ⟨mb,i,none⟩ (.inl rfl) _
 refine⟨h.own hc (mdV_set i y h.k (fun _=>rfl) hi he) (fun o=>by rw[World.frozen?_setCell];exact h.fz o) e1 e2 rfl rfl,fun _ _ e=>e,hc.mono (fun b _ e=>by rw[e,h.rm];decide)⟩
theorem MdAt.give {B:Nat}{v:Value}{l:List Int}(h:MdAt W ρ mb M sv wv SB WB) (ho:OwnInts W B v l) (hB:∀b,B<=b->ρ b=0) :
  ∃ρ',MdAt W ρ' mb M sv wv SB WB/\IsC (fun b=>ρ' b=4) W v l/\(∀b,b<B->ρ' b=ρ b)/\(∀b,ρ' b=0\/ρ' b=ρ b\/v.ownBlock=some b):=by
 have hl:=ho.lt
 refine⟨fun b=>if v.ownBlock=some b then 4 else ρ b,h.roles ?_ ?_,?_,?_,?_⟩
 ·intro b _ h0
  rw[if_neg (fun e=>h0 (hB b (hl b e).1))]
 ·intro b hb
  rw[if_neg (fun e=>by have:=(hl b e).2;omega)]
  exact h.hi b hb
 ·obtain⟨ao,cap,rfl,hj⟩:=ho.isInts
  refine⟨ao,cap,rfl,fun j hjl=>?_⟩
  obtain⟨g,hg⟩:=rowA_some ho (by omega)
  obtain⟨b,off,e,hb,hc⟩:=hj j hjl
  refine⟨b,off,e,?_,hc⟩
  rw[hg]at e
  simp only[Option.some.injEq,Addr.mk.injEq]at e
  show(if(Value.slice ao l.length cap).ownBlock=some b then 4 else ρ b)=4
  rw[if_pos (by rw[hg,<-e.1];rfl)]
 ·intro b hb
  show(if v.ownBlock=some b then 4 else ρ b)=ρ b
  rw[if_neg (fun e=>by have:=(hl b e).1;omega)]
 ·intro b
  show(if v.ownBlock=some b then 4 else ρ b)=0\/(if v.ownBlock=some b then 4 else ρ b)=ρ b\/_
  by_cases e:v.ownBlock=some b
  ·exact .inr (.inr e)
  ·rw[if_neg e];exact .inr (.inl rfl)
end
def MovedT (w w':World) (ρ:Nat->Nat) (mb:Nat) (M':Md) (tv:Value) (L:List ByteArray):Prop:=
 ∃ρ' sv' wv' SB' WB',MdAt w' ρ' mb M' sv' wv' SB' WB'/\Mv w ρ w' ρ'/\w'.ownsRow w.heap.size 9 1 tv L.length (L.map Value.string)/\∀b,tv.ownBlock=some b->ρ' b=0
theorem MovedT.none {w w':World}{ρ ρ':Nat->Nat}{mb:Nat}{M':Md}{sv' wv':Value}{SB' WB':List (Nat × Value)}(h:MdAt w' ρ' mb M' sv' wv' SB' WB') (k:Mv w ρ w' ρ'):MovedT w w' ρ mb M' (.slice .none 0 0) []:=
 ⟨ρ',sv',wv',SB',WB',h,k,World.ownsRow_nil _ _ _ _,fun b hb=>by cases hb⟩
def tookM (M:Md) (i:Nat) (sd:Sd) (n:Nat):Md:={ M with sds:=M.sds.set i (takeF sd n M.s.now M.c.window.toNat).1,s:={ M.s with givenUp:=M.s.givenUp+(takeF sd n M.s.now M.c.window.toNat).2.2 } }
def packetM (M:Md) (t:ByteArray) (cv:Value):Md × List ByteArray × Int:=
 match readP t with
 | none=>({ M with s:={ M.s with wrong:=M.s.wrong+1 } },[],1)
 | some p=>
  match sndPos M p.so with
  | none=>({ M with s:={ M.s with unknown:=M.s.unknown+1 } },[],4)
  | some i=>
   match M.sds[i]? with
   | none=>(M,[],0)
   | some sd=>
    if(takeF sd p.nu.toNat M.s.now M.c.window.toNat).2.1=1 then({ tookM M i sd p.nu.toNat with s:={ (tookM M i sd p.nu.toNat).s with late:=(tookM M i sd p.nu.toNat).s.late+1 } },[],0)
    else if(takeF sd p.nu.toNat M.s.now M.c.window.toNat).2.1=2 then({ tookM M i sd p.nu.toNat with s:={ (tookM M i sd p.nu.toNat).s with doubled:=(tookM M i sd p.nu.toNat).s.doubled+1 } },[],0)
    else(passTo { tookM M i sd p.nu.toNat with s:={ (tookM M i sd p.nu.toNat).s with passed:=(tookM M i sd p.nu.toNat).s.passed+1 } } p cv M.c.ring.toNat M.wns.length,textsTo M p M.wns.length,0)
structure MOk (M:Md):Prop where
 cfg:cfgOk M.c=true
 now:0<=M.s.now/\M.s.now<=1000000000000000
 tok:0<=M.s.tokens/\M.s.tokens<=1000000
 cnt:∀c∈[M.s.passed,M.s.late,M.s.doubled,M.s.wrong,M.s.unknown,M.s.again,M.s.refused,M.s.asked,M.s.givenUp],0<=c/\c<=1000000000000000
 w8:M.wns.length<=8
 snd:∀s∈M.sds,In16G s.gaps/\s.newest<65536/\s.gaps.length<=90000
 wnt:∀x∈M.wns,WOk x
end Pk
end Go.Proofs.YtdjhhnolcafkiaaGreat
namespace Go.Proofs.YtdjhhnolcafkiaaGreat
open Go.RowKit Pk
namespace Rl
def gMap (g:Rg):Gp:=⟨(g.n%65536).toNat,g.last,g.tries⟩
theorem rmF_nil {α:Type}(nf:α->Nat) (x:Nat):rmF nf x []=[]:=by simp[rmF,posF]
theorem rmF_cons {α:Type}(nf:α->Nat) (x:Nat) (y:α) (r:List α):rmF nf x (y::r)=if nf y=x then r else y::rmF nf x r:=by
 unfold rmF
 simp only[List.map_cons,posF]
 by_cases e:nf y=x
 ·simp[e]
 ·simp only[e,if_false]
  by_cases h:posF x (r.map nf)<0
  ·simp[h]
  ·simp only[h,if_false]
   rw[if_neg (by omega),show(posF x (r.map nf)+1).toNat=(posF x (r.map nf)).toNat+1 by omega]
   simp
theorem rmF_no {α:Type}(nf:α->Nat) (x:Nat) (l:List α) (h:∀y∈l,nf y≠x):rmF nf x l=l:=by
 unfold rmF
 rw[posF_no x (l.map nf) (fun y hy=>by
  obtain⟨z,hz,rfl⟩:=List.mem_map.1 hy
  exact h z hz)]
 rfl
theorem rNews_cons (n now:Int) (c:Nat):rNews n now (c+1)=⟨n+1,now,0⟩::rNews (n+1) now c:=by
 unfold rNews
 rw[List.range'_succ,List.map_cons]
 congr 1
 rw[<-List.map_add_range' (a:=1) 1 c 1,List.map_map]
 apply List.map_congr_left
 intro j _
 simp only[Function.comp]
 congr 1
 omega
theorem adds_eq (now:Int):∀(c:Nat) (N:Int) (l:List Rg),c<=60000->(∀g∈l,N+c-65000<g.n/\g.n<=N)->addsF now c ((N+1)%65536).toNat (l.map gMap)=(l++rNews N now c).map gMap
 | 0,N,l,_,_=>by simp[addsF,rNews]
 | c+1,N,l,hc,h=>by
  rw[addsF,rmF_no Gp.n _ _ (fun y hy=>by
   obtain⟨g,hg,rfl⟩:=List.mem_map.1 hy
   have:=h g hg
   simp only[gMap]
   omega)]
  have e1:(l.map gMap++[⟨((N+1)%65536).toNat,now,0⟩])=(l++[(⟨N+1,now,0⟩:Rg)]).map gMap:=by simp[gMap]
  have e2:(((N+1)%65536).toNat+1)%65536=((N+1+1)%65536).toNat:=by omega
  rw[e1,e2,adds_eq now c (N+1) _ (by omega) (fun g hg=>by
   rcases List.mem_append.1 hg with hg|hg
   ·have:=h g hg;omega
   ·simp at hg;subst hg;simp only;omega),rNews_cons]
  simp
theorem gu_eq (N:Int) (win:Nat):∀(L:List Rg),L.Pairwise (fun a b=>a.n<b.n)->(∀g∈L,N-65536<g.n/\g.n<N)->
  guN (N%65536).toNat win (L.map gMap)+(L.filter fun g=>decide (N-g.n<(win:Int))).length=L.length/\(L.map gMap).drop (guN (N%65536).toNat win (L.map gMap))=(L.filter fun g=>decide (N-g.n<(win:Int))).map gMap
 | [],_,_=>⟨rfl,rfl⟩
 | g::r,hp,h=>by
  have hg:=h g (by simp)
  have hd:stepsTo (N%65536).toNat (gMap g).n=(N-g.n).toNat:=by unfold stepsTo gMap;simp only;omega
  rw[List.map_cons,guN,hd]
  obtain⟨hp1,hp2⟩:=List.pairwise_cons.1 hp
  by_cases e:N-g.n<(win:Int)
  ·have hall:∀x∈(g::r),decide (N-x.n<(win:Int))=true:=fun x hx=>by
    rcases List.mem_cons.1 hx with rfl|hx
    ·exact decide_eq_true e
    ·have:=hp1 x hx;exact decide_eq_true (by omega)
   rw[List.filter_eq_self.2 hall,if_neg (by omega)]
   simp
  ·rw[if_pos (by omega),List.filter_cons_of_neg (by simpa using e)]
   obtain⟨i1,i2⟩:=gu_eq N win r hp2 (fun x hx=>h x (by simp[hx]))
   refine⟨by rw[List.length_cons];omega,?_⟩
   rw[List.drop_succ_cons]
   exact i2
theorem rm_eq (N j:Int) (m:Nat) (hm:(m:Int)=(N-j)%65536) (hj:0<=j/\j<=60000):∀(L:List Rg),L.Pairwise (fun a b=>a.n<b.n)->(∀g∈L,N-5000<g.n/\g.n<N)->
  rmF Gp.n m (L.map gMap)=(L.filter fun x=>decide (x.n≠N-j)).map gMap/\(0<=posF m ((L.map gMap).map Gp.n)↔(L.filter fun x=>decide (x.n≠N-j)).length≠L.length)
 | [],_,_=>⟨rmF_nil _ _,by simp[posF]⟩
 | g::r,hp,h=>by
  obtain⟨hp1,hp2⟩:=List.pairwise_cons.1 hp
  have hg:=h g (by simp)
  obtain⟨i1,i2⟩:=rm_eq N j m hm hj r hp2 (fun x hx=>h x (by simp[hx]))
  rw[List.map_cons,rmF_cons,List.map_cons,posF]
  have hgm:(gMap g).n=(g.n%65536).toNat:=rfl
  by_cases e:g.n=N-j
  ·have e1:(gMap g).n=m:=by omega
   rw[if_pos e1,if_pos e1,List.filter_cons_of_neg (by simpa using e)]
   have hall:∀x∈r,decide (x.n≠N-j)=true:=fun x hx=>decide_eq_true (by have:=hp1 x hx;omega)
   rw[List.filter_eq_self.2 hall]
   simp
  ·have e1:¬(gMap g).n=m:=by omega
   rw[if_neg e1,if_neg e1,List.filter_cons_of_pos (by simpa using e),i1]
   refine⟨rfl,?_⟩
   rw[List.length_cons,List.length_cons]
   constructor
   ·intro h0
    split at h0
    ·omega
    ·rename_i h1
     have:=i2.1 (by omega)
     omega
   ·intro h0
    have:=i2.2 (by omega)
    rw[if_neg (by omega)]
    omega
theorem rise_len:∀(L:List Rg) (a b:Int),L.Pairwise (fun a b=>a.n<b.n)->(∀g∈L,a<g.n/\g.n<b)->a<b->(L.length:Int)<=b-a-1
 | [],a,b,_,_,h=>by simp;omega
 | g::r,a,b,hp,h,hab=>by
  obtain⟨hp1,hp2⟩:=List.pairwise_cons.1 hp
  have hg:=h g (by simp)
  have:=rise_len r g.n b hp2 (fun x hx=>⟨hp1 x hx,(h x (by simp[hx])).2⟩ ) hg.2
  rw[List.length_cons]
  omega
structure SRel (win n:Nat) (s:Sd) (t:Rs):Prop where
 src:s.src=t.src
 no:s.begun=false->t.newest = -1/\t.gaps=[]
 yes:s.begun=true->s.newest=(t.newest%65536).toNat/\65536<=t.newest
 gaps:s.gaps=t.gaps.map gMap
 rise:t.gaps.Pairwise (fun a b=>a.n<b.n)
 near:∀g∈t.gaps,t.newest-win<g.n/\g.n<t.newest
 n16:s.newest<65536
 hi:t.newest<=131072+65536*n
theorem SRel.lo {win n:Nat}{s:Sd}{t:Rs}(h:SRel win n s t):-1<=t.newest:=by
 cases hb:s.begun with
 | false=>rw[(h.no hb).1];omega
 | true=>have:=(h.yes hb).2;omega
theorem SRel.mono {win n m:Nat}{s:Sd}{t:Rs}(h:SRel win n s t) (hm:n<=m):SRel win m s t:=
 ⟨h.src,h.no,h.yes,h.gaps,h.rise,h.near,h.n16,by have:=h.hi;omega⟩
theorem SRel.len {win n:Nat}{s:Sd}{t:Rs}(h:SRel win n s t) (hw:win<=200):t.gaps.length<=200:=by
 cases hb:s.begun with
 | false=>rw[(h.no hb).2];simp
 | true=>
  by_cases h0:win=0
  ·cases hg:t.gaps with
   | nil=>simp
   | cons g r=>have:=h.near g (by rw[hg];simp);omega
  ·have:=rise_len t.gaps _ _ h.rise h.near (by omega)
   omega
theorem SRel.lenM {win n:Nat}{s:Sd}{t:Rs}(h:SRel win n s t) (hw:win<=200):s.gaps.length<=200:=by rw[h.gaps,List.length_map];exact h.len hw
theorem SRel.in16 {win n:Nat}{s:Sd}{t:Rs}(h:SRel win n s t):In16G s.gaps:=fun x hx=>by
 rw[h.gaps]at hx
 obtain⟨g,_,rfl⟩:=List.mem_map.1 hx
 show(g.n%65536).toNat<65536
 omega
theorem SRel.gpos {win n:Nat}{s:Sd}{t:Rs}(h:SRel win n s t) (hw:win<=200) (hn:n<=10000000):∀x∈t.gaps,0<=x.n/\x.n<=10000000000000:=fun x hx=>by
 have h1:=h.near x hx
 have h2:=h.hi
 cases hb:s.begun with
 | false=>rw[(h.no hb).2]at hx;cases hx
 | true=>have:=(h.yes hb).2;omega
theorem SRel.names {win n:Nat}{s:Sd}{t:Rs}(h:SRel win n s t):(s.gaps.map fun g=>(g.n:Int))=t.gaps.map fun g=>g.n%65536:=by
 rw[h.gaps,List.map_map]
 apply List.map_congr_left
 intro g _
 show((g.n%65536).toNat:Int)=_
 omega
theorem pair_append {α:Type}{R:α->α->Prop}{l k:List α}(h1:l.Pairwise R) (h2:k.Pairwise R) (h3:∀a∈l,∀b∈k,R a b):(l++k).Pairwise R:=List.pairwise_append.2 ⟨h1,h2,h3⟩
theorem rNews_mem (N now:Int):∀(c:Nat) (g:Rg),g∈rNews N now c->N<g.n/\g.n<=N+c:=fun c g h=>by
 unfold rNews at h
 obtain⟨j,hj,rfl⟩:=List.mem_map.1 h
 have:=List.mem_range'_1.1 hj
 simp only
 omega
theorem rNews_rise (now:Int):∀(c:Nat) (N:Int),(rNews N now c).Pairwise (fun a b=>a.n<b.n)
 | 0,N=>by simp[rNews]
 | c+1,N=>by
  rw[rNews_cons]
  refine List.pairwise_cons.2 ⟨fun g hg=>?_,rNews_rise now c _⟩
  have:=rNews_mem _ _ _ _ hg
  simp only
  omega
theorem ahead_eq {win n:Nat}{s:Sd}{t:Rs}(h:SRel win n s t) (hw:1<=win/\win<=200) (hb:s.begun=true) (now:Int) (m:Nat) (hm:m<65536) (k:Nat) (hk:(k:Int)=((m:Int)-t.newest)%65536) (hk1:1<=k/\k<=32767) (gv:Value) :
  SRel win (n+1) (goOnF s m now win) ⟨t.src,t.newest+(k:Int),gv,(rAllG t k win now).filter (rKeep t.newest k win)⟩/\guN m win (gapsOn s m now win)=(rAllG t k win now).length-((rAllG t k win now).filter (rKeep t.newest k win)).length/\(rAllG t k win now).length-((rAllG t k win now).filter (rKeep t.newest k win)).length<=400:=by
 obtain⟨hy1,hy2⟩:=h.yes hb
 have hst:stepsTo m s.newest=k:=by unfold stepsTo;rw[hy1];omega
 have hlen:=h.len hw.2
 have hgo:gapsOn s m now win=(rAllG t k win now).map gMap:=by
  unfold gapsOn rAllG
  rw[hst]
  by_cases e:k<=win
  ·rw[if_pos e,if_pos e,h.gaps,show(s.newest+1)%65536=((t.newest+1)%65536).toNat by omega]
   exact adds_eq now (k-1) t.newest t.gaps (by omega) (fun g hg=>by have:=h.near g hg;omega)
  ·rw[if_neg e,if_neg e,h.gaps]
 have hrise:(rAllG t k win now).Pairwise (fun a b=>a.n<b.n):=by
  unfold rAllG
  split
  ·exact pair_append h.rise (rNews_rise _ _ _) (fun a ha b hb=>by have:=h.near a ha;have:=rNews_mem _ _ _ _ hb;omega)
  ·exact h.rise
 have hin:∀g∈rAllG t k win now,t.newest-win<g.n/\g.n<t.newest+k:=fun g hg=>by
  unfold rAllG at hg
  split at hg
  ·rcases List.mem_append.1 hg with hg|hg
   ·have:=h.near g hg;omega
   ·have:=rNews_mem _ _ _ _ hg;omega
  ·have:=h.near g hg;omega
 have hlen2:(rAllG t k win now).length<=400:=by
  unfold rAllG
  split
  ·rw[List.length_append,rNews_len];omega
  ·omega
 have hkeep:(rAllG t k win now).filter (rKeep t.newest k win)=(rAllG t k win now).filter fun g=>decide (t.newest+(k:Int)-g.n<(win:Int)):=by
  apply List.filter_congr
  intro g hg
  unfold rKeep
  by_cases e:k<=win
  ·rw[decide_eq_true e,Bool.true_and]
  ·rw[decide_eq_false e,Bool.false_and]
   symm
   refine decide_eq_false ?_
   unfold rAllG at hg
   rw[if_neg e]at hg
   have:=h.near g hg
   omega
 have hm2:m=((t.newest+(k:Int))%65536).toNat:=by omega
 obtain⟨g1,g2⟩:=gu_eq (t.newest+(k:Int)) win (rAllG t k win now) hrise (fun g hg=>by have:=hin g hg;omega)
 rw[<-hm2]at g1 g2
 rw[hkeep,hgo]
 refine⟨⟨h.src,fun e=>by simp[goOnF,hb]at e,fun _=>⟨hm2,by simp only;omega⟩,?_,hrise.filter _,fun g hg=>?_,hm,by simp only;have:=h.hi;omega⟩,by omega,by omega⟩
 ·simp only[goOnF]
  rw[hgo]
  exact g2
 ·have h1:=List.mem_filter.1 hg
  have h2:=hin g h1.1
  have h3:=of_decide_eq_true h1.2
  simp only
  omega
theorem back_eq {win n:Nat}{s:Sd}{t:Rs}(h:SRel win n s t) (hw:1<=win/\win<=200) (hb:s.begun=true) (m:Nat) (hm:m<65536) (j:Int) (hj:j=(t.newest-(m:Int))%65536) (hjw:j<win) (gv:Value) :
  rmF Gp.n m s.gaps=(rLeft t m).map gMap/\(0<=posF m (s.gaps.map Gp.n)↔(rLeft t m).length≠t.gaps.length)/\SRel win n { s with gaps:=rmF Gp.n m s.gaps } ⟨t.src,t.newest,gv,rLeft t m⟩:=by
 obtain⟨hy1,hy2⟩:=h.yes hb
 have hr:rLeft t m=t.gaps.filter fun x=>decide (x.n≠t.newest-j):=by unfold rLeft;rw[<-hj]
 obtain⟨g1,g2⟩:=rm_eq t.newest j m (by omega) (by omega) t.gaps h.rise (fun g hg=>by have:=h.near g hg;omega)
 rw[hr,h.gaps]
 refine⟨g1,g2,h.src,fun e=>by simp[hb]at e,fun _=>⟨hy1,hy2⟩,g1,h.rise.filter _,fun g hg=>h.near g (List.mem_filter.1 hg).1,h.n16,h.hi⟩
end Rl
end Go.Proofs.YtdjhhnolcafkiaaGreat
namespace Go.Proofs.YtdjhhnolcafkiaaGreat
open Go.RowKit
namespace Pk
def rDrop (R:Rm) (id:Int):Rm × Int:=
 match rwPos R id with
 | none=>(R,4)
 | some k=>({ R with wns:=R.wns.eraseIdx k },0)
theorem erase_take {α:Type}(l:List α) (k q:Nat) (h:q<l.length):(l.take (q+1)).eraseIdx k=(l.take q).eraseIdx k++if q=k then[]else[l[q]]:=by
 rw[List.take_succ_eq_append_getElem h]
 have hl:(l.take q).length=q:=by rw[List.length_take];omega
 rcases Nat.lt_trichotomy k q with e|e|e
 ·rw[List.eraseIdx_append_of_lt_length (by omega),if_neg (by omega)]
 ·subst e
  rw[List.eraseIdx_append_of_length_le (by omega),hl,Nat.sub_self,if_pos rfl,List.eraseIdx_of_length_le (l:=l.take k) (by omega)]
  rfl
 ·rw[List.eraseIdx_of_length_le (by simp;omega),List.eraseIdx_of_length_le (by omega),if_neg (by omega)]
theorem erase_at {α:Type}{l:List α}{k i:Nat}{x:α}(h:(l.eraseIdx k)[i]? = some x):l[if i<k then i else i+1]? = some x:=by
 rw[List.getElem?_eraseIdx]at h
 split at h
 ·rename_i e;rw[if_pos e];exact h
 ·rename_i e;rw[if_neg e];exact h
theorem RdAt.dropW {w W2:World}{ρ:Nat->Nat}{rb:Nat}{R:Rm}{sv wv v:Value}(h:RdAt w ρ rb R sv wv) (hb:Below w.heap.size w W2) (k:Nat) (hr:W2.ownsRow w.heap.size 99 11 v (R.wns.eraseIdx k).length ((R.wns.eraseIdx k).flatMap cRw)) :
  RdAt (W2.setCell ⟨rb,19,none⟩ v) (role v 3 ρ) rb { R with wns:=R.wns.eraseIdx k } sv v/\RMv w ρ (W2.setCell ⟨rb,19,none⟩ v) (role v 3 ρ):=by
 have hrm:=h.rm
 have hlt:=h.lt
 have c3:Chg (fun b=>b=rb) W2 (W2.setCell ⟨rb,19,none⟩ v):=(Chg.refl (fun b=>b=rb) _).setCell ⟨rb,19,none⟩ (.inl rfl) _
 have cc:Chg (fun b=>b=rb) w (W2.setCell ⟨rb,19,none⟩ v):=(Chg.ofBelow hb).trans c3 (fun _ _ e=>e)
 have hk:∀b,b<w.heap.size->role v 3 ρ b=ρ b:=fun b hl=>role_out (fun e=>by have:=(hr.lt b e).1;omega)
 have nT:∀q,q≠1->∀b,b=rb->ρ b≠q:=fun q h1 b e=>by rw[e,hrm];exact fun e'=>h1 e'.symm
 obtain⟨k1,k2⟩:=h.cellsSet (R':={ R with wns:=R.wns.eraseIdx k }) (sv':=sv) (wv':=v) (T:=fun _=>False) (Chg.ofBelow hb) (fun e=>e) 19 v rfl
 refine⟨h.make cc (fun b hl _=>hk b hl) (fun b hl=>?_) k1 k2 (h.sr.keep cc (nT 2 (by decide)) (fun b hl e=>(hk b hl).trans e)) ⟨rowN_mono (rowA_chg c3 hr (fun b e e'=>by have:=(hr.lt b e).1;omega)) (Nat.zero_le _),fun b e=>role_in e⟩ (fun i s hs=>.inl ⟨s,hs,rfl,rfl,nT _ (by omega)⟩) (fun i x hx=>.inl ⟨_,x,erase_at hx,rfl,rfl,rfl,nT _ (by omega)⟩) (nT 4 (by decide)) (fun i j x y hij hx hy=>h.ids _ _ x y (by split<;>split<;>omega) (erase_at hx) (erase_at hy)) h.s4 (Nat.le_trans (List.length_eraseIdx_le _ _) h.w8),fun b hl e=>(hk b hl).trans e,cc.mono (fun b _ e=>by rw[e,hrm];decide)⟩
 have:=cc.size
 have hs2:(W2.setCell ⟨rb,19,none⟩ v).heap.size=W2.heap.size:=World.size_setCell _ _ _
 rw[role_out (fun e=>by have:=(hr.lt b e).2;omega)]
 exact h.hi b (by omega)
end Pk
open Pk
theorem refDropWant_any (ρ:Nat->Nat) (rb:Nat) (R:Rm) (sv wv:Value) (id:Int) (w:World) (h:RdAt w ρ rb R sv wv) :
  Calls Tryz.prog 20 #[.pointer (some ⟨rb,0,none⟩),.int .i64 id] w fun e w'=>e = .returned (.int .i64 (rDrop R id).2)/\∃ρ' wv',RdAt w' ρ' rb (rDrop R id).1 sv wv'/\RMv w ρ w' ρ':=by
 obtain⟨ao,cap,rfl⟩:=rowA_shape h.wr.1
 have H:=hyd h
 have y19:w.cell? ⟨rb,19,none⟩=some (.slice ao R.wns.length cap):=h.k 19 _ rfl
 have hrl:=h.lt
 have hw8:=h.w8
 clear h
 obtain⟨X,hX⟩:∃X,rDrop R id=X:=⟨_,rfl⟩
 have HX:=hyd hX
 rw[hX]
 clear hX
 go_enter Tryz.func20,Tryz.ntmps20
 go_wp2_with fail
 refine(refWant_any ρ rb R sv _ id _ H.out).mono ?_
 rintro e w1 ⟨rfl,hw1⟩
 rw[hw1]
 clear hw1
 cases hp:rwPos R id with
 | none=>
  have E:Hid (X=(R,4)):=by show _=_;rw[<-HX.out];unfold rDrop;rw[hp]
  clear hp
  unfold optI
  go_wp2
  go_ret
  exact⟨by rw[E.out];rfl,ρ,_,by rw[E.out];exact H.out,RMv.refl _ _⟩
 | some k=>
  have E:Hid (X=({ R with wns:=R.wns.eraseIdx k },0)):=by show _=_;rw[<-HX.out];unfold rDrop;rw[hp]
  obtain⟨hkl,-,-⟩:=List.findIdx?_eq_some_iff_getElem.1 hp
  clear hp
  unfold optI
  have hk0:¬(k:Int)<0:=by omega
  obtain⟨i0,hi,hz0,hz1,hz2⟩:=info_parts want_info
  have Hi:Hid (Tryz.prog.info? 99=some i0/\i0.zero=some (.agg #[.int .i64 0,.int .i64 0,.int .i64 0,.int .i64 0,.int .i64 0,.int .i64 0,.int .i64 0,.int .i64 0,.slice none 0 0,.int .i64 0,.int .i64 0])/\i0.size=11/\i0.bytes=104):=⟨hi,hz0,hz1,hz2⟩
  clear hi hz0 hz1 hz2
  go_wp2
  go_loopw [6,7] (fun v s7 wr=>∃q:Nat,q<=R.wns.length/\s7 = .int .i64 q/\wr.ownsRow w.heap.size 99 11 v ((R.wns.take q).eraseIdx k).length (((R.wns.take q).eraseIdx k).flatMap cRw)/\Below w.heap.size w wr) (fun _ s7 _=>R.wns.length-(intOf s7).toNat)
  case atStart=>exact⟨0,Nat.zero_le _,rfl,by simpa using World.ownsRow_nil _ _ _ _,Below.refl _ _⟩
  case round=>
   obtain⟨q,hq,rfl,hl,hb⟩:=hrel
   obtain⟨la,lc,rfl⟩:=rowA_shape hl
   have Hl:=hyd hl
   have Hb:=hyd hb
   have hsz:=hb.size
   have hfl:((R.wns.take q).eraseIdx k).length<=8:=Nat.le_trans (List.length_eraseIdx_le _ _) (by rw[List.length_take];omega)
   have u19:wr.cell? ⟨rb,19,none⟩=some (.slice ao R.wns.length cap):=(hb.cell (p:=⟨rb,19,none⟩) hrl).trans y19
   clear hl hb
   by_cases hlt:q<R.wns.length
   ·have hlt':(q:Int)<R.wns.length:=by omega
    have Hf:Hid ((R.wns.take (q+1)).eraseIdx k=(R.wns.take q).eraseIdx k++if q=k then[]else[R.wns[q]]):=erase_take R.wns k q hlt
    by_cases hqk:q=k
    ·have hne:((q:Int) != (k:Int))=false:=by simp[hqk]
     have Hf2:Hid ((R.wns.take (q+1)).eraseIdx k=(R.wns.take q).eraseIdx k):=by
      show _=_
      rw[Hf.out,if_pos hqk,List.append_nil]
     clear hqk
     go_wp2
     go_roundw
     case rel=>exact⟨q+1,by omega,by go_num,by rw[Hf2.out];exact Hl.out,Hb.out⟩
     case measure=>simp[intOf];omega
    ·have hne:((q:Int) != (k:Int))=true:=by simp;omega
     have Hf2:Hid ((R.wns.take (q+1)).eraseIdx k=(R.wns.take q).eraseIdx k++[R.wns[q]]):=by
      show _=_
      rw[Hf.out,if_neg hqk]
     obtain⟨g,cap',hsl,xs,-,xl,-⟩:=H.out.wntAt (List.getElem?_eq_getElem hlt)
     simp only[Value.slice.injEq]at hsl
     obtain⟨rfl,-,-⟩:=hsl
     have ys:∀j u,(cRw R.wns[q])[j]? = some u->wr.cell? ⟨g,q*11+j,none⟩=some u:=fun j u hj=>(Hb.out.cell (p:=⟨g,q*11+j,none⟩) xl).trans (xs j u hj)
     obtain⟨x,hx⟩:∃x,R.wns[q]=x:=⟨_,rfl⟩
     rw[hx]at ys Hf2
     obtain⟨xi,xo,⟨p0,p1,p2,p3,p4,p5⟩,xa,xall,xsh,xse⟩:=x
     have a0:wr.cell? ⟨g,q*11,none⟩=some (.int .i64 xi):=ys 0 _ rfl
     have a1:=ys 1 _ rfl
     have a2:=ys 2 _ rfl
     have a3:=ys 3 _ rfl
     have a4:=ys 4 _ rfl
     have a5:=ys 5 _ rfl
     have a6:=ys 6 _ rfl
     have a7:=ys 7 _ rfl
     have a8:=ys 8 _ rfl
     have a9:=ys 9 _ rfl
     have a10:=ys 10 _ rfl
     have hal:=(H.out.al q _ (List.getElem?_eq_getElem hlt)).1.1
     rw[hx]at hal
     obtain⟨xaa,xac,hxa⟩:=rowA_shape hal
     simp only at hxa
     subst hxa
     clear xs ys hx hqk hal Hf
     go_wp2_with (at_builtin;(
      refine wpList_append_at rfl (.tmp 25) (.tmp 33) 51 rfl w.heap.size 99 i0 _ 11 104 Tryz.underlying51 Hi.out rfl (by decide) _ ((R.wns.take q).eraseIdx k).length (((R.wns.take q).eraseIdx k).flatMap cRw) rfl (World.ownsRow.alloc Hl.out _) _ 1 1 [.int .i64 xi,.int .i64 xo,.int .i64 p0,.int .i64 p1,.int .i64 p2,.int .i64 p3,.int .i64 p4,.int .i64 p5,.slice xaa xall.length xac,.int .i64 xsh,.int .i64 xse] rfl rfl (cells_new _ [.int .i64 xi,.int .i64 xo,.int .i64 p0,.int .i64 p1,.int .i64 p2,.int .i64 p3,.int .i64 p4,.int .i64 p5,.slice xaa xall.length xac,.int .i64 xsh,.int .i64 xse] _) ?_ (by unfold maxLen;omega) (by omega) (by simp;omega) ?_
      ·intro u hu;simp at hu;rcases hu with rfl|rfl|rfl|rfl|rfl|rfl|rfl|rfl|rfl|rfl|rfl<;>rfl
      intro v' w9 hown' hgrow hob
      refine stop_here ?_))
     refine hid_in ?_
     have L9:Hid (w9.ownsRow w.heap.size 99 11 v' ((R.wns.take (q+1)).eraseIdx k).length (((R.wns.take (q+1)).eraseIdx k).flatMap cRw)):=by
      rw[Hf2.out,flat_one,List.length_append]
      exact hown'
     have B9:Hid (Below w.heap.size w w9):=(Hb.out.alloc hsz _).grown hgrow (by simp;omega) (fun b e=>(Hl.out.lt b e).1)
     obtain⟨a9',c9',rfl⟩:=rowA_shape L9.out
     clear hown' hgrow hob a0 a1 a2 a3 a4 a5 a6 a7 a8 a9 a10
     go_wp2
     go_roundw
     case rel=>exact⟨q+1,by omega,by go_num,L9.out,B9.out⟩
     case measure=>simp[intOf];omega
   ·have hlt':¬(q:Int)<R.wns.length:=by omega
    have hqe:R.wns.take q=R.wns:=List.take_of_length_le (by omega)
    rw[hqe]at Hl hfl ⊢
    clear hqe
    have HD:=H.out.dropW Hb.out k Hl.out
    have HE:=hyd HD
    have vf:wr.frozen? ⟨rb,19,none⟩=false:=(H.out.below Hb.out).fz 19
    clear HD
    go_wp2
    go_ret
    exact⟨by rw[E.out];rfl,_,⟨_,by rw[E.out];exact HE.out.1⟩,HE.out.2⟩
end Go.Proofs.YtdjhhnolcafkiaaGreat
namespace Go.Proofs.YtdjhhnolcafkiaaGreat
open Go.RowKit Pk
namespace Rl
structure WRel (ring n:Nat) (x:Wn) (y:Rw):Prop where
 id:x.id=y.id
 of_:x.of_=y.of_
 pl:x.pl=y.pl
 src:x.src=y.pl.source
 beg:x.begun=true↔y.all.length≠0
 sh:x.begun=true->(x.shift:Int)=y.shift%65536
 s16:x.shift<65536
 sb:-65535<=y.shift/\y.shift<=65535
 fb:0<=y.pl.first/\y.pl.first<=65535
 kl:x.kept.length<=ring
 al:y.all.length<=n
theorem WRel.mono {ring n m:Nat}{x:Wn}{y:Rw}(h:WRel ring n x y) (hm:n<=m):WRel ring m x y:=
 ⟨h.id,h.of_,h.pl,h.src,h.beg,h.sh,h.s16,h.sb,h.fb,h.kl,Nat.le_trans h.al hm⟩
theorem WRel.shift {ring n:Nat}{x:Wn}{y:Rw}(h:WRel ring n x y) (nu:Int) (hn:0<=nu/\nu<=65535):(shiftOf x nu.toNat:Int)=rShift y nu%65536/\-65535<=rShift y nu/\rShift y nu<=65535:=by
 unfold shiftOf rShift
 have hf:=h.fb
 have hs:=h.sb
 rw[h.pl]
 cases hb:x.begun with
 | true=>
  rw[if_neg (h.beg.1 hb),if_pos rfl]
  exact⟨h.sh hb,hs⟩
 | false=>
  have h0:y.all.length=0:=Decidable.byContradiction (fun e=>by have:=h.beg.2 e;rw[hb]at this;cases this)
  rw[if_pos h0,if_neg (by decide)]
  omega
theorem WRel.num {ring n:Nat}{x:Wn}{y:Rw}(h:WRel ring n x y) (nu:Int) (hn:0<=nu/\nu<=65535):(numOf x nu.toNat:Int)=(nu+rShift y nu)%65536:=by
 have:=h.shift nu hn
 unfold numOf
 omega
theorem WRel.text {ring n:Nat}{x:Wn}{y:Rw}(h:WRel ring n x y) (p:PP) (hn:0<=p.nu/\p.nu<=65535):textOf x p=(tellX (rPassX y p)).1:=by
 unfold textOf tellX rPassX
 simp only
 rw[h.num p.nu hn,h.src,h.pl]
theorem keepsF_len (x:Wn) (p:PP) (cv:Value) (ring:Nat) (_hr:1<=ring) (h:x.kept.length<=ring):(keepsF x p cv ring).length<=ring:=by
 have:=rmF_length Kp.n (numOf x p.nu.toNat) x.kept
 unfold keepsF
 split
 ·rw[List.length_drop,List.length_append,List.length_singleton]
  omega
 ·rename_i e
  exact Nat.le_of_not_lt e
theorem WRel.pass {ring n:Nat}{x:Wn}{y:Rw}(h:WRel ring n x y) (hr:1<=ring) (p:PP) (hn:0<=p.nu/\p.nu<=65535) (cm cv av:Value):WRel ring (n+1) (passW x p cm ring) (rPassW y p cv av):=by
 have h1:=h.shift p.nu hn
 refine⟨h.id,h.of_,h.pl,h.src,⟨fun _=>by simp[rPassW],fun _=>rfl⟩,fun _=>h1.1,?_,h1.2,h.fb,keepsF_len x p cm ring hr h.kl,?_⟩
 ·show shiftOf x p.nu.toNat<65536
  omega
 ·have:=h.al
  simp[rPassW]
  omega
structure Rel (n:Nat) (M:Md) (R:Rm):Prop where
 c:M.c=R.c
 ok:cfgOk M.c=true
 s:M.s=R.s
 sl:M.sds.length=R.sds.length
 s4:M.sds.length<=4
 sa:∀(i:Nat) (s:Sd) (t:Rs),M.sds[i]? = some s->R.sds[i]? = some t->SRel M.c.window.toNat n s t
 wl:M.wns.length=R.wns.length
 w8:M.wns.length<=8
 wa:∀(i:Nat) (x:Wn) (y:Rw),M.wns[i]? = some x->R.wns[i]? = some y->WRel M.c.ring.toNat n x y
 last:M.last=R.ids
 lb:0<=M.last/\M.last<=n
 ids:∀x∈M.wns,0<x.id/\x.id<=M.last
 now:0<=M.s.now/\M.s.now<=1000000*n
 tok:0<=M.s.tokens/\M.s.tokens<=1000000
 cnt:∀c∈[M.s.passed,M.s.late,M.s.doubled,M.s.wrong,M.s.unknown,M.s.again,M.s.refused,M.s.asked,M.s.givenUp],0<=c/\c<=10000*n
theorem pick {α β:Type}{l:List α}{k:List β}(h:l.length=k.length){i:Nat}{x:α}(hx:l[i]? = some x):∃y,k[i]? = some y:=⟨_,List.getElem?_eq_getElem (by rw[<-h];exact(List.getElem?_eq_some_iff.1 hx).1)⟩
theorem mem_pick {α β:Type}{l:List α}{k:List β}(h:l.length=k.length){x:α}(hx:x∈l):∃(i:Nat) (y:β),l[i]? = some x/\k[i]? = some y:=by
 obtain⟨i,hi⟩:=List.getElem?_of_mem hx
 obtain⟨y,hy⟩:=pick h hi
 exact⟨i,y,hi,hy⟩
section
variable {n : Nat} {M : Md} {R : Rm}
theorem Rel.cfg (h:Rel n M R):(1<=M.c.ring/\M.c.ring<=64)/\(1<=M.c.window/\M.c.window<=200)/\(0<=M.c.delay/\M.c.delay<=1000000)/\(0<=M.c.rate/\M.c.rate<=100000)/\(0<=M.c.burst/\M.c.burst<=1000000)/\(1<=M.c.retry/\M.c.retry<=1000000)/\(0<=M.c.tries/\M.c.tries<=10):=of_decide_eq_true h.ok
theorem Rel.mono {m:Nat}(h:Rel n M R) (hm:n<=m):Rel m M R:=
 ⟨h.c,h.ok,h.s,h.sl,h.s4,fun i s t a b=>(h.sa i s t a b).mono hm,h.wl,h.w8,fun i x y a b=>(h.wa i x y a b).mono hm,h.last,by have:=h.lb;omega,h.ids,by have:=h.now;omega,h.tok,fun c hc=>by have:=h.cnt c hc;omega⟩
theorem Rel.mok (h:Rel n M R) (hn:n<=10000000):MOk M:=by
 have hc:=h.cfg
 refine⟨h.ok,by have:=h.now;omega,h.tok,fun c hc=>by have:=h.cnt c hc;omega,h.w8,fun s hs=>?_,fun x hx=>?_⟩
 ·obtain⟨i,t,h1,h2⟩:=mem_pick h.sl hs
  have r:=h.sa i s t h1 h2
  exact⟨r.in16,r.n16,by have:=r.lenM (by omega);omega⟩
 ·obtain⟨i,y,h1,h2⟩:=mem_pick h.wl hx
  have r:=h.wa i x y h1 h2
  unfold WOk
  rw[r.pl]
  exact⟨r.fb.1,r.fb.2,r.s16,by have:=r.kl;omega⟩
theorem Rel.new (c:Cfg) (hc:cfgOk c=true):Rel 0 (newM c) (rNew c):=by
 have h:=of_decide_eq_true hc
 refine⟨rfl,hc,rfl,rfl,by simp[newM],fun i s t a=>by simp[newM]at a,rfl,by simp[newM],fun i x y a=>by simp[newM]at a,rfl,by simp[newM],fun x hx=>by simp[newM]at hx,by simp[newM],by simp[newM];omega,fun c hc=>by simp[newM]at hc;omega⟩
theorem Rel.spos (h:Rel n M R) (so:Int):sndPos M so=rsPos R so:=by
 have:M.sds.map (fun s=>s.src)=R.sds.map (fun s=>s.src):=by
  apply List.ext_getElem?
  intro i
  rw[List.getElem?_map,List.getElem?_map]
  cases hi:M.sds[i]? with
  | none=>
   have:R.sds[i]? = none:=by rw[List.getElem?_eq_none_iff]at hi ⊢;rw[<-h.sl];exact hi
   rw[this];rfl
  | some s=>
   obtain⟨t,ht⟩:=pick h.sl hi
   rw[ht]
   simp[(h.sa i s t hi ht).src]
 have e1:sndPos M so=(M.sds.map (fun s=>s.src)).findIdx? (fun a=>decide (a=so)):=by rw[List.findIdx?_map];rfl
 have e2:rsPos R so=(R.sds.map (fun s=>s.src)).findIdx? (fun a=>decide (a=so)):=by rw[List.findIdx?_map];rfl
 rw[e1,e2,this]
theorem Rel.wmap (h:Rel n M R):M.wns.map (fun x=>(x.id,x.src,x.pl.second))=R.wns.map (fun y=>(y.id,y.pl.source,y.pl.second)):=by
 apply List.ext_getElem?
 intro i
 rw[List.getElem?_map,List.getElem?_map]
 cases hi:M.wns[i]? with
 | none=>
  have:R.wns[i]? = none:=by rw[List.getElem?_eq_none_iff]at hi ⊢;rw[<-h.wl];exact hi
  rw[this];rfl
 | some s=>
  obtain⟨t,ht⟩:=pick h.wl hi
  have r:=h.wa i s t hi ht
  rw[ht]
  simp[r.id,r.src,r.pl]
theorem Rel.wpos (h:Rel n M R) (id:Int):wntPos M id=rwPos R id:=by
 have e1:wntPos M id=(M.wns.map (fun x=>(x.id,x.src,x.pl.second))).findIdx? (fun a=>decide (a.1=id)):=by rw[List.findIdx?_map];rfl
 have e2:rwPos R id=(R.wns.map (fun y=>(y.id,y.pl.source,y.pl.second))).findIdx? (fun a=>decide (a.1=id)):=by rw[List.findIdx?_map];rfl
 rw[e1,e2,h.wmap]
theorem Rel.knows (h:Rel n M R) (so:Int):knowsF M so=rKnown R so:=by
 have e1:(hasPos M so).isSome=(M.wns.map (fun x=>(x.id,x.src,x.pl.second))).any (fun a=>decide (a.2.1=so) || decide (a.2.2=so)):=by
  unfold hasPos
  rw[List.any_map,List.findIdx?_isSome];rfl
 have e2:R.wns.any (fun x=>rHas x so)=(R.wns.map (fun y=>(y.id,y.pl.source,y.pl.second))).any (fun a=>decide (a.2.1=so) || decide (a.2.2=so)):=by rw[List.any_map];rfl
 unfold knowsF rKnown
 rw[h.spos,e1,e2,h.wmap,Bool.or_comm]
theorem at_append {α:Type}{l:List α}{a x:α}{i:Nat}(h:(l++[a])[i]? = some x):l[i]? = some x\/(i=l.length/\x=a):=by
 by_cases hi:i<l.length
 ·rw[List.getElem?_append_left hi]at h
  exact .inl h
 ·rw[List.getElem?_append_right (by omega)]at h
  have hlt:=(List.getElem?_eq_some_iff.1 h).1
  simp only[List.length_singleton]at hlt
  rw[show i-l.length=0 by omega]at h
  exact .inr ⟨by omega,by simpa using h.symm⟩
theorem Rel.addS (h:Rel n M R) (so:Int):(addSM M so).2=(rAddS R so).2/\Rel n (addSM M so).1 (rAddS R so).1:=by
 unfold addSM rAddS
 rw[h.knows,h.sl]
 split
 ·exact⟨rfl,h⟩
 ·split
  ·exact⟨rfl,h⟩
  ·split
   ·exact⟨rfl,h⟩
   ·rename_i e
    have h4:=h.sl
    refine⟨rfl,h.c,h.ok,h.s,by simp[h.sl],by simp;omega,fun i s t a b=>?_,h.wl,h.w8,h.wa,h.last,h.lb,h.ids,h.now,h.tok,h.cnt⟩
    rcases at_append a with a|⟨a1,a2⟩
    ·rcases at_append b with b|⟨b1,b2⟩
     ·exact h.sa i s t a b
     ·have:=(List.getElem?_eq_some_iff.1 a).1
      omega
    ·rcases at_append b with b|⟨b1,b2⟩
     ·have:=(List.getElem?_eq_some_iff.1 b).1
      omega
     ·subst a2 b2
      exact⟨rfl,fun _=>⟨rfl,rfl⟩,(fun e=>by cases e),rfl,List.Pairwise.nil,(fun g hg=>by cases hg),by simp,by simp only;omega⟩
theorem Rel.addW (h:Rel n M R) (of_:Int) (p:Plan):(addWM M of_ p).2=(rAddW R of_ p).2/\Rel (n+1) (addWM M of_ p).1 (rAddW R of_ p).1:=by
 have h1:=h.mono (Nat.le_succ n)
 have hl:=h.last
 have hb:=h.lb
 unfold addWM rAddW
 rw[h.knows,h.knows,h.wl,h.spos,hl]
 split
 ·exact⟨rfl,h1⟩
 ·split
  ·exact⟨rfl,h1⟩
  ·rename_i hp
   split
   ·exact⟨rfl,h1⟩
   ·split
    ·exact⟨rfl,h1⟩
    ·rename_i e
     have h4:=h.wl
     have hpl:plOk p=true:=by simpa using hp
     have hpo:=of_decide_eq_true hpl
     refine⟨rfl,h1.c,h1.ok,h1.s,h1.sl,h1.s4,h1.sa,by simp[h.wl],by simp;omega,fun i x y a b=>?_,rfl,by simp only;omega,fun x hx=>?_,h1.now,h1.tok,h1.cnt⟩
     ·rcases at_append a with a|⟨a1,a2⟩
      ·rcases at_append b with b|⟨b1,b2⟩
       ·exact h1.wa i x y a b
       ·have:=(List.getElem?_eq_some_iff.1 a).1
        omega
      ·rcases at_append b with b|⟨b1,b2⟩
       ·have:=(List.getElem?_eq_some_iff.1 b).1
        omega
       ·subst a2 b2
        exact⟨rfl,rfl,rfl,rfl,by simp[newW,rNewW],(fun e=>by cases e),by simp[newW],by simp[rNewW],hpo.2.2.2.2.1,by simp[newW],by simp[rNewW]⟩
     ·rcases List.mem_append.1 hx with hx|hx
      ·have:=h.ids x hx;simp only;omega
      ·simp at hx;subst hx;simp only[newW];omega
end
def dropM (M:Md) (id:Int):Md × Int:=
 match wntPos M id with
 | none=>(M,4)
 | some k=>({ M with wns:=M.wns.eraseIdx k },0)
section
variable {n : Nat} {M : Md} {R : Rm}
theorem Rel.drop (h:Rel n M R) (id:Int):(dropM M id).2=(rDrop R id).2/\Rel n (dropM M id).1 (rDrop R id).1:=by
 unfold dropM rDrop
 rw[h.wpos]
 cases hk:rwPos R id with
 | none=>exact⟨rfl,h⟩
 | some k=>
  have hwl:=h.wl
  have hw8:=h.w8
  refine⟨rfl,h.c,h.ok,h.s,h.sl,h.s4,h.sa,?_,?_,fun i x y a b=>?_,h.last,h.lb,fun x hx=>h.ids x (List.mem_of_mem_eraseIdx hx),h.now,h.tok,h.cnt⟩
  ·simp only[List.length_eraseIdx]
   rw[hwl]
  ·simp only[List.length_eraseIdx]
   split<;>omega
  ·simp only[List.getElem?_eraseIdx]at a b
   split at a
   ·rename_i e
    rw[if_pos e]at b
    exact h.wa i x y a b
   ·rename_i e
    rw[if_neg e]at b
    exact h.wa (i+1) x y a b
theorem Rel.passes (M:Md) (p:PP) (hn:0<=p.nu/\p.nu<=65535) (ring:Nat) (hr:1<=ring) (cm cv:Value) (R:Rm) (hwl:M.wns.length=R.wns.length) (hwa:∀(i:Nat) (x:Wn) (y:Rw),M.wns[i]? = some x->R.wns[i]? = some y->WRel ring n x y) :
  ∀(k:Nat) (R':Rm) (out:List ByteArray),RPass p cv R k R' out->out=textsTo M p k/\R'.wns.length=M.wns.length/\∀(i:Nat) (x:Wn) (y:Rw),(passTo M p cm ring k).wns[i]? = some x->R'.wns[i]? = some y->WRel ring (n+1) x y:=by
 intro k R' out h
 induction h using RPass.ind with
 | zero=>
  refine⟨(textsTo_zero M p).symm,hwl.symm,fun i x y a b=>?_⟩
  obtain⟨x0,hx0⟩:=pick hwl.symm b
  rw[passTo_at M p cm ring 0 i x0 hx0,if_neg (by omega),Option.some.injEq]at a
  subst a
  exact(hwa i x0 y hx0 b).mono (Nat.le_succ n)
 | @skip k R1 out1 y0 hp hy ho ih=>
  obtain⟨i1,i2,i3⟩:=ih
  obtain⟨x0,hx0⟩:=pick i2 hy
  have hr0:R.wns[k]? = some y0:=by rw[<-hp.rest k (Nat.le_refl _)];exact hy
  have w0:=hwa k x0 y0 hx0 hr0
  refine⟨by rw[textsTo_skip M p k x0 hx0 (by rw[w0.of_];exact ho)];exact i1,i2,fun i x y a b=>i3 i x y ?_ b⟩
  obtain⟨x1,hx1⟩:=pick i2 b
  rw[passTo_at M p cm ring _ i x1 hx1]at a ⊢
  rw[<-a]
  congr 1
  by_cases e:i=k
  ·subst e
   rw[hx0,Option.some.injEq]at hx1
   subst hx1
   rw[if_neg (by omega),if_neg (fun e=>ho (by rw[<-w0.of_];exact e.2))]
  ·by_cases e2:i<k/\x1.of_=p.so
   ·rw[if_pos e2,if_pos ⟨by omega,e2.2⟩]
   ·rw[if_neg e2,if_neg (fun e3=>e2 ⟨by omega,e3.2⟩)]
 | @pass k R1 out1 y0 av hp hy ho ih=>
  obtain⟨i1,i2,i3⟩:=ih
  obtain⟨x0,hx0⟩:=pick i2 hy
  have hr0:R.wns[k]? = some y0:=by rw[<-hp.rest k (Nat.le_refl _)];exact hy
  have w0:=hwa k x0 y0 hx0 hr0
  refine⟨by rw[textsTo_step M p k x0 hx0 (by rw[w0.of_];exact ho),i1,w0.text p hn],by simp only[List.length_set];exact i2,fun i x y a b=>?_⟩
  simp only[List.getElem?_set]at b
  by_cases e:k=i
  ·subst e
   rw[if_pos rfl,if_pos (List.getElem?_eq_some_iff.1 hy).1,Option.some.injEq]at b
   subst b
   rw[passTo_at M p cm ring _ k x0 hx0,if_pos ⟨by omega,by rw[w0.of_];exact ho⟩,Option.some.injEq]at a
   subst a
   exact w0.pass hr p hn cm cv av
  ·rw[if_neg e]at b
   refine i3 i x y ?_ b
   obtain⟨x1,hx1⟩:=pick i2 b
   rw[passTo_at M p cm ring _ i x1 hx1]at a ⊢
   rw[<-a]
   congr 1
   by_cases e2:i<k/\x1.of_=p.so
   ·rw[if_pos e2,if_pos ⟨by omega,e2.2⟩]
   ·rw[if_neg e2,if_neg (fun e3=>e2 ⟨by omega,e3.2⟩)]
theorem at_set {α:Type}{l:List α}{k i:Nat}{a x:α}(hk:k<l.length) (h:(l.set k a)[i]? = some x):(i=k/\x=a)\/(i≠k/\l[i]? = some x):=by
 rw[List.getElem?_set]at h
 by_cases e:k=i
 ·rw[if_pos e,if_pos hk,Option.some.injEq]at h
  exact .inl ⟨e.symm,h.symm⟩
 ·rw[if_neg e]at h
  exact .inr ⟨fun e'=>e e'.symm,h⟩
theorem Rel.turn (h:Rel n M R){i:Nat}{s s':Sd}{t t':Rs}(hs:M.sds[i]? = some s) (ht:R.sds[i]? = some t) (hr:SRel M.c.window.toNat (n+1) s' t') (S:Stt) (h1:S.now=M.s.now) (h2:S.tokens=M.s.tokens) (h3:∀c∈[S.passed,S.late,S.doubled,S.wrong,S.unknown,S.again,S.refused,S.asked,S.givenUp],0<=c/\c<=10000*(n+1:Nat)):Rel (n+1) { M with s:=S,sds:=M.sds.set i s' } { R with s:=S,sds:=R.sds.set i t' }:=by
 have g:=h.mono (Nat.le_succ n)
 refine⟨g.c,g.ok,rfl,by simp[g.sl],by simp[g.s4],fun j x y a b=>?_,g.wl,g.w8,g.wa,g.last,g.lb,g.ids,by simp only;rw[h1];exact g.now,by simp only;rw[h2];exact g.tok,h3⟩
 rcases at_set (List.getElem?_eq_some_iff.1 hs).1 a with⟨e1,e2⟩|⟨e1,e2⟩
 ·rcases at_set (List.getElem?_eq_some_iff.1 ht).1 b with⟨f1,f2⟩|⟨f1,f2⟩
  ·subst e2 f2;exact hr
  ·exact absurd e1 f1
 ·rcases at_set (List.getElem?_eq_some_iff.1 ht).1 b with⟨f1,f2⟩|⟨f1,f2⟩
  ·exact absurd f1 e1
  ·exact g.sa j x y e2 f2
theorem Rel.count (h:Rel n M R) (S:Stt) (h1:S.now=M.s.now) (h2:S.tokens=M.s.tokens) (h3:∀c∈[S.passed,S.late,S.doubled,S.wrong,S.unknown,S.again,S.refused,S.asked,S.givenUp],0<=c/\c<=10000*(n+1:Nat)):Rel (n+1) { M with s:=S } { R with s:=S }:=by
 have g:=h.mono (Nat.le_succ n)
 exact⟨g.c,g.ok,rfl,g.sl,g.s4,g.sa,g.wl,g.w8,g.wa,g.last,g.lb,g.ids,by simp only;rw[h1];exact g.now,by simp only;rw[h2];exact g.tok,h3⟩
theorem Rel.cnts (h:Rel n M R) (a b c d e f g i j:Int) (ha:M.s.passed<=a/\a<=M.s.passed+5000) (hb:M.s.late<=b/\b<=M.s.late+5000) (hc:M.s.doubled<=c/\c<=M.s.doubled+5000) (hd:M.s.wrong<=d/\d<=M.s.wrong+5000) (he:M.s.unknown<=e/\e<=M.s.unknown+5000) (hf:M.s.again<=f/\f<=M.s.again+5000) (hg:M.s.refused<=g/\g<=M.s.refused+5000) (hi:M.s.asked<=i/\i<=M.s.asked+5000) (hj:M.s.givenUp<=j/\j<=M.s.givenUp+5000):∀x∈[a,b,c,d,e,f,g,i,j],0<=x/\x<=10000*(n+1:Nat):=by
 have k:=h.cnt
 simp only[List.mem_cons,List.not_mem_nil,or_false,forall_eq_or_imp,forall_eq]at k ⊢
 omega
end
end Rl
namespace Rl
section
variable {n : Nat} {M : Md} {R : Rm}
theorem Rel.comes (h:Rel n M R){i:Nat}{s:Sd}{t:Rs}(hs:M.sds[i]? = some s) (ht:R.sds[i]? = some t) (nu:Int) (hn:0<=nu/\nu<=65535) (gv:Value) :
  let T:=takeF s nu.toNat M.s.now M.c.window.toNat
  let C:=rComes R i t nu M.c.window.toNat gv
  (T.2.1=1/\C.2=false/\Rel (n+1) { tookM M i s nu.toNat with s:={ (tookM M i s nu.toNat).s with late:=(tookM M i s nu.toNat).s.late+1 } } C.1)\/
  (T.2.1=2/\C.2=false/\Rel (n+1) { tookM M i s nu.toNat with s:={ (tookM M i s nu.toNat).s with doubled:=(tookM M i s nu.toNat).s.doubled+1 } } C.1)\/
  (T.2.1=0/\C.2=true/\Rel (n+1) { tookM M i s nu.toNat with s:={ (tookM M i s nu.toNat).s with passed:=(tookM M i s nu.toNat).s.passed+1 } } { C.1 with s:={ C.1.s with passed:=C.1.s.passed+1 } }/\C.1.wns=R.wns):=by
 intro T C
 have hr:=h.sa i s t hs ht
 have hc:=h.cfg
 have hS:=h.s
 have hil:i<M.sds.length:=(List.getElem?_eq_some_iff.1 hs).1
 have hil2:i<R.sds.length:=(List.getElem?_eq_some_iff.1 ht).1
 have hse:M.sds[i]=s:=(List.getElem?_eq_some_iff.1 hs).2
 have hte:R.sds[i]=t:=(List.getElem?_eq_some_iff.1 ht).2
 have eM:M.sds.set i s=M.sds:=by rw[<-hse];exact List.set_getElem_self hil
 have eR:R.sds.set i t=R.sds:=by rw[<-hte];exact List.set_getElem_self hil2
 obtain⟨m,hm⟩:∃m:Nat,nu.toNat=m:=⟨_,rfl⟩
 have hmn:(m:Int)=nu:=by omega
 have hw:1<=M.c.window.toNat/\M.c.window.toNat<=200:=by omega
 cases hb:s.begun with
 | false=>
  obtain⟨n1,n2⟩:=hr.no hb
  have eT:T=({ s with begun:=true,newest:=nu.toNat },0,0):=by show takeF _ _ _ _=_;unfold takeF;rw[if_pos hb]
  have eC:C=({ R with sds:=R.sds.set i ⟨t.src,65536+nu,t.gv,t.gaps⟩ },true):=by show rComes _ _ _ _ _ _=_;unfold rComes;rw[if_pos (by omega)]
  refine .inr (.inr ⟨by rw[eT],by rw[eC],?_,by rw[eC]⟩)
  have eK:tookM M i s nu.toNat={ M with sds:=M.sds.set i T.1,s:={ M.s with givenUp:=M.s.givenUp+(T.2.2:Nat) } }:=rfl
  rw[eK,eT,eC]
  simp only[Int.natCast_zero,Int.add_zero]
  rw[<-hS]
  refine h.turn (s':={ s with begun:=true,newest:=nu.toNat }) (t':=⟨t.src,65536+nu,t.gv,t.gaps⟩) hs ht ⟨hr.src,(fun e=>by cases e),fun _=>⟨by simp only;omega,by simp only;omega⟩,hr.gaps,hr.rise,?_,by simp only;omega,by simp only;omega⟩ _ rfl rfl (h.cnts _ _ _ _ _ _ _ _ _ (by first|omega|(simp only;omega)) (by first|omega|(simp only;omega)) (by first|omega|(simp only;omega)) (by first|omega|(simp only;omega)) (by first|omega|(simp only;omega)) (by first|omega|(simp only;omega)) (by first|omega|(simp only;omega)) (by first|omega|(simp only;omega)) (by first|omega|(simp only;omega)))
  intro g hg
  simp only at hg
  rw[n2]at hg
  cases hg
 | true=>
  obtain⟨y1,y2⟩:=hr.yes hb
  have hst:(stepsTo m s.newest:Int)=(nu-t.newest)%65536:=by unfold stepsTo;rw[y1];omega
  have hst2:(stepsTo s.newest m:Int)=(t.newest-nu)%65536:=by unfold stepsTo;rw[y1];omega
  have eK:tookM M i s nu.toNat={ M with sds:=M.sds.set i T.1,s:={ M.s with givenUp:=M.s.givenUp+(T.2.2:Nat) } }:=rfl
  by_cases ha:1<=stepsTo m s.newest/\stepsTo m s.newest<=32767
  ·have eT:T=(goOnF s m M.s.now M.c.window.toNat,0,guN m M.c.window.toNat (gapsOn s m M.s.now M.c.window.toNat)):=by
    show takeF _ _ _ _=_;unfold takeF;rw[hm,if_neg (by rw[hb];decide),if_pos ha]
   have eC:C=(rAhead R i t ((nu-t.newest)%65536).toNat M.c.window.toNat gv,true):=by
    show rComes _ _ _ _ _ _=_;unfold rComes;rw[if_neg (by omega),if_pos (by omega)]
   obtain⟨a1,a2,a3⟩:=ahead_eq hr hw hb M.s.now m (by omega) ((nu-t.newest)%65536).toNat (by omega) (by omega) gv
   refine .inr (.inr ⟨by rw[eT],by rw[eC],?_,by rw[eC];rfl⟩)
   rw[eK,eT,eC,a2]
   unfold rAhead
   rw[<-hS]
   simp only
   exact h.turn hs ht a1 _ rfl rfl (h.cnts _ _ _ _ _ _ _ _ _ (by first|omega|(simp only;omega)) (by first|omega|(simp only;omega)) (by first|omega|(simp only;omega)) (by first|omega|(simp only;omega)) (by first|omega|(simp only;omega)) (by first|omega|(simp only;omega)) (by first|omega|(simp only;omega)) (by first|omega|(simp only;omega)) (by first|omega|(simp only;omega)))
  ·have eT:T=((lookBackF s m M.c.window.toNat).1,(lookBackF s m M.c.window.toNat).2,0):=by
    show takeF _ _ _ _=_;unfold takeF;rw[hm,if_neg (by rw[hb];decide),if_neg ha]
   by_cases hl:M.c.window.toNat<=stepsTo s.newest m
   ·have eL:lookBackF s m M.c.window.toNat=(s,1):=by unfold lookBackF;rw[if_pos hl]
    have eC:C=({ R with s:={ R.s with late:=R.s.late+1 } },false):=by
     show rComes _ _ _ _ _ _=_;unfold rComes;rw[if_neg (by omega),if_neg (by omega),if_pos (by omega)]
    rw[eL]at eT
    refine .inl ⟨by rw[eT],by rw[eC],?_⟩
    rw[eK,eT,eC]
    simp only[Int.natCast_zero,Int.add_zero]
    rw[eM,<-hS]
    exact h.count _ rfl rfl (h.cnts _ _ _ _ _ _ _ _ _ (by first|omega|(simp only;omega)) (by first|omega|(simp only;omega)) (by first|omega|(simp only;omega)) (by first|omega|(simp only;omega)) (by first|omega|(simp only;omega)) (by first|omega|(simp only;omega)) (by first|omega|(simp only;omega)) (by first|omega|(simp only;omega)) (by first|omega|(simp only;omega)))
   ·obtain⟨b1,b2,b3⟩:=back_eq (n:=n+1) (hr.mono (Nat.le_succ n)) hw hb m (by omega) ((t.newest-nu)%65536) (by rw[hmn]) (by omega) gv
    rw[hmn]at b1 b2 b3
    by_cases hp:0<=posF m (s.gaps.map Gp.n)
    ·have eL:lookBackF s m M.c.window.toNat=({ s with gaps:=rmF Gp.n m s.gaps },0):=by unfold lookBackF;rw[if_neg hl,if_pos hp]
     have eC:C=({ R with sds:=R.sds.set i ⟨t.src,t.newest,gv,rLeft t nu⟩ },true):=by
      show rComes _ _ _ _ _ _=_;unfold rComes;rw[if_neg (by omega),if_neg (by omega),if_neg (by omega),if_neg (b2.1 hp)]
     rw[eL]at eT
     refine .inr (.inr ⟨by rw[eT],by rw[eC],?_,by rw[eC]⟩)
     rw[eK,eT,eC]
     simp only[Int.natCast_zero,Int.add_zero]
     rw[<-hS]
     exact h.turn hs ht b3 _ rfl rfl (h.cnts _ _ _ _ _ _ _ _ _ (by first|omega|(simp only;omega)) (by first|omega|(simp only;omega)) (by first|omega|(simp only;omega)) (by first|omega|(simp only;omega)) (by first|omega|(simp only;omega)) (by first|omega|(simp only;omega)) (by first|omega|(simp only;omega)) (by first|omega|(simp only;omega)) (by first|omega|(simp only;omega)))
    ·have eL:lookBackF s m M.c.window.toNat=(s,2):=by unfold lookBackF;rw[if_neg hl,if_neg hp]
     have eC:C=({ R with s:={ R.s with doubled:=R.s.doubled+1 } },false):=by
      show rComes _ _ _ _ _ _=_;unfold rComes;rw[if_neg (by omega),if_neg (by omega),if_neg (by omega),if_pos (Decidable.byContradiction fun e=>hp (b2.2 e))]
     rw[eL]at eT
     refine .inr (.inl ⟨by rw[eT],by rw[eC],?_⟩)
     rw[eK,eT,eC]
     simp only[Int.natCast_zero,Int.add_zero]
     rw[eM,<-hS]
     exact h.count _ rfl rfl (h.cnts _ _ _ _ _ _ _ _ _ (by first|omega|(simp only;omega)) (by first|omega|(simp only;omega)) (by first|omega|(simp only;omega)) (by first|omega|(simp only;omega)) (by first|omega|(simp only;omega)) (by first|omega|(simp only;omega)) (by first|omega|(simp only;omega)) (by first|omega|(simp only;omega)) (by first|omega|(simp only;omega)))
theorem Rel.packet (h:Rel n M R) (tx:ByteArray) (cm:Value) (R':Rm) (out:List ByteArray) (e:Int) (hk:RPk R tx M.c.window.toNat R' out e):(packetM M tx cm).2.1=out/\(packetM M tx cm).2.2=e/\Rel (n+1) (packetM M tx cm).1 R':=by
 unfold RPk at hk
 unfold packetM
 have hS:=h.s
 cases hp:readP tx with
 | none=>
  rw[hp]at hk
  obtain⟨k1,k2,k3⟩:=hk
  refine⟨k2.symm,k3.symm,?_⟩
  rw[k1]
  simp only
  rw[<-hS]
  exact h.count _ rfl rfl (h.cnts _ _ _ _ _ _ _ _ _ (by first|omega|(simp only;omega)) (by first|omega|(simp only;omega)) (by first|omega|(simp only;omega)) (by first|omega|(simp only;omega)) (by first|omega|(simp only;omega)) (by first|omega|(simp only;omega)) (by first|omega|(simp only;omega)) (by first|omega|(simp only;omega)) (by first|omega|(simp only;omega)))
 | some p=>
  rw[hp]at hk
  simp only at hk ⊢
  rw[h.spos]
  cases hi:rsPos R p.so with
  | none=>
   rw[hi]at hk
   obtain⟨k1,k2,k3⟩:=hk
   refine⟨k2.symm,k3.symm,?_⟩
   rw[k1]
   simp only
   rw[<-hS]
   exact h.count _ rfl rfl (h.cnts _ _ _ _ _ _ _ _ _ (by first|omega|(simp only;omega)) (by first|omega|(simp only;omega)) (by first|omega|(simp only;omega)) (by first|omega|(simp only;omega)) (by first|omega|(simp only;omega)) (by first|omega|(simp only;omega)) (by first|omega|(simp only;omega)) (by first|omega|(simp only;omega)) (by first|omega|(simp only;omega)))
  | some i=>
   rw[hi]at hk
   simp only at hk ⊢
   cases ht:R.sds[i]? with
   | none=>rw[ht]at hk;exact hk.elim
   | some t=>
    rw[ht]at hk
    obtain⟨gv,hk⟩:=hk
    obtain⟨s,hs⟩:=pick h.sl.symm ht
    rw[hs]
    simp only
    have hn:=(read_facts tx p hp).1
    have hc:=h.cfg
    rcases h.comes hs ht p.nu hn gv with⟨c1,c2,c3⟩|⟨c1,c2,c3⟩|⟨c1,c2,c3,c4⟩
    ·rw[if_pos c2]at hk
     obtain⟨k1,k2,k3⟩:=hk
     rw[if_pos c1,k1]
     exact⟨k2.symm,k3.symm,c3⟩
    ·rw[if_pos c2]at hk
     obtain⟨k1,k2,k3⟩:=hk
     rw[if_neg (by rw[c1];decide),if_pos c1,k1]
     exact⟨k2.symm,k3.symm,c3⟩
    ·rw[if_neg (by rw[c2];decide)]at hk
     obtain⟨cv,hk,k3⟩:=hk
     rw[if_neg (by rw[c1];decide),if_neg (by rw[c1];decide)]
     obtain⟨M1,hM1⟩:∃M1,({ tookM M i s p.nu.toNat with s:={ (tookM M i s p.nu.toNat).s with passed:=(tookM M i s p.nu.toNat).s.passed+1 } }:Md)=M1:=⟨_,rfl⟩
     obtain⟨R1,hR1⟩:∃R1,({ (rComes R i t p.nu M.c.window.toNat gv).1 with s:={ (rComes R i t p.nu M.c.window.toNat gv).1.s with passed:=(rComes R i t p.nu M.c.window.toNat gv).1.s.passed+1 } }:Rm)=R1:=⟨_,rfl⟩
     have w1:M1.wns=M.wns:=by rw[<-hM1];rfl
     have w2:M1.c=M.c:=by rw[<-hM1];rfl
     have w3:M1.last=M.last:=by rw[<-hM1];rfl
     simp only at c3 hk ⊢
     rw[hM1]at c3 ⊢
     rw[hR1]at c3 hk
     have hwl:=h.wl
     have g:=c3
     have w4:R1.wns=R.wns:=by rw[<-hR1];exact c4
     have ew:=h.wa
     rw[<-w1,<-w4]at ew
     obtain⟨p1,p2,p3⟩:=Rel.passes M1 p hn M.c.ring.toNat (by omega) cm cv R1 c3.wl ew _ _ _ hk
     obtain⟨q1,q2,q3,q4,q5,q6⟩:=hk.keeps
     have et:textsTo M p M.wns.length=textsTo M1 p R.wns.length:=by unfold textsTo;rw[w1,hwl]
     rw[et]
     rw[hwl]
     refine⟨p1.symm,k3.symm,?_⟩
     have eC:(passTo M1 p cm M.c.ring.toNat R.wns.length).c=M1.c:=rfl
     have eS:(passTo M1 p cm M.c.ring.toNat R.wns.length).s=M1.s:=rfl
     have eD:(passTo M1 p cm M.c.ring.toNat R.wns.length).sds=M1.sds:=rfl
     have eL:(passTo M1 p cm M.c.ring.toNat R.wns.length).last=M1.last:=rfl
     refine⟨by rw[eC];exact g.c.trans q1.symm,by rw[eC];exact g.ok,by rw[eS];exact g.s.trans q2.symm,by rw[eD,q3];exact g.sl,by rw[eD];exact g.s4,fun j x y a b=>?_,by rw[p2,passTo_len],by rw[passTo_len];exact g.w8,by rw[eC,w2];exact p3,by rw[eL];exact g.last.trans q4.symm,by rw[eL];exact g.lb,fun x hx=>?_,by rw[eS];exact g.now,by rw[eS];exact g.tok,by rw[eS];exact g.cnt⟩
     ·rw[eD]at a
      rw[q3]at b
      exact g.sa j x y a b
     ·obtain⟨j,hj⟩:=List.getElem?_of_mem hx
      have hjl:=(List.getElem?_eq_some_iff.1 hj).1
      rw[passTo_len]at hjl
      obtain⟨x0,hx0⟩:∃x0,M1.wns[j]? = some x0:=⟨_,List.getElem?_eq_getElem hjl⟩
      rw[passTo_at _ p cm _ _ j x0 hx0,Option.some.injEq]at hj
      have hx1:=c3.ids x0 (List.mem_of_getElem? hx0)
      rw[<-hj,eL]
      split
      ·exact hx1
      ·exact hx1
end
end Rl
namespace Pk
def firstOk (ex:Bool) (ty nu ti so pr pa:Int) (n:Nat) (en:ByteArray):Prop:=
 (0<=ty/\ty<=127)/\(0<=nu/\nu<=65535)/\(0<=ti/\ti<=4294967295)/\(0<=so/\so<=4294967295)/\(0<=pr/\pr<=65535)/\(0<=pa/\pa<=255)/\n<=15/\en.size%4=0/\(ex=false->pr=0/\en.size=0)
theorem firstOk_of {ex:Bool}{ty nu ti so pr pa:Int}{cl:List Int}{en:ByteArray}(h:tellOk ex ty nu ti so pr pa cl en=true):firstOk ex ty nu ti so pr pa cl.length en:=by
 simp only[tellOk,Bool.and_eq_true,decide_eq_true_eq]at h
 obtain⟨⟨hh,hx⟩,hp⟩:=h
 obtain⟨h1,h2,h3,h4,h5,_⟩:=headOk_of hh
 refine⟨h1,h2,h3,h4,extOk_pr hx,hp,h5,?_,?_⟩
 ·cases ex
  ·have:=extOk_en hx rfl;omega
  ·rw[extOk_yes,Bool.and_eq_true,decide_eq_true_eq,decide_eq_true_eq]at hx;exact hx.2
 ·intro e
  subst e
  rw[extOk_no,Bool.and_eq_true,decide_eq_true_eq,decide_eq_true_eq]at hx;exact hx
theorem tellOk_of {ex:Bool}{ty nu ti so pr pa:Int}{cl:List Int}{en:ByteArray}(h:firstOk ex ty nu ti so pr pa cl.length en) (hc:allIn cl 4294967295=true):tellOk ex ty nu ti so pr pa cl en=true:=by
 obtain⟨h1,h2,h3,h4,h5,h6,h7,h8,h9⟩:=h
 simp only[tellOk,headOk,Bool.and_eq_true]
 refine⟨⟨⟨⟨⟨⟨⟨decide_eq_true h1,decide_eq_true h2⟩,decide_eq_true h3⟩,decide_eq_true h4⟩,decide_eq_true h7⟩,hc⟩,?_⟩,decide_eq_true h6⟩
 cases ex
 ·rw[extOk_no,decide_eq_true (h9 rfl).1,decide_eq_true (h9 rfl).2];rfl
 ·rw[extOk_yes,decide_eq_true h5,decide_eq_true h8];rfl
theorem tellR_no {mk ex:Bool}{ty nu ti so pr pa:Int}{cl:List Int}{en py:ByteArray}(h:tellOk ex ty nu ti so pr pa cl en=false):tellR mk ex ty nu ti so pr pa cl en py=(⟨#[]⟩,2):=by
 unfold tellR;rw[if_neg (by rw[h];simp)]
end Pk
set_option maxRecDepth 100000 in
theorem refTell_first (mk ex:Bool) (ty nu ti so pr pa:Int) (ao:Option Addr) (n cap:Nat) (en py:ByteArray) (w:World) (hn:n<=17592186044416)
  (hen:en.size<=maxLen) (hno:¬firstOk ex ty nu ti so pr pa n en) :
  Calls Tryz.prog 45 #[.agg #[.bool mk,.int .i64 ty,.int .i64 nu,.int .i64 ti,.int .i64 so,.slice ao n cap,.bool ex,.int .i64 pr,.string en,.string py,.int .i64 pa]] w
   fun e w'=>e = .returned (.tuple #[.string ⟨#[]⟩,.int .i64 2])/\Below w.heap.size w w':=by
 unfold maxLen at hen
 have Hno:=hyd hno
 clear hno
 cases ex
 ·go_enter Tryz.func45,Tryz.ntmps45
  go_wp2_with (go_at_call 36;refine(refIn_any _ _ _).mono ?_;rintro e w' ⟨rfl,rfl⟩)
  all_goals first
   | (go_ret2;exact⟨rfl,(Below.refl _ _).alloc (Nat.le_refl _) _⟩)
   | (exfalso;refine Hno.out ⟨by assumption,by assumption,by assumption,by assumption,by assumption,by assumption,by omega,by omega,fun _=>⟨by assumption,?_⟩⟩;have h:en.toList.isEmpty=true:=(by first|assumption|simp_all);rw[isEmpty_size]at h;exact of_decide_eq_true h)
 ·go_enter Tryz.func45,Tryz.ntmps45
  go_wp2_with (go_at_call 36;refine(refIn_any _ _ _).mono ?_;rintro e w' ⟨rfl,rfl⟩)
  all_goals first
   | (go_ret2;exact⟨rfl,(Below.refl _ _).alloc (Nat.le_refl _) _⟩)
   | (exfalso;exact Hno.out ⟨by assumption,by assumption,by assumption,by assumption,by assumption,by assumption,by omega,by omega,fun h=>by cases h⟩)
theorem refTold_int (k:Nat) (x:Int) (w:World) (hk:k<=8) (h0:0<=x) (h1:x<9223372036854775808) :
  Calls Tryz.prog 70 #[.int .i64 x,.int .i64 k] w fun e w'=>(∃t:ByteArray,e = .returned (.string t)/\t.data.toList=told x.toNat k/\t.size=k)/\Below w.heap.size w w':=by
 obtain⟨q,rfl⟩:=Int.eq_ofNat_of_zero_le h0
 rw[Int.toNat_natCast]
 refine(refTold_any k q w hk (by omega)).mono ?_
 rintro e w' ⟨⟨t,rfl,ht⟩,hb⟩
 exact⟨⟨t,rfl,ht,by rw[Lib.size_eq,ht,told_length]⟩,hb⟩
theorem tell_done {mk ex:Bool}{ty nu ti so pr pa:Int}{cl:List Int}{en py:ByteArray}(s:ByteArray) (hok:tellOk ex ty nu ti so pr pa cl en=true) (h:s.data.toList=tellB mk ex ty nu ti so pr pa cl en py) :
  tellR mk ex ty nu ti so pr pa cl en py=if 1500<s.size then(⟨#[]⟩,1)else(s,0):=by
 have hp:0<=pa:=by simp only[tellOk,Bool.and_eq_true,decide_eq_true_eq]at hok;exact hok.2.1
 have hl:=tellB_length mk ex ty nu ti so pr pa cl en py hp
 have hsz:s.size=(tellB mk ex ty nu ti so pr pa cl en py).length:=by rw[Lib.size_eq,h]
 unfold tellR
 rw[if_pos hok]
 by_cases hL:1500<s.size
 ·rw[if_pos hL,if_pos (by omega)]
 ·rw[if_neg hL,if_neg (by omega)]
  congr 1
  apply ba_ext
  rw[h]
theorem told_one (x:Nat) (h:x<256):told x 1=[UInt8.ofNat x]:=by
 simp only[told,List.nil_append]
 rw[Nat.mod_eq_of_lt h]
theorem heads (n:Nat) (mk pd ex:Bool) (ty:Nat) (hn:n<=15) (hty:ty<=127) :
  told (128+n+(if pd then 32 else 0)+if ex then 16 else 0) 1++told (ty+if mk then 128 else 0) 1=[hdB n pd ex,tyB ty mk]:=by
 rw[told_one _ (by cases pd<;>cases ex<;>simp<;>omega),told_one _ (by cases mk<;>simp<;>omega)]
 rfl
theorem tells {mk ex:Bool}{ty nu ti so pr pa:Int}{cl:List Int}{en py:ByteArray}(h:firstOk ex ty nu ti so pr pa cl.length en) (hd sec:Int) (X D:List UInt8)
  (h1:hd=128+cl.length+(if ex then 16 else 0)+if 0<pa then 32 else 0) (h2:sec=ty+if mk then 128 else 0) (hX:X=extB ex pr.toNat en.data.toList) (hD:D=padB pa.toNat) :
  told hd.toNat 1++told sec.toNat 1++told nu.toNat 2++told ti.toNat 4++told so.toNat 4++(conB cl++X++py.data.toList++D)=tellB mk ex ty nu ti so pr pa cl en py:=by
 obtain⟨a1,a2,a3,a4,a5,a6,a7,a8,a9⟩:=h
 have hh:=heads cl.length mk (decide (0<pa)) ex ty.toNat a7 (by omega)
 have e1:hd.toNat=128+cl.length+(if decide (0<pa)=true then 32 else 0)+if ex then 16 else 0:=by
  rw[h1]
  by_cases hp:0<pa<;>cases ex<;>simp[hp]<;>omega
 have e2:sec.toNat=ty.toNat+if mk then 128 else 0:=by
  rw[h2]
  cases mk<;>simp<;>omega
 rw[e1,e2,hh,hX,hD]
 unfold tellB headB
 simp only[List.append_assoc]
theorem refNoughts_int (x:Int) (w:World) (h0:0<=x) (h1:x<=255) :
  Calls Tryz.prog 71 #[.int .i64 x] w fun e w'=>(∃t:ByteArray,e = .returned (.string t)/\t.data.toList=List.replicate x.toNat 0/\t.size<=255)/\w'=w:=by
 obtain⟨q,rfl⟩:=Int.eq_ofNat_of_zero_le h0
 rw[Int.toNat_natCast]
 refine(refNoughts_any q w (by omega)).mono ?_
 rintro e w' ⟨⟨t,rfl,ht⟩,hb⟩
 exact⟨⟨t,rfl,ht,by rw[Lib.size_eq,ht,List.length_replicate];omega⟩,hb⟩
end Go.Proofs.YtdjhhnolcafkiaaGreat
