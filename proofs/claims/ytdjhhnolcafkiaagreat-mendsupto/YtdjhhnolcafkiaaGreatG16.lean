import Derived.Test.YtdjhhnolcafkiaaGreatG15
import Derived.Test.YtdjhhnolcafkiaaGreatG12
import Derived.Test.YtdjhhnolcafkiaaGreatG13
import Derived.Test.YtdjhhnolcafkiaaGreatG14
import Derived.Test.YtdjhhnolcafkiaaGreatG01
set_option linter.unusedVariables false
set_option linter.unusedSimpArgs false
set_option maxHeartbeats 40000000
set_option maxRecDepth 20000
namespace Go.Proofs.YtdjhhnolcafkiaaGreat
open Go.RowKit Pk
namespace Rl
theorem entNums_len (p bits:Nat):(entNums p bits).length<=17:=by
 unfold entNums setOf
 rw[List.length_cons,List.length_map]
 have:=List.length_filter_le (fun i=>bits.testBit i) (List.range 16)
 rw[List.length_range]at this
 omega
theorem entsR_len:∀l:List UInt8,(entsR l).length<=5*l.length
 | a::b::c::d::r=>by
  have h1:=entsR_len r
  have h2:=entNums_len (num [a,b]) (num [c,d])
  rw[entsR,List.length_append]
  simp only[List.length_cons]
  omega
 | []=>by simp[entsR]
 | [_]=>by simp[entsR]
 | [_,_]=>by simp[entsR]
 | [_,_,_]=>by simp[entsR]
theorem partsR_sum:∀(n:Nat) (l:List UInt8) (L:List (Nat × Nat × List Int)),partsR n l=some L->(L.map fun y=>y.2.2.length).sum<=5*l.length:=by
 intro n
 induction n with
 | zero=>
  intro l L h
  unfold partsR at h
  split at h
  ·cases h;simp
  ·cases h
 | succ n ih=>
  intro l L h
  unfold partsR at h
  split at h
  ·cases h;simp
  ·split at h
   ·cases h
   ·split at h
    ·cases h
    ·rename_i h3
     split at h
     ·split at h
      ·cases h
      ·rename_i h4
       obtain⟨L',hL',e⟩:=Option.map_eq_some_iff.1 h
       have h5:=ih _ _ hL'
       have h6:=entsR_len ((l.drop 12).take (partLen l-12))
       rw[List.length_drop]at h5
       rw[List.length_take,List.length_drop]at h6
       rw[<-e,List.map_cons,List.sum_cons]
       simp only
       omega
     ·have:=ih _ _ h
      rw[List.length_drop]at this
      omega
theorem repR_sum {t:ByteArray}{L:List (Nat × Nat × List Int)}(h:repR t=some L):(L.map fun y=>y.2.2.length).sum<=7500:=by
 unfold repR at h
 split at h
 ·cases h
 ·rename_i h1
  have:=partsR_sum _ _ _ h
  rw[<-Lib.size_eq]at this
  omega
structure RepI (n:Nat) (M:Md) (R:Rm) (i:Nat) (y:Rw) (c:Nat) (a:Md × List ByteArray) (S:Rm × List ByteArray) (Ss:Stt) (x':Wn) (y':Rw):Prop where
 a1:a.1={ M with s:=Ss,wns:=M.wns.set i x' }
 s1:S.1={ R with s:=Ss,wns:=R.wns.set i y' }
 t:a.2=S.2
 tl:a.2.length<=c
 wx:WX M.c.ring.toNat M.c.delay M.s.now (10000*n+c) x' y'
 wr:WRel M.c.ring.toNat n x' y'
 pl:y'.pl=y.pl/\y'.id=y.id
 so:∃ag rf tk,Ss={ M.s with again:=ag,refused:=rf,tokens:=tk }/\(M.s.again<=ag/\ag<=M.s.again+c)/\(M.s.refused<=rf/\rf<=M.s.refused+c)/\0<=tk/\tk<=M.s.tokens
section
variable {n : Nat} {M : Md} {R : Rm} {i : Nat} {y : Rw}
theorem RepI.num (h0:Rel2 n M R) (hi:i<M.wns.length){c:Nat}{a:Md × List ByteArray}{S:Rm × List ByteArray}{Ss:Stt}{x':Wn}{y':Rw}(h:RepI n M R i y c a S Ss x' y') (m:Int) (hm:0<=m/\m<=65535) :
  ∃Ss2 x2 y2,RepI n M R i y (c+1) (stp i a m) (rNum i M.c.ring.toNat S m) Ss2 x2 y2:=by
 obtain⟨ag,rf,tk,e,b1,b2,b3⟩:=h.so
 have hnow0:=h0.r.now.1
 have hil2:i<R.wns.length:=by rw[<-h0.r.wl];exact hi
 have hax:a.1.wns[i]? = some x':=by rw[h.a1];simp[hi]
 have hsx:S.1.wns[i]? = some y':=by rw[h.s1];simp[hil2]
 have hm16:(m%65536).toNat=m.toNat:=by omega
 have hnow:a.1.s.now=M.s.now:=by rw[h.a1];show Ss.now=_;rw[e]
 have htok:a.1.s.tokens=tk:=by rw[h.a1];show Ss.tokens=_;rw[e]
 have hdel:a.1.c.delay=M.c.delay:=by rw[h.a1]
 have hS:S.1.s.now=M.s.now/\S.1.c.delay=M.c.delay/\S.1.s.tokens=tk:=by
  rw[h.s1]
  refine⟨by show Ss.now=_;rw[e],?_,by show Ss.tokens=_;rw[e]⟩
  show R.c.delay=_
  rw[h0.r.c]
 have hag:=WX.again (tokens:=tk) h.wx h.wr hnow0 m hm S.1 i hS
 unfold stp stepM rNum
 rw[hax,hsx,hm16,hnow,hdel,htok]
 simp only
 rcases hag with⟨g1,g2⟩|⟨t,y2,g1,g2,g3,g4,g5,g6⟩
 ·rw[g1,g2]
  refine⟨{ Ss with refused:=Ss.refused+1 },x',y',?_,?_,?_,?_,h.wx.later (Int.le_refl _) (by omega),h.wr,h.pl,ag,rf+1,tk,?_,?_,?_,b3⟩
  ·simp only
   rw[h.a1]
  ·simp only
   rw[h.s1]
  ·simp[h.t]
  ·have:=h.tl;simp;omega
  ·rw[e]
  ·omega
  ·omega
 ·rw[g1,g3]
  refine⟨{ Ss with again:=Ss.again+1,tokens:=tk-t.size },(againF x' m.toNat M.s.now M.c.delay tk).1,y2,?_,?_,?_,?_,g4.later (Int.le_refl _) (by omega),g6 n h.wr,⟨g5.1.trans h.pl.1,g5.2.trans h.pl.2⟩,ag+1,rf,tk-t.size,?_,?_,?_,?_⟩
  ·simp only
   rw[h.a1]
   simp only[List.set_set]
  ·simp only
   have ht3:=hS.2.2
   rw[h.s1]at ht3 ⊢
   simp only[List.set_set]at ht3 ⊢
   rw[ht3]
  ·simp[h.t]
  ·have:=h.tl;simp;omega
  ·rw[e]
  ·omega
  ·omega
  ·omega
theorem RepI.nums (h0:Rel2 n M R) (hi:i<M.wns.length):∀(l:List Int),(∀m∈l,0<=m/\m<=65535)->∀(c:Nat) (a:Md × List ByteArray) (S:Rm × List ByteArray) (Ss:Stt) (x':Wn) (y':Rw),RepI n M R i y c a S Ss x' y'->
  ∃Ss2 x2 y2,RepI n M R i y (c+l.length) (numsM i l a) (rNums1 i M.c.ring.toNat S l) Ss2 x2 y2
 | [],_,c,a,S,Ss,x',y',h=>⟨Ss,x',y',h⟩
 | m::l,hl,c,a,S,Ss,x',y',h=>by
  obtain⟨S2,x2,y2,h2⟩:=h.num h0 hi m (hl m (by simp))
  obtain⟨S3,x3,y3,h3⟩:=RepI.nums h0 hi l (fun m hm=>hl m (by simp[hm])) (c+1) _ _ S2 x2 y2 h2
  refine⟨S3,x3,y3,?_⟩
  rw[List.length_cons,show c+(l.length+1)=c+1+l.length by omega]
  exact h3
theorem RepI.asks (h0:Rel2 n M R) (hi:i<M.wns.length) (src:Int):∀(L:List (Nat × Nat × List Int)),(∀z∈L,In16 z.2.2)->∀(c:Nat) (a:Md × List ByteArray) (S:Rm × List ByteArray) (Ss:Stt) (x':Wn) (y':Rw),RepI n M R i y c a S Ss x' y'->
  ∃Ss2 x2 y2,RepI n M R i y (c+(L.map fun z=>z.2.2.length).sum) (asksM i src (repL L) a) (rAsks i M.c.ring.toNat src S (L.map fun z=>((z.2.1:Int),z.2.2))) Ss2 x2 y2
 | [],_,c,a,S,Ss,x',y',h=>⟨Ss,x',y',h⟩
 | z::L,hl,c,a,S,Ss,x',y',h=>by
  have key:∃Ss2 x2 y2,RepI n M R i y (c+z.2.2.length) (if(z.2.1:Int)=src then numsM i z.2.2 a else a) (if(z.2.1:Int)=src then rNums1 i M.c.ring.toNat S z.2.2 else S) Ss2 x2 y2:=by
   split
   ·exact RepI.nums h0 hi z.2.2 (hl z (by simp)) c a S Ss x' y' h
   ·exact⟨Ss,x',y',h.a1,h.s1,h.t,by have:=h.tl;omega,h.wx.later (Int.le_refl _) (by omega),h.wr,h.pl,by
     obtain⟨ag,rf,tk,e,b1,b2,b3⟩:=h.so
     exact⟨ag,rf,tk,e,by omega,by omega,b3⟩⟩
  obtain⟨S2,x2,y2,h2⟩:=key
  obtain⟨S3,x3,y3,h3⟩:=RepI.asks h0 hi src L (fun z hz=>hl z (by simp[hz])) _ _ _ S2 x2 y2 h2
  refine⟨S3,x3,y3,?_⟩
  rw[List.map_cons,List.sum_cons,<-Nat.add_assoc]
  exact h3
theorem Rel2.report (h:Rel2 n M R) (id:Int) (t:ByteArray):(reportM M id t).2.1=(rReport R id t M.c.ring.toNat).2.1/\(reportM M id t).2.2=(rReport R id t M.c.ring.toNat).2.2/\(reportM M id t).2.1.length<=7500/\Rel2 (n+1) (reportM M id t).1 (rReport R id t M.c.ring.toNat).1:=by
 have g:=h.mono (Nat.le_succ n)
 have hS:=h.r.s
 unfold reportM rReport
 rw[h.r.wpos]
 cases hk:rwPos R id with
 | none=>exact⟨rfl,rfl,Nat.zero_le _,g⟩
 | some i=>
  simp only
  cases hL:repR t with
  | none=>
   refine⟨rfl,rfl,Nat.zero_le _,?_⟩
   simp only
   rw[<-hS]
   refine⟨?_,g.wx,g.gx⟩
   exact h.r.count _ rfl rfl (h.r.cnts _ _ _ _ _ _ _ _ _ (by first|omega|(simp only;omega)) (by first|omega|(simp only;omega)) (by first|omega|(simp only;omega)) (by first|omega|(simp only;omega)) (by first|omega|(simp only;omega)) (by first|omega|(simp only;omega)) (by first|omega|(simp only;omega)) (by first|omega|(simp only;omega)) (by first|omega|(simp only;omega)))
  | some L=>
   simp only
   have hil:i<R.wns.length:=(List.findIdx?_eq_some_iff_getElem.1 hk).1
   have hil2:i<M.wns.length:=by rw[h.r.wl];exact hil
   obtain⟨x,hx⟩:∃x,M.wns[i]? = some x:=⟨_,List.getElem?_eq_getElem hil2⟩
   obtain⟨y,hy⟩:∃y,R.wns[i]? = some y:=⟨_,List.getElem?_eq_getElem hil⟩
   have hxe:M.wns[i]=x:=(List.getElem?_eq_some_iff.1 hx).2
   have hye:R.wns[i]=y:=(List.getElem?_eq_some_iff.1 hy).2
   have w0:=h.r.wa i x y hx hy
   have x0:=h.wx i x y hx hy
   rw[hx,hy]
   simp only
   have eM:M.wns.set i x=M.wns:=by rw[<-hxe];exact List.set_getElem_self hil2
   have eR:R.wns.set i y=R.wns:=by rw[<-hye];exact List.set_getElem_self hil
   have st:RepI n M R i y 0 (M,[]) (R,[]) M.s x y:=⟨by rw[eM],by rw[eR,hS],rfl,Nat.le_refl _,x0.later (Int.le_refl _) (by omega),w0,⟨rfl,rfl⟩,M.s.again,M.s.refused,M.s.tokens,rfl,by omega,by omega,h.r.tok.1,Int.le_refl _⟩
   have hsum:=repR_sum hL
   obtain⟨Ss,x2,y2,hI⟩:=RepI.asks h hil2 x.src L (repR_in16 hL) 0 _ _ _ _ _ st
   rw[w0.src]at hI ⊢
   rw[Nat.zero_add]at hI
   generalize (L.map fun z=>z.2.2.length).sum=c at *
   have hcnt:=h.r.cnt
   have htok:=h.r.tok
   obtain⟨ag,rf,tk,e,b1,b2,b3⟩:=hI.so
   refine⟨hI.t,trivial,by have:=hI.tl;omega,?_⟩
   rw[hI.a1,hI.s1]
   have hwR:Rel (n+1) { M with s:=Ss,wns:=M.wns.set i x2 } { R with s:=Ss,wns:=R.wns.set i y2 }:=by
    refine⟨g.r.c,g.r.ok,rfl,g.r.sl,g.r.s4,g.r.sa,by simp only[List.length_set];exact g.r.wl,by simp only[List.length_set];exact g.r.w8,fun j u v a b=>?_,g.r.last,g.r.lb,fun u hu=>?_,?_,?_,?_⟩
    ·rcases at_set hil2 a with⟨e1,e2⟩|⟨e1,e2⟩
     ·rcases at_set hil b with⟨f1,f2⟩|⟨f1,f2⟩
      ·subst e2 f2
       exact hI.wr.mono (Nat.le_succ n)
      ·exact absurd e1 f1
     ·rcases at_set hil b with⟨f1,f2⟩|⟨f1,f2⟩
      ·exact absurd f1 e1
      ·exact g.r.wa j u v e2 f2
    ·rcases List.mem_or_eq_of_mem_set hu with hu|rfl
     ·exact g.r.ids u hu
     ·have h1:=h.r.ids x (List.mem_of_getElem? hx)
      have h2:=hI.wr.id
      have h3:=w0.id
      have h4:=hI.pl.2
      simp only
      omega
    ·rw[e];exact g.r.now
    ·rw[e];simp only;omega
    ·rw[e]
     simp only[List.mem_cons,List.not_mem_nil,or_false,forall_eq_or_imp,forall_eq]at hcnt ⊢
     omega
   refine⟨hwR,fun j u v a b=>?_,?_⟩
   ·have hnow:Ss.now=M.s.now:=by rw[e]
    show WX M.c.ring.toNat M.c.delay Ss.now _ u v
    rw[hnow]
    rcases at_set hil2 a with⟨e1,e2⟩|⟨e1,e2⟩
    ·rcases at_set hil b with⟨f1,f2⟩|⟨f1,f2⟩
     ·subst e2 f2
      exact hI.wx.later (Int.le_refl _) (by omega)
     ·exact absurd e1 f1
    ·rcases at_set hil b with⟨f1,f2⟩|⟨f1,f2⟩
     ·exact absurd f1 e1
     ·exact g.wx j u v e2 f2
   ·have hnow:Ss.now=M.s.now:=by rw[e]
    show ∀(i:Nat) (t:Rs),R.sds[i]? = some t->∀g∈t.gaps,(0<=g.last/\g.last<=Ss.now)/\_
    rw[hnow]
    exact g.gx
end
end Rl
namespace Rl
theorem due_eq (now retry:Int) (g:Rg):dueB now retry (gMap g)=rDue now retry g:=rfl
theorem up_eq (now retry:Int) (g:Rg):upG now retry (gMap g)=gMap (rUpG now retry g):=by
 unfold upG rUpG
 rw[due_eq]
 split<;>rfl
theorem kept_eq (now retry tries:Int) (l:List Rg):keptG now retry tries (l.map gMap)=(rKeptT now retry tries l).map gMap:=by
 unfold keptG rKeptT
 rw[List.filter_map]
 rfl
theorem left_eq (now retry tries:Int) (l:List Rg):(keptG now retry tries (l.map gMap)).map (upG now retry)=(rLeftT now retry tries l).map gMap:=by
 rw[kept_eq]
 unfold rLeftT
 rw[List.map_map,List.map_map]
 apply List.map_congr_left
 intro g _
 exact up_eq now retry g
theorem ask_eq (now retry tries:Int) (l:List Rg):names ((keptG now retry tries (l.map gMap)).filter (dueB now retry))=rAskT now retry tries l:=by
 rw[kept_eq,List.filter_map]
 unfold names rAskT
 rw[List.map_map]
 apply List.map_congr_left
 intro g _
 show((g.n%65536).toNat:Int)=g.n%65536
 omega
theorem rUpG_n (now retry:Int) (g:Rg):(rUpG now retry g).n=g.n:=by unfold rUpG;split<;>rfl
theorem SRel.ask {win n:Nat}{s:Sd}{t:Rs}(h:SRel win n s t) (now retry tries:Int) (gv:Value):SRel win n (askS s now retry tries) ⟨t.src,t.newest,gv,rLeftT now retry tries t.gaps⟩/\askedS s now retry tries=rAskT now retry tries t.gaps/\(keptG now retry tries s.gaps).length=(rKeptT now retry tries t.gaps).length/\s.gaps.length=t.gaps.length:=by
 have hg:=h.gaps
 refine⟨⟨h.src,fun e=>?_,h.yes,?_,?_,fun g hg=>?_,h.n16,h.hi⟩,?_,?_,?_⟩
 ·obtain⟨e1,e2⟩:=h.no e
  refine⟨e1,?_⟩
  show rLeftT now retry tries t.gaps=[]
  rw[e2]
  rfl
 ·show(keptG now retry tries s.gaps).map (upG now retry)=_
  rw[hg]
  exact left_eq now retry tries t.gaps
 ·show(rLeftT now retry tries t.gaps).Pairwise _
  unfold rLeftT
  rw[List.pairwise_map]
  exact(h.rise.filter _).imp (fun{a b} hab=>by rw[rUpG_n,rUpG_n];exact hab)
 ·have hg':g∈rLeftT now retry tries t.gaps:=hg
  unfold rLeftT at hg'
  obtain⟨d,hd,rfl⟩:=List.mem_map.1 hg'
  rw[rUpG_n]
  exact h.near d (List.mem_filter.1 hd).1
 ·unfold askedS
  rw[hg]
  exact ask_eq now retry tries t.gaps
 ·rw[hg,kept_eq,List.length_map]
 ·rw[hg,List.length_map]
structure TkI (n:Nat) (M:Md) (R:Rm) (k:Nat) (a:Md × List ByteArray) (R':Rm) (out:List ByteArray) (Ss:Stt) (da:List Sd) (db:List Rs):Prop where
 a1:a.1={ M with s:=Ss,sds:=da }
 s1:R'={ R with s:=Ss,sds:=db }
 t:a.2=out
 tl:a.2.length<=k
 l1:da.length=M.sds.length
 l2:db.length=R.sds.length
 sa:∀(i:Nat) (s:Sd) (t:Rs),da[i]? = some s->db[i]? = some t->SRel M.c.window.toNat n s t
 gx:∀(i:Nat) (t:Rs),db[i]? = some t->∀g∈t.gaps,(0<=g.last/\g.last<=M.s.now)/\0<=g.tries/\g.tries<=n+1
 rest:∀(i:Nat) (t:Rs),k<=i->db[i]? = some t->∀g∈t.gaps,g.tries<=n
 so:∃ask gu,Ss={ M.s with asked:=ask,givenUp:=gu }/\(M.s.asked<=ask/\ask<=M.s.asked+200*k)/\(M.s.givenUp<=gu/\gu<=M.s.givenUp+200*k)
section
variable {n : Nat} {M : Md} {R : Rm}
theorem TkI.step (hc:M.c=R.c) (hw:M.c.window.toNat<=200) (hnow:0<=M.s.now) (hsl:M.sds.length=R.sds.length){k:Nat}{a:Md × List ByteArray}{R':Rm}{out:List ByteArray}{Ss:Stt}{da:List Sd}{db:List Rs}(h:TkI n M R k a R' out Ss da db){t:Rs}(ht:R'.sds[k]? = some t) (gv:Value) :
  ∃Ss2 da2 db2,TkI n M R (k+1) (askStep a k) (rTickS R' k t gv) (out++rTickT R' t) Ss2 da2 db2:=by
 obtain⟨ask,gu,e,b1,b2⟩:=h.so
 have hdb:db[k]? = some t:=by have:=ht;rw[h.s1]at this;exact this
 have hkb:k<db.length:=(List.getElem?_eq_some_iff.1 hdb).1
 have hka:k<da.length:=by rw[h.l1,hsl,<-h.l2];exact hkb
 obtain⟨s,hs⟩:∃s,da[k]? = some s:=⟨_,List.getElem?_eq_getElem hka⟩
 have hr:=h.sa k s t hs hdb
 have hlen:=hr.len hw
 obtain⟨q1,q2,q3,q4⟩:=hr.ask M.s.now M.c.retry M.c.tries gv
 have hkl:(rKeptT M.s.now M.c.retry M.c.tries t.gaps).length<=t.gaps.length:=List.length_filter_le _ _
 have hal:(rAskT M.s.now M.c.retry M.c.tries t.gaps).length<=t.gaps.length:=by
  unfold rAskT
  rw[List.length_map]
  exact Nat.le_trans (List.length_filter_le _ _) hkl
 have ea:a.1.sds[k]? = some s:=by rw[h.a1];exact hs
 have n1:a.1.s.now=M.s.now:=by rw[h.a1];show Ss.now=_;rw[e]
 have n2:a.1.c=M.c:=by rw[h.a1]
 have n3:R'.s.now=M.s.now:=by rw[h.s1];show Ss.now=_;rw[e]
 have n4:R'.c=M.c:=by rw[h.s1];exact hc.symm
 have hst:askStep a k=({ a.1 with sds:=a.1.sds.set k (askS s M.s.now M.c.retry M.c.tries),s:={ a.1.s with asked:=a.1.s.asked+(rAskT M.s.now M.c.retry M.c.tries t.gaps).length,givenUp:=a.1.s.givenUp+((t.gaps.length:Int)-(rKeptT M.s.now M.c.retry M.c.tries t.gaps).length) } },a.2++if(rAskT M.s.now M.c.retry M.c.tries t.gaps).length=0 then[]else[(askR 0 t.src (rAskT M.s.now M.c.retry M.c.tries t.gaps)).1]):=by
  unfold askStep
  rw[ea]
  simp only
  rw[n1,n2,q2,q3,q4,hr.src]
 refine⟨{ Ss with asked:=Ss.asked+(rAskT M.s.now M.c.retry M.c.tries t.gaps).length,givenUp:=Ss.givenUp+((t.gaps.length:Int)-(rKeptT M.s.now M.c.retry M.c.tries t.gaps).length) },da.set k (askS s M.s.now M.c.retry M.c.tries),db.set k ⟨t.src,t.newest,gv,rLeftT M.s.now M.c.retry M.c.tries t.gaps⟩,?_,?_,?_,?_,by rw[List.length_set];exact h.l1,by rw[List.length_set];exact h.l2,?_,?_,?_,?_⟩
 ·rw[hst]
  simp only
  rw[h.a1]
 ·unfold rTickS
  rw[n3,n4,h.s1,hc]
 ·rw[hst,h.t]
  unfold rTickT
  rw[n3,n4]
 ·rw[hst]
  have:=h.tl
  simp only[List.length_append]
  split<;>simp<;>omega
 ·intro i u v a' b'
  rcases at_set hka a' with⟨e1,e2⟩|⟨e1,e2⟩
  ·rcases at_set hkb b' with⟨f1,f2⟩|⟨f1,f2⟩
   ·subst e2 f2;exact q1
   ·exact absurd e1 f1
  ·rcases at_set hkb b' with⟨f1,f2⟩|⟨f1,f2⟩
   ·exact absurd f1 e1
   ·exact h.sa i u v e2 f2
 ·intro i v b' g hg
  rcases at_set hkb b' with⟨f1,f2⟩|⟨f1,f2⟩
  ·subst f2
   have hg':g∈rLeftT M.s.now M.c.retry M.c.tries t.gaps:=hg
   unfold rLeftT at hg'
   obtain⟨d,hd,rfl⟩:=List.mem_map.1 hg'
   have h1:=h.gx k t hdb d (List.mem_filter.1 hd).1
   have h2:=h.rest k t (Nat.le_refl _) hdb d (List.mem_filter.1 hd).1
   unfold rUpG
   split
   ·simp only;omega
   ·exact h1
  ·exact h.gx i v f2 g hg
 ·intro i v hi b' g hg
  rcases at_set hkb b' with⟨f1,f2⟩|⟨f1,f2⟩
  ·omega
  ·exact h.rest i v (by omega) f2 g hg
 ·refine⟨ask+(rAskT M.s.now M.c.retry M.c.tries t.gaps).length,gu+((t.gaps.length:Int)-(rKeptT M.s.now M.c.retry M.c.tries t.gaps).length),by rw[e],by omega,by omega⟩
theorem TkI.all (hc:M.c=R.c) (hw:M.c.window.toNat<=200) (hnow:0<=M.s.now) (hsl:M.sds.length=R.sds.length) (hS:M.s=R.s) (hsa:∀(i:Nat) (s:Sd) (t:Rs),M.sds[i]? = some s->R.sds[i]? = some t->SRel M.c.window.toNat n s t) (hgx:∀(i:Nat) (t:Rs),R.sds[i]? = some t->∀g∈t.gaps,(0<=g.last/\g.last<=M.s.now)/\0<=g.tries/\g.tries<=n){k:Nat}{R':Rm}{out:List ByteArray}(h:RTk R k R' out) :
  ∃Ss da db,TkI n M R k (askAll M k) R' out Ss da db:=by
 induction h using RTk.ind with
 | zero=>exact⟨M.s,M.sds,R.sds,rfl,by rw[hS],rfl,Nat.le_refl _,rfl,rfl,hsa,fun i t ht g hg=>by have:=hgx i t ht g hg;omega,fun i t _ ht g hg=>(hgx i t ht g hg).2.2,M.s.asked,M.s.givenUp,rfl,by omega,by omega⟩
 | step gv _ hs ih=>
  obtain⟨Ss,da,db,hI⟩:=ih
  rw[askAll_succ]
  exact hI.step hc hw hnow hsl hs gv
theorem Rel2.tick (h:Rel2 n M R) (t:Int) (R':Rm) (out:List ByteArray) (e:Int) (hk:RTick R t R' out e):(tickM M t).2.1=out/\(tickM M t).2.2=e/\out.length<=4/\Rel2 (n+1) (tickM M t).1 R':=by
 unfold RTick at hk
 unfold tickM
 by_cases ht:0<=t/\t<=1000000
 ·rw[if_pos ht]at hk ⊢
  obtain⟨hk,rfl⟩:=hk
  have hcfg:=h.r.cfg
  have hn:=h.r.now
  have htok:=h.r.tok
  have hS:=h.r.s
  have g:=h.mono (Nat.le_succ n)
  have hws:(wentM M t).s=(rWent R t).s:=by
   unfold wentM rWent
   simp only
   rw[<-hS,<-h.r.c]
   congr 1
   rw[Int.min_def]
   split<;>split<;>omega
  have hrt:0<=M.c.rate*t:=Int.mul_nonneg hcfg.2.2.2.1.1 ht.1
  have htk:(wentM M t).s.tokens=min (M.s.tokens+M.c.rate*t) M.c.burst:=rfl
  obtain⟨Ss,da,db,hI⟩:=TkI.all (n:=n) (M:=wentM M t) (R:=rWent R t) h.r.c (by show M.c.window.toNat<=200;omega) (by show 0<=M.s.now+t;omega) h.r.sl hws h.r.sa (fun i u hu d hd=>by have:=h.gx i u hu d hd;show(0<=d.last/\d.last<=M.s.now+t)/\_;omega) hk
  rw[h.r.sl]
  obtain⟨ask,gu,e1,b1,b2⟩:=hI.so
  have h4:=h.r.s4
  have hsl:=h.r.sl
  have b1':M.s.asked<=ask/\ask<=M.s.asked+200*(R.sds.length:Int):=b1
  have b2':M.s.givenUp<=gu/\gu<=M.s.givenUp+200*(R.sds.length:Int):=b2
  have hcnt:=h.r.cnt
  refine⟨hI.t,rfl,by have:=hI.tl;rw[hI.t]at this;omega,?_⟩
  simp only
  rw[hI.a1,hI.s1]
  have hnow':Ss.now=M.s.now+t:=by rw[e1];rfl
  have htok':Ss.tokens=min (M.s.tokens+M.c.rate*t) M.c.burst:=by rw[e1];rfl
  refine⟨⟨h.r.c,h.r.ok,rfl,?_,?_,fun i s u a b=>(hI.sa i s u a b).mono (Nat.le_succ n),g.r.wl,g.r.w8,g.r.wa,g.r.last,g.r.lb,g.r.ids,?_,?_,?_⟩,fun i x y a b=>?_,fun i u hu d hd=>?_⟩
  ·show da.length=db.length
   rw[hI.l1,hI.l2]
   exact h.r.sl
  ·show da.length<=4
   rw[hI.l1]
   exact h4
  ·show 0<=Ss.now/\Ss.now<=_
   rw[hnow']
   omega
  ·show 0<=Ss.tokens/\Ss.tokens<=_
   rw[htok',Int.min_def]
   split<;>omega
  ·show ∀c∈[Ss.passed,Ss.late,Ss.doubled,Ss.wrong,Ss.unknown,Ss.again,Ss.refused,Ss.asked,Ss.givenUp],_
   rw[e1]
   show ∀c∈[M.s.passed,M.s.late,M.s.doubled,M.s.wrong,M.s.unknown,M.s.again,M.s.refused,ask,gu],_
   simp only[List.mem_cons,List.not_mem_nil,or_false,forall_eq_or_imp,forall_eq]at hcnt ⊢
   omega
  ·show WX M.c.ring.toNat M.c.delay Ss.now _ x y
   rw[hnow']
   exact(h.wx i x y a b).later (by omega) (by omega)
  ·have:=hI.gx i u hu d hd
   show(0<=d.last/\d.last<=Ss.now)/\_
   rw[hnow']
   have h2:(0<=d.last/\d.last<=M.s.now+t)/\0<=d.tries/\d.tries<=(n:Int)+1:=this
   omega
 ·rw[if_neg ht]at hk ⊢
  obtain⟨rfl,rfl,rfl⟩:=hk
  exact⟨rfl,rfl,Nat.zero_le _,h.mono (Nat.le_succ n)⟩
end
end Rl
end Go.Proofs.YtdjhhnolcafkiaaGreat
namespace Go.Proofs.YtdjhhnolcafkiaaGreat
open Go.RowKit Pk Rl
namespace Rl
section
variable {w : World} {F : Nat -> Nat -> Nat} {K : Nat} {pb mb rb : Nat -> Nat} {M : Nat -> Md} {R : Nat -> Rm} {g n q k : Nat}
theorem st_report (h:Sta w F K pb mb rb M R g n) (hk:k<K) (hr:Rel2 q (M k) (R k)) (hq:q<=10000000) (id:Int) (t:ByteArray) (ht:t.size<=maxLen) :
  Calls Tryz.prog 50 #[.pointer (some ⟨mb k,0,none⟩),.int .i64 id,.string t] w fun e w'=>∃tv F',e = .returned (.tuple #[tv,.int .i64 (reportM (M k) id t).2.2])/\Sta w' F' K pb mb rb (upd M k (reportM (M k) id t).1) R g n/\SMv w F w' F'/\
   w'.ownsRow w.heap.size 9 1 tv (reportM (M k) id t).2.1.length ((reportM (M k) id t).2.1.map Value.string)/\∀b,tv.ownBlock=some b->∀i,F' i b=0:=by
 obtain⟨sv,wv,SB,WB,a⟩:=h.md k hk
 refine(report_any _ _ _ _ _ _ _ id t w a (hr.r.mok hq) (fun x hx=>?_) ht).mono ?_
 ·obtain⟨i,y,h1,h2⟩:=mem_pick hr.r.wl hx
  have:=hr.wx i x y h1 h2
  exact⟨this.kok,this.s16⟩
 rintro e w' ⟨tv,rfl,ρ',sv',wv',SB',WB',m1,⟨m2,m3⟩,m4,m5⟩
 obtain⟨F',s1,s2,s3⟩:=h.turnM hk m1 m2 m3
 exact⟨tv,F',rfl,s1,s2,m4,fun b hb=>s3 b (fun i=>h.hi i b (m4.lt b hb).1) (m4.lt b hb).1 (m5 b hb)⟩
theorem Rel2.bounds {M0:Md}{R0:Rm}(hr:Rel2 q M0 R0) (hq:q<=2000000):RB R0 0:=by
 have h1:=hr.r.now
 have h2:=hr.r.tok
 have h3:=hr.r.cnt
 rw[hr.r.s]at h1 h2 h3
 simp only[List.mem_cons,List.not_mem_nil,or_false,forall_eq_or_imp,forall_eq]at h3
 refine⟨by omega,by omega,by omega,by omega,fun y hy=>?_⟩
 obtain⟨i,x,g1,g2⟩:=mem_pick hr.r.wl.symm hy
 have hx:=hr.wx i x y g2 g1
 have hw:=hr.r.wa i x y g2 g1
 have hal:=hw.al
 have hsb:=hx.sb
 rw[hr.r.s]at hx
 exact⟨by omega,fun e he=>by have:=hx.ab e he;omega,fun e he=>by have:=hx.ab e he;omega,hsb.1,by omega,hx.fb.1,hx.fb.2⟩
theorem st_refReport {M0:Md}(h:Sta w F K pb mb rb M R g n) (hk:k<K) (hr:Rel2 q M0 (R k)) (hq:q<=2000000) (id:Int) (t:ByteArray) (ht:t.size<=maxLen) :
  Calls Tryz.prog 51 #[.pointer (some ⟨rb k,0,none⟩),.int .i64 id,.string t] w fun e w'=>∃tv F',e = .returned (.tuple #[tv,.int .i64 (rReport (R k) id t M0.c.ring.toNat).2.2])/\Sta w' F' K pb mb rb M (upd R k (rReport (R k) id t M0.c.ring.toNat).1) g n/\SMv w F w' F'/\
   w'.ownsRow w.heap.size 9 1 tv (rReport (R k) id t M0.c.ring.toNat).2.1.length ((rReport (R k) id t M0.c.ring.toNat).2.1.map Value.string):=by
 obtain⟨sv,wv,a⟩:=h.rd k hk
 have hc:=hr.r.cfg
 have e1:=hr.r.c
 have h3:=hr.r.cnt
 rw[hr.r.s]at h3
 simp only[List.mem_cons,List.not_mem_nil,or_false,forall_eq_or_imp,forall_eq]at h3
 refine(refReport_any _ _ _ _ _ id t M0.c.ring.toNat w a (by rw[<-e1];omega) (by omega) (hr.bounds hq) (by omega) ht).mono ?_
 rintro e w' ⟨tv,rfl,m3,ρ',m1,m2,-⟩
 obtain⟨F',s1,s2,-⟩:=h.turnR hk m1 m2
 exact⟨tv,F',rfl,s1,s2,m3⟩
theorem st_tick (h:Sta w F K pb mb rb M R g n) (hk:k<K) (hr:Rel2 q (M k) (R k)) (hq:q<=2000000) (t:Int) :
  Calls Tryz.prog 52 #[.pointer (some ⟨mb k,0,none⟩),.int .i64 t] w fun e w'=>∃tv F',e = .returned (.tuple #[tv,.int .i64 (tickM (M k) t).2.2])/\Sta w' F' K pb mb rb (upd M k (tickM (M k) t).1) R g n/\SMv w F w' F'/\
   w'.ownsRow w.heap.size 9 1 tv (tickM (M k) t).2.1.length ((tickM (M k) t).2.1.map Value.string)/\∀b,tv.ownBlock=some b->∀i,F' i b=0:=by
 obtain⟨sv,wv,SB,WB,a⟩:=h.md k hk
 have hc:=hr.r.cfg
 have hnow:=hr.r.now
 refine(tick_any _ _ _ _ _ _ _ t w a (hr.r.mok (by omega)) (fun s hs=>?_) (by omega)).mono ?_
 ·obtain⟨i,u,h1,h2⟩:=mem_pick hr.r.sl hs
  have r:=hr.r.sa i s u h1 h2
  refine⟨r.in16,fun d hd=>?_,by have:=r.lenM (by omega);omega⟩
  rw[r.gaps]at hd
  obtain⟨d0,hd0,rfl⟩:=List.mem_map.1 hd
  have:=hr.gx i u h2 d0 hd0
  unfold GOk1 gMap
  simp only
  omega
 rintro e w' ⟨tv,rfl,ρ',sv',wv',SB',WB',m1,⟨m2,m3⟩,m4,m5⟩
 obtain⟨F',s1,s2,s3⟩:=h.turnM hk m1 m2 m3
 exact⟨tv,F',rfl,s1,s2,m4,fun b hb=>s3 b (fun i=>h.hi i b (m4.lt b hb).1) (m4.lt b hb).1 (m5 b hb)⟩
theorem st_refTick {M0:Md}(h:Sta w F K pb mb rb M R g n) (hk:k<K) (hr:Rel2 q M0 (R k)) (hq:q<=2000000) (t:Int) :
  Calls Tryz.prog 53 #[.pointer (some ⟨rb k,0,none⟩),.int .i64 t] w fun e w'=>∃tv R' out er F',e = .returned (.tuple #[tv,.int .i64 er])/\RTick (R k) t R' out er/\Sta w' F' K pb mb rb M (upd R k R') g n/\SMv w F w' F'/\
   w'.ownsRow w.heap.size 9 1 tv out.length (out.map Value.string):=by
 obtain⟨sv,wv,a⟩:=h.rd k hk
 have hc:=hr.r.cfg
 have h1:=hr.r.now
 have h2:=hr.r.tok
 have h3:=hr.r.cnt
 have hgx:=hr.gx
 rw[hr.r.s]at h1 h2 h3 hgx
 rw[hr.r.c]at hc
 simp only[List.mem_cons,List.not_mem_nil,or_false,forall_eq_or_imp,forall_eq]at h3
 refine(refTick_any _ _ _ _ _ t w a (by omega) (by omega) (by omega) (by omega) (fun s hs=>?_)).mono ?_
 ·obtain⟨i,u,g1,g2⟩:=mem_pick hr.r.sl.symm hs
  have r:=hr.r.sa i u s g2 g1
  have hw:=hr.r.cfg
  exact⟨by have:=r.len (by omega);omega,fun d hd=>by have:=hgx i s g1 d hd;omega⟩
 rintro e w' ⟨tv,R',out,er,rfl,hp,ρ',m1,m2,m3,-⟩
 obtain⟨F',s1,s2,-⟩:=h.turnR hk m1 m2
 exact⟨tv,R',out,er,F',rfl,hp,s1,s2,m3⟩
end
end Rl
namespace Rl
theorem pushE_len (E:List (Nat × Nat)) (n:Nat):(pushE E n).length<=E.length+1:=by
 unfold pushE
 split
 ·split
  ·simp
  ·simp
 ·simp
theorem entries_len:∀(l:List Int) (E:List (Nat × Nat)),(l.foldl (fun E n=>pushE E n.toNat) E).length<=E.length+l.length
 | [],E=>by simp
 | a::l,E=>by
  have h1:=entries_len l (pushE E a.toNat)
  have h2:=pushE_len E a.toNat
  rw[List.foldl_cons,List.length_cons]
  omega
theorem askR_size (se so:Int) (l:List Int):(askR se so l).1.size<=1212:=by
 unfold askR
 split
 ·rename_i h
  have hl:l.length<=300:=by
   simp only[askOk,Bool.and_eq_true,decide_eq_true_eq]at h
   exact h.1.2
  have h1:=askB_length se.toNat so.toNat (entriesF l)
  have h2:(entriesF l).length<=0+l.length:=entries_len l []
  have h3:(ByteArray.mk (askB se.toNat so.toNat (entriesF l)).toArray).size=(askB se.toNat so.toNat (entriesF l)).length:=by simp[ByteArray.size]
  show(ByteArray.mk (askB se.toNat so.toNat (entriesF l)).toArray).size<=1212
  omega
 ·exact Nat.zero_le _
theorem IsInts.wide {A B:Nat}{W:World}{v:Value}{l:List Int}(h:IsInts A W v l) (hb:A<=B):IsInts B W v l:=by
 obtain⟨a,c,e,hj⟩:=h
 refine⟨a,c,e,fun j hl=>?_⟩
 obtain⟨b,o,e1,e2,e3⟩:=hj j hl
 exact⟨b,o,e1,by omega,e3⟩
end Rl
theorem movesR_any {w:World}{F:Nat->Nat->Nat}{K:Nat}{pb mb rb:Nat->Nat}{M:Nat->Md}{R:Nat->Rm}{g n q k:Nat}(o:OpD) (A:Nat) (h:Sta w F K pb mb rb M R g n) (hk:k<K) (hr:Rel2 q (M k) (R k)) (hq:q<=1999999) (hn:n<=43000000) (ho:OpOx A w o) (hA:A<=w.heap.size) :
  Calls Tryz.prog 21 #[.pointer (some ⟨pb k,0,none⟩),.pointer (some ⟨g,0,none⟩),.agg (opK 8 o)] w fun e w'=>e = .returned (.bool true)/\∃F' M1 R1,Sta w' F' K pb mb rb (upd M k M1) (upd R k R1) g (n+1)/\Rel2 (q+1) M1 R1/\SMv w F w' F':=by
 have H:=hyd h
 have Hr:=hyd hr
 obtain⟨y0,y1,y2⟩:=h.pc k hk
 have hgl:=h.glt
 obtain⟨PK,hPK⟩:∃PK,pb k=PK:=⟨_,rfl⟩
 have HPK:=hyd hPK
 rw[hPK]at y0 y1 y2 ⊢
 unfold ptr at y0 y1
 have hpl:PK<w.heap.size:=lt_of_cell y0
 have Ho:=hyd ho
 have HB0:Hid (∀bk,Below w.heap.size w (w.alloc bk)):=fun bk=>(Below.refl _ _).alloc (Nat.le_refl _) bk
 clear h hr hPK ho y2
 unfold opK opKL
 by_cases htx:o.tx=⟨#[]⟩
 focus
  rw[htx]
  obtain⟨nl,hn1,hn2⟩:=Ho.out.nv
  go_enter Tryz.func21,Tryz.ntmps21
  go_wp2_with fail
  have hbA:∀bk,Below w.heap.size w (w.alloc bk):=fun bk=>(Below.refl _ _).alloc (Nat.le_refl _) bk
  have b1a:(w.alloc (.cells #[.int .i64 8,.int .i64 o.n,.string ⟨#[]⟩,.int .i64 o.pl.source,.int .i64 o.pl.second,.int .i64 o.pl.ty,.int .i64 o.pl.secondTy,.int .i64 o.pl.first,.int .i64 o.pl.secondFirst,.int .i64 o.cf.ring,.int .i64 o.cf.window,.int .i64 o.cf.delay,.int .i64 o.cf.rate,.int .i64 o.cf.burst,.int .i64 o.cf.retry,.int .i64 o.cf.tries,.bool o.pk.mrk,.int .i64 o.pk.ty,.int .i64 o.pk.nu,.int .i64 o.pk.ti,.int .i64 o.pk.so,.slice o.ca o.pk.cl.length o.cc,.bool o.pk.ex,.int .i64 o.pk.pr,.string o.pk.en,.string o.pk.py,.int .i64 o.pk.pa,.int .i64 o.s1,.int .i64 o.s2,.slice o.na o.nl o.nc] 45)).cell? ⟨w.heap.size,1,none⟩=some (.int .i64 o.n):=cell_new _ _ _ 1
  refine(refAsk_any o.s1 o.s2 (.slice o.na o.nl o.nc) nl _ (IsInts.wide (hn2.carry ((hbA _).mono hA)) (by simp;omega)) (by rw[hn1];exact Ho.out.nn)).mono ?_
  rintro e w1 ⟨rfl,hb1⟩
  have b1:w1.cell? ⟨w.heap.size,1,none⟩=some (.int .i64 o.n):=(hb1.cell (p:=⟨w.heap.size,1,none⟩) (by simp)).trans b1a
  have hsz:=askR_size o.s1 o.s2 nl
  generalize askR o.s1 o.s2 nl=TR at *
  obtain⟨t,t2⟩:=TR
  have HB1:Hid (Below w.heap.size w w1):=(hbA _).trans (hb1.mono (by simp))
  have ht:t.size<=maxLen:=by unfold maxLen;simp only at hsz;omega
  have z0:w1.cell? ⟨PK,0,none⟩=some (.pointer (some ⟨mb k,0,none⟩)):=(HB1.out.cell (p:=⟨PK,0,none⟩) hpl).trans y0
  clear hb1 hsz hbA b1a y0 y1
  go_wp2
 rotate_left
 focus
  have hte1:¬o.tx.toList=[]:=fun e=>htx (text_nil e)
  have hte2:(o.tx.toList == [])=false:=by rw[beq_eq_false_iff_ne];exact hte1
  have hte3:o.tx.toList.isEmpty=false:=by rw[List.isEmpty_eq_false_iff];exact hte1
  obtain⟨t,htt⟩:∃t,o.tx=t:=⟨_,rfl⟩
  have ht:t.size<=maxLen:=by rw[<-htt];exact Ho.out.tx
  rw[htt]at hte1 hte2 hte3 ⊢
  go_enter Tryz.func21,Tryz.ntmps21
  go_wp2
  have HB1':=HB0.out (.cells #[.int .i64 8,.int .i64 o.n,.string t,.int .i64 o.pl.source,.int .i64 o.pl.second,.int .i64 o.pl.ty,.int .i64 o.pl.secondTy,.int .i64 o.pl.first,.int .i64 o.pl.secondFirst,.int .i64 o.cf.ring,.int .i64 o.cf.window,.int .i64 o.cf.delay,.int .i64 o.cf.rate,.int .i64 o.cf.burst,.int .i64 o.cf.retry,.int .i64 o.cf.tries,.bool o.pk.mrk,.int .i64 o.pk.ty,.int .i64 o.pk.nu,.int .i64 o.pk.ti,.int .i64 o.pk.so,.slice o.ca o.pk.cl.length o.cc,.bool o.pk.ex,.int .i64 o.pk.pr,.string o.pk.en,.string o.pk.py,.int .i64 o.pk.pa,.int .i64 o.s1,.int .i64 o.s2,.slice o.na o.nl o.nc] 45)
  have b1:(w.alloc (.cells #[.int .i64 8,.int .i64 o.n,.string t,.int .i64 o.pl.source,.int .i64 o.pl.second,.int .i64 o.pl.ty,.int .i64 o.pl.secondTy,.int .i64 o.pl.first,.int .i64 o.pl.secondFirst,.int .i64 o.cf.ring,.int .i64 o.cf.window,.int .i64 o.cf.delay,.int .i64 o.cf.rate,.int .i64 o.cf.burst,.int .i64 o.cf.retry,.int .i64 o.cf.tries,.bool o.pk.mrk,.int .i64 o.pk.ty,.int .i64 o.pk.nu,.int .i64 o.pk.ti,.int .i64 o.pk.so,.slice o.ca o.pk.cl.length o.cc,.bool o.pk.ex,.int .i64 o.pk.pr,.string o.pk.en,.string o.pk.py,.int .i64 o.pk.pa,.int .i64 o.s1,.int .i64 o.s2,.slice o.na o.nl o.nc] 45)).cell? ⟨w.heap.size,1,none⟩=some (.int .i64 o.n):=cell_new _ _ _ 1
  generalize w.alloc (.cells #[.int .i64 8,.int .i64 o.n,.string t,.int .i64 o.pl.source,.int .i64 o.pl.second,.int .i64 o.pl.ty,.int .i64 o.pl.secondTy,.int .i64 o.pl.first,.int .i64 o.pl.secondFirst,.int .i64 o.cf.ring,.int .i64 o.cf.window,.int .i64 o.cf.delay,.int .i64 o.cf.rate,.int .i64 o.cf.burst,.int .i64 o.cf.retry,.int .i64 o.cf.tries,.bool o.pk.mrk,.int .i64 o.pk.ty,.int .i64 o.pk.nu,.int .i64 o.pk.ti,.int .i64 o.pk.so,.slice o.ca o.pk.cl.length o.cc,.bool o.pk.ex,.int .i64 o.pk.pr,.string o.pk.en,.string o.pk.py,.int .i64 o.pk.pa,.int .i64 o.s1,.int .i64 o.s2,.slice o.na o.nl o.nc] 45)=w1 at *
  have HB1:Hid (Below w.heap.size w w1):=HB1'
  have z0:w1.cell? ⟨PK,0,none⟩=some (.pointer (some ⟨mb k,0,none⟩)):=(HB1.out.cell (p:=⟨PK,0,none⟩) hpl).trans y0
  clear HB1' htt htx hte1 hte2 hte3 y0 y1
 all_goals
  have HS1:Hid (Sta w1 F K pb mb rb M R g n):=H.out.below HB1.out
  have HZ:Hid (∀i,F i w.heap.size=0):=fun i=>H.out.hi i _ (Nat.le_refl _)
  have hz1:=HB1.out.size
  have hzb:w.heap.size<w1.heap.size:=lt_of_cell b1
  refine wp_region_noPanic ?_
  refine wp_region_held_drew (S:=Two ⟨PK,0,none⟩ ⟨w.heap.size,1,none⟩ (.pointer (some ⟨mb k,0,none⟩)) (.int .i64 o.n)) (by kernel_rfl) ⟨z0,b1⟩ (fun zH=>?_)
  refine tka 0 ?_
  refine tka 1 ?_
  refine tka 2 ?_
  refine tka 3 ?_
  refine tka 4 ?_
  refine tka 5 ?_
  refine tka 6 ?_
  refine rd1 7 fun K' hK=>?_
  go_simp
  refine(st_report (by first|exact HS1.out|exact HS1.out.below (Below.refl _ _).drew) hk Hr.out (by omega) o.n t ht).mono ?_
  rintro e w2 ⟨tv,F2,rfl,s1,s2,s3,s4⟩
  have H2:=hyd s1
  have V12:Hid (SMv w1 F w2 F2):=by first|exact s2|exact(SMv.below (Below.refl _ _).drew).trans s2
  have V2:Hid (SMv w F w2 F2):=SMv.trans (SMv.below HB1.out) V12.out
  obtain⟨a1,c1,rfl⟩:=rowA_shape s3
  have O2:Hid (w2.ownsRow w1.heap.size 9 1 (.slice a1 (reportM (M k) o.n t).2.1.length c1) (reportM (M k) o.n t).2.1.length ((reportM (M k) o.n t).2.1.map Value.string)):=by first|exact s3|simpa using s3
  have Z2:=hyd s4
  have u0:w2.cell? ⟨PK,0,none⟩=some (.pointer (some ⟨mb k,0,none⟩)):=by have h1:=(s1.pc k hk).1;rw[HPK.out]at h1;exact h1
  have u1:w2.cell? ⟨PK,1,none⟩=some (.pointer (some ⟨rb k,0,none⟩)):=by have h1:=(s1.pc k hk).2.1;rw[HPK.out]at h1;exact h1
  have b2:w2.cell? ⟨w.heap.size,1,none⟩=some (.int .i64 o.n):=V12.out.cell b1 HZ.out
  have HZ2:Hid (∀i,F2 i w.heap.size=0):=V12.out.1 _ hzb HZ.out
  obtain⟨p1,p2,p3,p4⟩:=Hr.out.report o.n t
  have HREL:=hyd p4
  have Hp:Hid ((reportM (M k) o.n t).2.1=(rReport (R k) o.n t (M k).c.ring.toNat).2.1/\(reportM (M k) o.n t).2.2=(rReport (R k) o.n t (M k).c.ring.toNat).2.2):=⟨p1,p2⟩
  have hl8:(reportM (M k) o.n t).2.1.length<=7500:=p3
  clear p1 p2 p3 p4
  clear s1 s2 s3 s4
  go_simp
  refine hK.out _ _ ⟨u0,b2⟩ (fun zH=>?_)
  clear hK K' z0 b1
  refine tka 8 ?_
  refine tka 9 ?_
  refine tka 10 ?_
  refine tka 11 ?_
  refine tka 12 ?_
  refine doN ?_
  clear zH u0
  generalize reportM (M k) o.n t=PM at *
  obtain⟨M1,L,er⟩:=PM
  simp only at H2 O2 Z2 hl8 HREL Hp ⊢
  go_wp2
  refine wp_region_noPanic ?_
  refine wp_region_held_drew (S:=Two ⟨PK,1,none⟩ ⟨w.heap.size,1,none⟩ (.pointer (some ⟨rb k,0,none⟩)) (.int .i64 o.n)) (by kernel_rfl) ⟨u1,b2⟩ (fun zH=>?_)
  refine tka 0 ?_
  refine tka 1 ?_
  refine tka 2 ?_
  refine tka 3 ?_
  refine tka 4 ?_
  refine tka 5 ?_
  refine tka 6 ?_
  refine rd1 7 fun K' hK=>?_
  go_simp
  refine(st_refReport (by first|exact H2.out|exact H2.out.below (Below.refl _ _).drew) hk Hr.out (by omega) o.n t ht).mono ?_
  rintro e w3 ⟨tv,F3,rfl,s1,s2,s3⟩
  rw[<-Hp.out.1]at s3
  rw[<-Hp.out.2]
  generalize (rReport (R k) o.n t (M k).c.ring.toNat).1=R1 at *
  have V23:Hid (SMv w2 F2 w3 F3):=by first|exact s2|exact(SMv.below (Below.refl _ _).drew).trans s2
  have H3:=hyd s1
  have V3:Hid (SMv w F w3 F3):=V2.out.trans V23.out
  obtain⟨a2,c2,rfl⟩:=rowA_shape s3
  have O3:Hid (w3.ownsRow w2.heap.size 9 1 (.slice a2 L.length c2) L.length (L.map Value.string)):=by first|exact s3|simpa using s3
  have O2':Hid (w3.ownsRow (g+1) 9 1 (.slice a1 L.length c1) L.length (L.map Value.string)):=row_mono (rowA_chg V23.out.2 O2.out (fun b hb ⟨i,e⟩=>e (Z2.out b hb i))) (by omega)
  have HF:Hid (∀b,(Value.slice a1 L.length c1).ownBlock=some b->(∀j,F3 j b=0)/\∀k,k<K->b≠pb k):=fun b hb=>⟨V23.out.1 b (O2.out.lt b hb).2 (Z2.out b hb),(H.out.free (Nat.le_trans hz1 (O2.out.lt b hb).1)).2⟩
  have HX:Hid (∀b,(Value.slice a1 L.length c1).ownBlock=some b->w.heap.size<=b):=fun b hb=>Nat.le_trans hz1 (O2.out.lt b hb).1
  have u3:w3.cell? ⟨PK,1,none⟩=some (.pointer (some ⟨rb k,0,none⟩)):=by have h1:=(s1.pc k hk).2.1;rw[HPK.out]at h1;exact h1
  have b3:w3.cell? ⟨w.heap.size,1,none⟩=some (.int .i64 o.n):=V23.out.cell b2 HZ2.out
  clear s1 s2 s3
  go_simp
  refine hK.out _ _ ⟨u3,b3⟩ (fun zH=>?_)
  clear hK K' u1 b2
  refine tka 8 ?_
  refine tka 9 ?_
  refine tka 10 ?_
  refine tka 11 ?_
  refine tka 12 ?_
  refine doN ?_
  clear zH u3 b3
  go_wp2_with fail
  refine(texts_any H3.out (by omega) _ _ L _ _ O2'.out O3.out (by omega) HF.out).mono ?_
  rintro e w4 ⟨rfl,F4,s1,s2⟩
  have HE:Hid (∃F' M1 R1,Sta w4 F' K pb mb rb (upd M k M1) (upd R k R1) g (n+1)/\Rel2 (q+1) M1 R1/\SMv w F w4 F'):=⟨F4,M1,R1,s1,HREL.out,V3.out.took s2 HX.out⟩
  clear s1 s2 O2' O3 HF
  go_wp2
  go_ret
  exact⟨rfl,HE.out⟩
theorem movesK_any {w:World}{F:Nat->Nat->Nat}{K:Nat}{pb mb rb:Nat->Nat}{M:Nat->Md}{R:Nat->Rm}{g n q k:Nat}(o:OpD) (A:Nat) (h:Sta w F K pb mb rb M R g n) (hk:k<K) (hr:Rel2 q (M k) (R k)) (hq:q<=1999999) (hn:n<=43000000) (ho:OpOx A w o) (hA:A<=w.heap.size) :
  Calls Tryz.prog 21 #[.pointer (some ⟨pb k,0,none⟩),.pointer (some ⟨g,0,none⟩),.agg (opK 9 o)] w fun e w'=>e = .returned (.bool true)/\∃F' M1 R1,Sta w' F' K pb mb rb (upd M k M1) (upd R k R1) g (n+1)/\Rel2 (q+1) M1 R1/\SMv w F w' F':=by
 have H:=hyd h
 have Hr:=hyd hr
 obtain⟨y0,y1,y2⟩:=h.pc k hk
 have hgl:=h.glt
 obtain⟨PK,hPK⟩:∃PK,pb k=PK:=⟨_,rfl⟩
 have HPK:=hyd hPK
 rw[hPK]at y0 y1 y2 ⊢
 unfold ptr at y0 y1
 have hpl:PK<w.heap.size:=lt_of_cell y0
 have Ho:=hyd ho
 have HB0:Hid (∀bk,Below w.heap.size w (w.alloc bk)):=fun bk=>(Below.refl _ _).alloc (Nat.le_refl _) bk
 clear h hr hPK ho y2
 unfold opK opKL
 go_enter Tryz.func21,Tryz.ntmps21
 go_wp2
 have HB1':=HB0.out (.cells #[.int .i64 9,.int .i64 o.n,.string o.tx,.int .i64 o.pl.source,.int .i64 o.pl.second,.int .i64 o.pl.ty,.int .i64 o.pl.secondTy,.int .i64 o.pl.first,.int .i64 o.pl.secondFirst,.int .i64 o.cf.ring,.int .i64 o.cf.window,.int .i64 o.cf.delay,.int .i64 o.cf.rate,.int .i64 o.cf.burst,.int .i64 o.cf.retry,.int .i64 o.cf.tries,.bool o.pk.mrk,.int .i64 o.pk.ty,.int .i64 o.pk.nu,.int .i64 o.pk.ti,.int .i64 o.pk.so,.slice o.ca o.pk.cl.length o.cc,.bool o.pk.ex,.int .i64 o.pk.pr,.string o.pk.en,.string o.pk.py,.int .i64 o.pk.pa,.int .i64 o.s1,.int .i64 o.s2,.slice o.na o.nl o.nc] 45)
 have b1:(w.alloc (.cells #[.int .i64 9,.int .i64 o.n,.string o.tx,.int .i64 o.pl.source,.int .i64 o.pl.second,.int .i64 o.pl.ty,.int .i64 o.pl.secondTy,.int .i64 o.pl.first,.int .i64 o.pl.secondFirst,.int .i64 o.cf.ring,.int .i64 o.cf.window,.int .i64 o.cf.delay,.int .i64 o.cf.rate,.int .i64 o.cf.burst,.int .i64 o.cf.retry,.int .i64 o.cf.tries,.bool o.pk.mrk,.int .i64 o.pk.ty,.int .i64 o.pk.nu,.int .i64 o.pk.ti,.int .i64 o.pk.so,.slice o.ca o.pk.cl.length o.cc,.bool o.pk.ex,.int .i64 o.pk.pr,.string o.pk.en,.string o.pk.py,.int .i64 o.pk.pa,.int .i64 o.s1,.int .i64 o.s2,.slice o.na o.nl o.nc] 45)).cell? ⟨w.heap.size,1,none⟩=some (.int .i64 o.n):=cell_new _ _ _ 1
 generalize w.alloc (.cells #[.int .i64 9,.int .i64 o.n,.string o.tx,.int .i64 o.pl.source,.int .i64 o.pl.second,.int .i64 o.pl.ty,.int .i64 o.pl.secondTy,.int .i64 o.pl.first,.int .i64 o.pl.secondFirst,.int .i64 o.cf.ring,.int .i64 o.cf.window,.int .i64 o.cf.delay,.int .i64 o.cf.rate,.int .i64 o.cf.burst,.int .i64 o.cf.retry,.int .i64 o.cf.tries,.bool o.pk.mrk,.int .i64 o.pk.ty,.int .i64 o.pk.nu,.int .i64 o.pk.ti,.int .i64 o.pk.so,.slice o.ca o.pk.cl.length o.cc,.bool o.pk.ex,.int .i64 o.pk.pr,.string o.pk.en,.string o.pk.py,.int .i64 o.pk.pa,.int .i64 o.s1,.int .i64 o.s2,.slice o.na o.nl o.nc] 45)=w1 at *
 have HB1:Hid (Below w.heap.size w w1):=HB1'
 have z0:w1.cell? ⟨PK,0,none⟩=some (.pointer (some ⟨mb k,0,none⟩)):=(HB1.out.cell (p:=⟨PK,0,none⟩) hpl).trans y0
 clear HB1' y0 y1
 have HS1:Hid (Sta w1 F K pb mb rb M R g n):=H.out.below HB1.out
 have HZ:Hid (∀i,F i w.heap.size=0):=fun i=>H.out.hi i _ (Nat.le_refl _)
 have hz1:=HB1.out.size
 have hzb:w.heap.size<w1.heap.size:=lt_of_cell b1
 refine wp_region_noPanic ?_
 refine wp_region_held_drew (S:=Two ⟨PK,0,none⟩ ⟨w.heap.size,1,none⟩ (.pointer (some ⟨mb k,0,none⟩)) (.int .i64 o.n)) (by kernel_rfl) ⟨z0,b1⟩ (fun zH=>?_)
 refine tka 0 ?_
 refine tka 1 ?_
 refine tka 2 ?_
 refine tka 3 ?_
 refine tka 4 ?_
 refine tka 5 ?_
 refine rd1 6 fun K' hK=>?_
 go_simp
 refine(st_tick (by first|exact HS1.out|exact HS1.out.below (Below.refl _ _).drew) hk Hr.out (by omega) o.n).mono ?_
 rintro e w2 ⟨tv,F2,rfl,s1,s2,s3,s4⟩
 have H2:=hyd s1
 have V12:Hid (SMv w1 F w2 F2):=by first|exact s2|exact(SMv.below (Below.refl _ _).drew).trans s2
 have V2:Hid (SMv w F w2 F2):=SMv.trans (SMv.below HB1.out) V12.out
 obtain⟨a1,c1,rfl⟩:=rowA_shape s3
 have O2:Hid (w2.ownsRow w1.heap.size 9 1 (.slice a1 (tickM (M k) o.n).2.1.length c1) (tickM (M k) o.n).2.1.length ((tickM (M k) o.n).2.1.map Value.string)):=by first|exact s3|simpa using s3
 have Z2:=hyd s4
 have u0:w2.cell? ⟨PK,0,none⟩=some (.pointer (some ⟨mb k,0,none⟩)):=by have h1:=(s1.pc k hk).1;rw[HPK.out]at h1;exact h1
 have u1:w2.cell? ⟨PK,1,none⟩=some (.pointer (some ⟨rb k,0,none⟩)):=by have h1:=(s1.pc k hk).2.1;rw[HPK.out]at h1;exact h1
 have b2:w2.cell? ⟨w.heap.size,1,none⟩=some (.int .i64 o.n):=V12.out.cell b1 HZ.out
 have HZ2:Hid (∀i,F2 i w.heap.size=0):=V12.out.1 _ hzb HZ.out
 have HPA:Hid (∀R' out er,RTick (R k) o.n R' out er->(tickM (M k) o.n).2.1=out/\(tickM (M k) o.n).2.2=er/\out.length<=4/\Rel2 (q+1) (tickM (M k) o.n).1 R'):=fun R' out er hp=>Hr.out.tick o.n R' out er hp
 clear s1 s2 s3 s4
 go_simp
 refine hK.out _ _ ⟨u0,b2⟩ (fun zH=>?_)
 clear hK K' z0 b1
 refine tka 7 ?_
 refine tka 8 ?_
 refine tka 9 ?_
 refine tka 10 ?_
 refine tka 11 ?_
 refine doN ?_
 clear zH u0
 generalize tickM (M k) o.n=PM at *
 obtain⟨M1,L,er⟩:=PM
 simp only at H2 O2 Z2 HPA ⊢
 go_wp2
 refine wp_region_noPanic ?_
 refine wp_region_held_drew (S:=Two ⟨PK,1,none⟩ ⟨w.heap.size,1,none⟩ (.pointer (some ⟨rb k,0,none⟩)) (.int .i64 o.n)) (by kernel_rfl) ⟨u1,b2⟩ (fun zH=>?_)
 refine tka 0 ?_
 refine tka 1 ?_
 refine tka 2 ?_
 refine tka 3 ?_
 refine tka 4 ?_
 refine tka 5 ?_
 refine rd1 6 fun K' hK=>?_
 go_simp
 refine(st_refTick (by first|exact H2.out|exact H2.out.below (Below.refl _ _).drew) hk Hr.out (by omega) o.n).mono ?_
 rintro e w3 ⟨tv,R1,out,er',F3,rfl,hp,s1,s2,s3⟩
 obtain⟨rfl,rfl,hl8,hrel⟩:=HPA.out _ _ _ hp
 have HREL:=hyd hrel
 have V23:Hid (SMv w2 F2 w3 F3):=by first|exact s2|exact(SMv.below (Below.refl _ _).drew).trans s2
 have H3:=hyd s1
 have V3:Hid (SMv w F w3 F3):=V2.out.trans V23.out
 obtain⟨a2,c2,rfl⟩:=rowA_shape s3
 have O3:Hid (w3.ownsRow w2.heap.size 9 1 (.slice a2 L.length c2) L.length (L.map Value.string)):=by first|exact s3|simpa using s3
 have O2':Hid (w3.ownsRow (g+1) 9 1 (.slice a1 L.length c1) L.length (L.map Value.string)):=row_mono (rowA_chg V23.out.2 O2.out (fun b hb ⟨i,e⟩=>e (Z2.out b hb i))) (by omega)
 have HF:Hid (∀b,(Value.slice a1 L.length c1).ownBlock=some b->(∀j,F3 j b=0)/\∀k,k<K->b≠pb k):=fun b hb=>⟨V23.out.1 b (O2.out.lt b hb).2 (Z2.out b hb),(H.out.free (Nat.le_trans hz1 (O2.out.lt b hb).1)).2⟩
 have HX:Hid (∀b,(Value.slice a1 L.length c1).ownBlock=some b->w.heap.size<=b):=fun b hb=>Nat.le_trans hz1 (O2.out.lt b hb).1
 have u3:w3.cell? ⟨PK,1,none⟩=some (.pointer (some ⟨rb k,0,none⟩)):=by have h1:=(s1.pc k hk).2.1;rw[HPK.out]at h1;exact h1
 have b3:w3.cell? ⟨w.heap.size,1,none⟩=some (.int .i64 o.n):=V23.out.cell b2 HZ2.out
 clear s1 s2 s3
 go_simp
 refine hK.out _ _ ⟨u3,b3⟩ (fun zH=>?_)
 clear hK K' u1 b2
 refine tka 7 ?_
 refine tka 8 ?_
 refine tka 9 ?_
 refine tka 10 ?_
 refine tka 11 ?_
 refine doN ?_
 clear zH u3 b3
 go_wp2_with fail
 refine(texts_any H3.out (by omega) _ _ L _ _ O2'.out O3.out (by omega) HF.out).mono ?_
 rintro e w4 ⟨rfl,F4,s1,s2⟩
 have HE:Hid (∃F' M1 R1,Sta w4 F' K pb mb rb (upd M k M1) (upd R k R1) g (n+1)/\Rel2 (q+1) M1 R1/\SMv w F w4 F'):=⟨F4,M1,R1,s1,HREL.out,V3.out.took s2 HX.out⟩
 clear s1 s2 O2' O3 HF
 go_wp2
 go_ret
 exact⟨rfl,HE.out⟩
theorem stepx8_any {w:World}{F:Nat->Nat->Nat}{K:Nat}{pb mb rb:Nat->Nat}{M:Nat->Md}{R:Nat->Rm}{g n q k:Nat}(o:OpD) (A:Nat) (h:Sta w F K pb mb rb M R g n) (hk:k<K) (hr:Rel2 q (M k) (R k)) (hq:q<=1999999) (hn:n<=42000000) (ho:OpOx A w o) (hA:A<=w.heap.size) :
  Calls Tryz.prog 8 #[.pointer (some ⟨pb k,0,none⟩),.pointer (some ⟨g,0,none⟩),.agg (opK 8 o)] w fun e w'=>e = .returned (.bool true)/\∃F' M1 R1,Sta w' F' K pb mb rb (upd M k M1) (upd R k R1) g (n+2)/\Rel2 (q+1) M1 R1/\SMv w F w' F':=by
 have H:=hyd h
 have Hr:=hyd hr
 obtain⟨y0,y1,y2⟩:=h.pc k hk
 obtain⟨PK,hPK⟩:∃PK,pb k=PK:=⟨_,rfl⟩
 have HPK:=hyd hPK
 rw[hPK]at y0 y1 y2 ⊢
 unfold ptr at y0 y1
 have hpl:PK<w.heap.size:=lt_of_cell y0
 have Ho:=hyd ho
 have HB0:Hid (∀bk,Below w.heap.size w (w.alloc bk)):=fun bk=>(Below.refl _ _).alloc (Nat.le_refl _) bk
 have hgl:=h.glt
 clear h hr hPK ho y2
 unfold opK opKL
 go_enter Tryz.func8,Tryz.ntmps8
 go_wp2_with (refine wpList_load_list rfl 45 (.tmp 5) rfl ⟨w.heap.size,0,none⟩ rfl (opKL 8 o) (by kernel_rfl) (by kernel_rfl) (cells_new _ (opKL 8 o) _) ?_;refine stop_here ?_)
 refine hid_in ?_
 have HB1':=HB0.out (.cells (opK 8 o) 45)
 have HC1:∀j:Nat,(w.alloc (.cells (opK 8 o) 45)).cell? ⟨w.heap.size,j,none⟩=(opK 8 o)[j]?:=fun j=>cell_new _ _ _ j
 have hz1:(w.alloc (.cells (opK 8 o) 45)).heap.size=w.heap.size+1:=by simp
 generalize w.alloc (.cells (opK 8 o) 45)=w1 at *
 have HB1:Hid (Below w.heap.size w w1):=HB1'
 have H1:Hid (Sta w1 F K pb mb rb M R g n):=H.out.below HB1'
 have HZ:Hid (∀i,F i w.heap.size=0):=fun i=>H.out.hi i _ (Nat.le_refl _)
 have z0:w1.cell? ⟨PK,0,none⟩=some (.pointer (some ⟨mb k,0,none⟩)):=(HB1.out.cell (p:=⟨PK,0,none⟩) hpl).trans y0
 clear HB1' HC1 y0 y1 z0
 go_wp2_with fail
 rw[<-HPK.out]
 have HOk:Hid (OpOx A w1 o):=Ho.out.below (HB1.out.mono hA)
 refine(movesR_any o A H1.out hk Hr.out hq (by omega) HOk.out (by omega)).mono ?_
 rintro e w2 ⟨rfl,F2,M1,R1,s1,s2,s3⟩
 have HE:Hid (∃F' M1 R1,Sta w2 F' K pb mb rb (upd M k M1) (upd R k R1) g (n+2)/\Rel2 (q+1) M1 R1/\SMv w F w2 F'):=⟨F2,M1,R1,s1.mono (by omega),s2,(SMv.below HB1.out).trans s3⟩
 clear s1 s2 s3
 go_wp2
 go_ret
 exact⟨rfl,HE.out⟩
theorem stepx9_any {w:World}{F:Nat->Nat->Nat}{K:Nat}{pb mb rb:Nat->Nat}{M:Nat->Md}{R:Nat->Rm}{g n q k:Nat}(o:OpD) (A:Nat) (h:Sta w F K pb mb rb M R g n) (hk:k<K) (hr:Rel2 q (M k) (R k)) (hq:q<=1999999) (hn:n<=42000000) (ho:OpOx A w o) (hA:A<=w.heap.size) :
  Calls Tryz.prog 8 #[.pointer (some ⟨pb k,0,none⟩),.pointer (some ⟨g,0,none⟩),.agg (opK 9 o)] w fun e w'=>e = .returned (.bool true)/\∃F' M1 R1,Sta w' F' K pb mb rb (upd M k M1) (upd R k R1) g (n+2)/\Rel2 (q+1) M1 R1/\SMv w F w' F':=by
 have H:=hyd h
 have Hr:=hyd hr
 obtain⟨y0,y1,y2⟩:=h.pc k hk
 obtain⟨PK,hPK⟩:∃PK,pb k=PK:=⟨_,rfl⟩
 have HPK:=hyd hPK
 rw[hPK]at y0 y1 y2 ⊢
 unfold ptr at y0 y1
 have hpl:PK<w.heap.size:=lt_of_cell y0
 have Ho:=hyd ho
 have HB0:Hid (∀bk,Below w.heap.size w (w.alloc bk)):=fun bk=>(Below.refl _ _).alloc (Nat.le_refl _) bk
 have hgl:=h.glt
 clear h hr hPK ho y2
 unfold opK opKL
 go_enter Tryz.func8,Tryz.ntmps8
 go_wp2_with (refine wpList_load_list rfl 45 (.tmp 5) rfl ⟨w.heap.size,0,none⟩ rfl (opKL 9 o) (by kernel_rfl) (by kernel_rfl) (cells_new _ (opKL 9 o) _) ?_;refine stop_here ?_)
 refine hid_in ?_
 have HB1':=HB0.out (.cells (opK 9 o) 45)
 have HC1:∀j:Nat,(w.alloc (.cells (opK 9 o) 45)).cell? ⟨w.heap.size,j,none⟩=(opK 9 o)[j]?:=fun j=>cell_new _ _ _ j
 have hz1:(w.alloc (.cells (opK 9 o) 45)).heap.size=w.heap.size+1:=by simp
 generalize w.alloc (.cells (opK 9 o) 45)=w1 at *
 have HB1:Hid (Below w.heap.size w w1):=HB1'
 have H1:Hid (Sta w1 F K pb mb rb M R g n):=H.out.below HB1'
 have HZ:Hid (∀i,F i w.heap.size=0):=fun i=>H.out.hi i _ (Nat.le_refl _)
 have z0:w1.cell? ⟨PK,0,none⟩=some (.pointer (some ⟨mb k,0,none⟩)):=(HB1.out.cell (p:=⟨PK,0,none⟩) hpl).trans y0
 clear HB1' HC1 y0 y1 z0
 go_wp2_with fail
 rw[<-HPK.out]
 have HOk:Hid (OpOx A w1 o):=Ho.out.below (HB1.out.mono hA)
 refine(movesK_any o A H1.out hk Hr.out hq (by omega) HOk.out (by omega)).mono ?_
 rintro e w2 ⟨rfl,F2,M1,R1,s1,s2,s3⟩
 have HE:Hid (∃F' M1 R1,Sta w2 F' K pb mb rb (upd M k M1) (upd R k R1) g (n+2)/\Rel2 (q+1) M1 R1/\SMv w F w2 F'):=⟨F2,M1,R1,s1.mono (by omega),s2,(SMv.below HB1.out).trans s3⟩
 clear s1 s2 s3
 go_wp2
 go_ret
 exact⟨rfl,HE.out⟩
theorem stepx_any {w:World}{F:Nat->Nat->Nat}{K:Nat}{pb mb rb:Nat->Nat}{M:Nat->Md}{R:Nat->Rm}{g n q k:Nat}(o:OpD) (A:Nat) (h:Sta w F K pb mb rb M R g n) (hk:k<K) (hr:Rel2 q (M k) (R k)) (hq:q<=1999999) (hn:n<=42000000) (ho:OpOx A w o) (hA:A<=w.heap.size) (h9:o.kind<=9) (h7:¬o.kind=7) :
  Calls Tryz.prog 8 #[.pointer (some ⟨pb k,0,none⟩),.pointer (some ⟨g,0,none⟩),.agg (opK o.kind o)] w fun e w'=>e = .returned (.bool true)/\∃F' M1 R1,Sta w' F' K pb mb rb (upd M k M1) (upd R k R1) g (n+2)/\Rel2 (q+1) M1 R1/\SMv w F w' F':=by
 rcases(by omega:o.kind<=0\/o.kind=1\/o.kind=2\/o.kind=3\/o.kind=4\/o.kind=5\/o.kind=6\/o.kind=8\/o.kind=9)with e|e|e|e|e|e|e|e|e
 ·exact stepx0_any o A h hk hr hq hn ho hA e
 ·rw[e];exact stepx1_any o A h hk hr hq hn ho hA
 ·rw[e];exact stepx2_any o A h hk hr hq hn ho hA
 ·rw[e];exact stepx3_any o A h hk hr hq hn ho hA
 ·rw[e];exact stepx4_any o A h hk hr hq hn ho hA
 ·rw[e];exact stepx5_any o A h hk hr hq hn ho hA
 ·rw[e];exact stepx6_any o A h hk hr hq hn ho hA
 ·rw[e];exact stepx8_any o A h hk hr hq hn ho hA
 ·rw[e];exact stepx9_any o A h hk hr hq hn ho hA
end Go.Proofs.YtdjhhnolcafkiaaGreat
