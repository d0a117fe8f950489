import Derived.Test.YtdjhhnolcafkiaaGreatG03
import Derived.Deep.QuietTactic
import Derived.BigQuiet
import Derived.Test.YtdjhhnolcafkiaaGreatG01
import Derived.Deep.RegionHeld
import Derived.Test.YtdjhhnolcafkiaaGreatG02
import Derived.Deep.RegionHeld3
set_option linter.unusedVariables false
set_option linter.unusedSimpArgs false
set_option maxHeartbeats 40000000
set_option maxRecDepth 20000
namespace Go.Proofs.YtdjhhnolcafkiaaGreat
open Go.RowKit
namespace Pk
structure Cfg where
 ring:Int
 window:Int
 delay:Int
 rate:Int
 burst:Int
 retry:Int
 tries:Int
structure Stt where
 now:Int
 tokens:Int
 passed:Int
 late:Int
 doubled:Int
 wrong:Int
 unknown:Int
 again:Int
 refused:Int
 asked:Int
 givenUp:Int
structure Md where
 c:Cfg
 s:Stt
 sds:List Sd
 wns:List Wn
 last:Int
def cfgV (c:Cfg):List Value:=[.int .i64 c.ring,.int .i64 c.window,.int .i64 c.delay,.int .i64 c.rate,.int .i64 c.burst,.int .i64 c.retry,.int .i64 c.tries]
def sttV (s:Stt):List Value:=[.int .i64 s.now,.int .i64 s.tokens,.int .i64 s.passed,.int .i64 s.late,.int .i64 s.doubled,.int .i64 s.wrong,.int .i64 s.unknown,.int .i64 s.again,.int .i64 s.refused,.int .i64 s.asked,.int .i64 s.givenUp]
def mdV (M:Md) (sv wv:Value):List Value:=cfgV M.c++sttV M.s++[sv,wv,.int .i64 M.last]
def ptr (b:Nat):Value:=.pointer (some ⟨b,0,none⟩)
structure MdAt (W:World) (ρ:Nat->Nat) (mb:Nat) (M:Md) (sv wv:Value) (SB WB:List (Nat × Value)):Prop where
 k:∀i u,(mdV M sv wv)[i]? = some u->W.cell? ⟨mb,i,none⟩=some u
 fz:∀o,W.frozen? ⟨mb,o,none⟩=false
 sr:W.ownsRow (mb+1) 91 1 sv SB.length (SB.map fun p=>ptr p.1)
 wr:W.ownsRow (mb+1) 95 1 wv WB.length (WB.map fun p=>ptr p.1)
 sl:SB.length=M.sds.length
 wl:WB.length=M.wns.length
 s4:M.sds.length<=4
 sa:∀(i:Nat) (p:Nat × Value) (s:Sd),SB[i]? = some p->M.sds[i]? = some s->SdAt W (p.1+1) p.1 p.2 s/\ρ p.1=10+2*i/\∀b,p.2.ownBlock=some b->ρ b=11+2*i
 wa:∀(i:Nat) (p:Nat × Value) (x:Wn),WB[i]? = some p->M.wns[i]? = some x->WnAt (fun b=>ρ b=4) W (p.1+1) p.1 p.2 x/\ρ p.1=1000+2*x.id.toNat/\∀b,p.2.ownBlock=some b->ρ b=1001+2*x.id.toNat
 ids:∀(i j:Nat) (x y:Wn),i≠j->M.wns[i]? = some x->M.wns[j]? = some y->x.id.toNat≠y.id.toNat
 rm:ρ mb=1
 rs:∀b,sv.ownBlock=some b->ρ b=2
 rw:∀b,wv.ownBlock=some b->ρ b=3
 hi:∀b,W.heap.size<=b->ρ b=0
theorem map_set_ptr (SB:List (Nat × Value)) (i:Nat) (p:Nat × Value) (v':Value) (h:SB[i]? = some p):(SB.set i (p.1,v')).map (fun p=>ptr p.1)=SB.map (fun p=>ptr p.1):=by
 have hl:=(List.getElem?_eq_some_iff.1 h).1
 apply List.ext_getElem?
 intro j
 rw[List.getElem?_map,List.getElem?_map,List.getElem?_set]
 by_cases e:i=j
 ·subst e
  rw[if_pos rfl,if_pos hl,h]
  rfl
 ·rw[if_neg e]
section
variable {W W' : World} {ρ : Nat -> Nat} {mb : Nat} {M : Md} {sv wv : Value} {SB WB : List (Nat × Value)}
theorem MdAt.lt (h:MdAt W ρ mb M sv wv SB WB):mb<W.heap.size:=lt_of_cell (h.k 0 _ rfl)
theorem MdAt.part {T:Nat->Prop}(h:MdAt W ρ mb M sv wv SB WB) (hc:Chg T W W') (i:Nat) (p:Nat × Value) :
  (∀s,SB[i]? = some p->M.sds[i]? = some s->(∀b,T b->ρ b≠10+2*i/\ρ b≠11+2*i)->SdAt W' (p.1+1) p.1 p.2 s)/\
  (∀x,WB[i]? = some p->M.wns[i]? = some x->(∀b,T b->ρ b≠1000+2*x.id.toNat/\ρ b≠1001+2*x.id.toNat/\ρ b≠4)->WnAt (fun b=>ρ b=4) W' (p.1+1) p.1 p.2 x):=by
 refine⟨fun s h1 h2 h3=>?_,fun x h1 h2 h3=>?_⟩
 ·obtain⟨a,b,c⟩:=h.sa i p s h1 h2
  exact a.chg hc (fun e=>(h3 _ e).1 b) (fun y hy e=>(h3 _ e).2 (c y hy))
 ·obtain⟨a,b,c⟩:=h.wa i p x h1 h2
  exact a.chg hc (fun e=>(h3 _ e).1 b) (fun y hy e=>(h3 _ e).2.1 (c y hy)) (fun y hy e=>(h3 _ e).2.2 hy)
theorem MdAt.chg {T:Nat->Prop}(h:MdAt W ρ mb M sv wv SB WB) (hc:Chg T W W') (hT:∀b,T b->ρ b=0):MdAt W' ρ mb M sv wv SB WB:=by
 have hm:¬T mb:=fun e=>by have:=hT mb e;rw[h.rm]at this;cases this
 exact⟨fun i u hu=>hc.cell (h.k i u hu) hm,fun o=>(hc.frozen (p:=⟨mb,o,none⟩) h.lt hm).trans (h.fz o),rowA_chg hc h.sr (fun b hb e=>by have:=hT b e;rw[h.rs b hb]at this;cases this),rowA_chg hc h.wr (fun b hb e=>by have:=hT b e;rw[h.rw b hb]at this;cases this),h.sl,h.wl,h.s4,
  fun i p s h1 h2=>⟨(h.part hc i p).1 s h1 h2 (fun b hb=>by rw[hT b hb];omega),(h.sa i p s h1 h2).2⟩,fun i p x h1 h2=>⟨(h.part hc i p).2 x h1 h2 (fun b hb=>by rw[hT b hb];omega),(h.wa i p x h1 h2).2⟩,h.ids,h.rm,h.rs,h.rw,fun b hb=>h.hi b (Nat.le_trans hc.size hb)⟩
theorem MdAt.below (h:MdAt W ρ mb M sv wv SB WB) (hb:Below W.heap.size W W'):MdAt W' ρ mb M sv wv SB WB:=h.chg (T:=fun _=>False) (Chg.ofBelow hb) (fun _ e=>e.elim)
theorem MdAt.own {M':Md}{sv' wv':Value}(h:MdAt W ρ mb M sv wv SB WB) (hc:Chg (fun b=>b=mb) W W') (hk:∀i u,(mdV M' sv' wv')[i]? = some u->W'.cell? ⟨mb,i,none⟩=some u) (hf:∀o,W'.frozen? ⟨mb,o,none⟩=false) (e1:M'.sds=M.sds) (e2:M'.wns=M.wns) (e3:sv'=sv) (e4:wv'=wv):MdAt W' ρ mb M' sv' wv' SB WB:=by
 subst e3 e4
 refine⟨hk,hf,rowA_chg hc h.sr (fun b hb e=>by subst e;have:=h.rs b hb;rw[h.rm]at this;cases this),rowA_chg hc h.wr (fun b hb e=>by subst e;have:=h.rw b hb;rw[h.rm]at this;cases this),by rw[e1];exact h.sl,by rw[e2];exact h.wl,by rw[e1];exact h.s4,?_,?_,by rw[e2];exact h.ids,h.rm,h.rs,h.rw,fun b hb=>h.hi b (Nat.le_trans hc.size hb)⟩
 ·intro i p s h1 h2
  rw[e1]at h2
  exact⟨(h.part hc i p).1 s h1 h2 (fun b hb=>by subst hb;rw[h.rm];omega),(h.sa i p s h1 h2).2⟩
 ·intro i p x h1 h2
  rw[e2]at h2
  exact⟨(h.part hc i p).2 x h1 h2 (fun b hb=>by subst hb;rw[h.rm];omega),(h.wa i p x h1 h2).2⟩
theorem MdAt.roles {ρ':Nat->Nat}(h:MdAt W ρ mb M sv wv SB WB) (h1:∀b,b<W.heap.size->ρ b≠0->ρ' b=ρ b) (h2:∀b,W.heap.size<=b->ρ' b=0):MdAt W ρ' mb M sv wv SB WB:=by
 refine⟨h.k,h.fz,h.sr,h.wr,h.sl,h.wl,h.s4,?_,?_,h.ids,(h1 mb h.lt (by rw[h.rm];decide)).trans h.rm,fun b hb=>(h1 b (h.sr.lt b hb).2 (by rw[h.rs b hb];decide)).trans (h.rs b hb),fun b hb=>(h1 b (h.wr.lt b hb).2 (by rw[h.rw b hb];decide)).trans (h.rw b hb),h2⟩
 ·intro i p s g1 g2
  obtain⟨a,b,c⟩:=h.sa i p s g1 g2
  exact⟨a,(h1 _ a.lt (by rw[b];omega)).trans b,fun y hy=>(h1 y (a.row.lt y hy).2 (by rw[c y hy];omega)).trans (c y hy)⟩
 ·intro i p x g1 g2
  obtain⟨a,b,c⟩:=h.wa i p x g1 g2
  have c':∀y,p.2.ownBlock=some y->ρ' y=1001+2*x.id.toNat:=fun y hy=>(h1 y (a.row.lt y hy).2 (by rw[c y hy];omega)).trans (c y hy)
  have b':ρ' p.1=1000+2*x.id.toNat:=(h1 _ a.lt (by rw[b];omega)).trans b
  refine⟨⟨a.c0,a.c1,a.c2,a.c3,a.c4,a.c5,a.c6,a.c7,a.c8,a.c9,a.c10,a.c11,a.c12,a.fz,a.row,a.sb,fun k hk=>(a.con k hk).mono (fun y hy e=>(h1 y hy (by rw[e];decide)).trans e),fun e=>by have e':ρ' p.1=4:=e;omega,fun y hy e=>by have e':ρ' y=4:=e;rw[c' y hy]at e';omega⟩,b',c'⟩
theorem MdAt.snd {i:Nat}{p:Nat × Value}{v':Value}{s s':Sd}(h:MdAt W ρ mb M sv wv SB WB) (h1:SB[i]? = some p) (h2:M.sds[i]? = some s) (hS:SdAt W' (p.1+1) p.1 v' s') (hU:SdUp W W' p.1 p.2 v') :
  MdAt W' (fun b=>if v'.ownBlock=some b then 11+2*i else ρ b) mb { M with sds:=M.sds.set i s' } sv wv (SB.set i (p.1,v')) WB/\(∀b,b<W.heap.size->ρ b=0->(if v'.ownBlock=some b then 11+2*i else ρ b)=0)/\Chg (fun b=>ρ b≠0) W W':=by
 obtain⟨a,b,c⟩:=h.sa i p s h1 h2
 have hil:i<SB.length:=(List.getElem?_eq_some_iff.1 h1).1
 have hi4:i<4:=by have:=h.sl;have:=h.s4;omega
 have tr:∀y,(y=p.1\/p.2.ownBlock=some y)->ρ y=10+2*i\/ρ y=11+2*i:=fun y hy=>by
  rcases hy with e|e
  ·exact .inl (by rw[e];exact b)
  ·exact .inr (c y e)
 have ne:∀r,r≠10+2*i->r≠11+2*i->∀y,ρ y=r->¬(y=p.1\/p.2.ownBlock=some y):=fun r e1 e2 y hy e=>by rcases tr y e with e'|e'<;>omega
 have hv:∀y,v'.ownBlock=some y->p.2.ownBlock=some y\/W.heap.size<=y:=hU.own
 have keep:∀y,ρ y≠0->ρ y≠11+2*i->(if v'.ownBlock=some y then 11+2*i else ρ y)=ρ y:=fun y e1 e2=>by
  rw[if_neg (fun e=>by
   rcases hv y e with e'|e'
   ·exact e2 (c y e')
   ·exact e1 (h.hi y e'))]
 have k2:∀y r,ρ y=r->r≠0->r≠11+2*i->(if v'.ownBlock=some y then 11+2*i else ρ y)=r:=fun y r e1 e2 e3=>by rw[keep y (by omega) (by omega),e1]
 have kC:∀y,y<W'.heap.size->(ρ y=4↔(if v'.ownBlock=some y then 11+2*i else ρ y)=4):=fun y _=>by
  constructor
  ·intro e;rw[k2 y 4 e (by omega) (by omega)]
  ·intro e
   split at e
   ·omega
   ·exact e
 refine⟨⟨fun j u hu=>hU.chg.cell (h.k j u hu) (ne 1 (by omega) (by omega) mb h.rm),fun o=>(hU.chg.frozen (p:=⟨mb,o,none⟩) h.lt (ne 1 (by omega) (by omega) mb h.rm)).trans (h.fz o),?_,rowA_chg hU.chg h.wr (fun y hy=>ne 3 (by omega) (by omega) y (h.rw y hy)),by simp[h.sl],h.wl,by simpa using h.s4,?_,?_,h.ids,k2 mb 1 h.rm (by omega) (by omega),fun y hy=>k2 y 2 (h.rs y hy) (by omega) (by omega),fun y hy=>k2 y 3 (h.rw y hy) (by omega) (by omega),?_⟩,?_,?_⟩
 ·have hr:=rowA_chg hU.chg h.sr (fun y hy=>ne 2 (by omega) (by omega) y (h.rs y hy))
  rw[List.length_set,map_set_ptr SB i p v' h1]
  exact hr
 ·intro j q t g1 g2
  rw[List.getElem?_set]at g1 g2
  by_cases e:i=j
  ·subst e
   rw[if_pos rfl]at g1 g2
   have hil2:i<M.sds.length:=by rw[<-h.sl];exact hil
   simp only[hil,hil2,if_true,Option.some.injEq]at g1 g2
   subst g1 g2
   refine⟨hS,k2 p.1 (10+2*i) b (by omega) (by omega),fun y hy=>by simp only at hy ⊢;rw[if_pos hy]⟩
  ·rw[if_neg e]at g1 g2
   obtain⟨_,b',c'⟩:=h.sa j q t g1 g2
   refine⟨(h.part hU.chg j q).1 t g1 g2 (fun y hy=>by rcases tr y hy with e'|e'<;>omega),k2 q.1 _ b' (by omega) (by omega),fun y hy=>k2 y _ (c' y hy) (by omega) (by omega)⟩
 ·intro j q t g1 g2
  obtain⟨_,b',c'⟩:=h.wa j q t g1 g2
  have hw:=(h.part hU.chg j q).2 t g1 g2 (fun y hy=>by rcases tr y hy with e'|e'<;>omega)
  exact⟨hw.mono kC,k2 q.1 _ b' (by omega) (by omega),fun y hy=>k2 y _ (c' y hy) (by omega) (by omega)⟩
 ·intro y hy
  rw[if_neg (fun e=>by have:=(hS.row.lt y e).2;omega)]
  exact h.hi y (Nat.le_trans hU.chg.size hy)
 ·intro y hy h0
  rw[if_neg (fun e=>by
   rcases hv y e with e'|e'
   ·rw[c y e']at h0;omega
   ·omega)]
  exact h0
 ·exact hU.chg.mono (fun y _ e=>by rcases tr y e with e'|e'<;>omega)
theorem MdAt.wnt {i:Nat}{p:Nat × Value}{v':Value}{x x':Wn}(h:MdAt W ρ mb M sv wv SB WB) (h1:WB[i]? = some p) (h2:M.wns[i]? = some x) (hid:x'.id=x.id) (hS:WnAt (fun b=>ρ b=4) W' (p.1+1) p.1 v' x') (hU:SdUp W W' p.1 p.2 v') :
  MdAt W' (fun b=>if v'.ownBlock=some b then 1001+2*x.id.toNat else ρ b) mb { M with wns:=M.wns.set i x' } sv wv SB (WB.set i (p.1,v'))/\(∀b,b<W.heap.size->ρ b=0->(if v'.ownBlock=some b then 1001+2*x.id.toNat else ρ b)=0)/\Chg (fun b=>ρ b≠0) W W':=by
 obtain⟨a,b,c⟩:=h.wa i p x h1 h2
 have hil:i<WB.length:=(List.getElem?_eq_some_iff.1 h1).1
 have tr:∀y,(y=p.1\/p.2.ownBlock=some y)->ρ y=1000+2*x.id.toNat\/ρ y=1001+2*x.id.toNat:=fun y hy=>by
  rcases hy with e|e
  ·exact .inl (by rw[e];exact b)
  ·exact .inr (c y e)
 have ne:∀r,r≠1000+2*x.id.toNat->r≠1001+2*x.id.toNat->∀y,ρ y=r->¬(y=p.1\/p.2.ownBlock=some y):=fun r e1 e2 y hy e=>by rcases tr y e with e'|e'<;>omega
 have hv:∀y,v'.ownBlock=some y->p.2.ownBlock=some y\/W.heap.size<=y:=hU.own
 have k2:∀y r,ρ y=r->r≠0->r≠1001+2*x.id.toNat->(if v'.ownBlock=some y then 1001+2*x.id.toNat else ρ y)=r:=fun y r e1 e2 e3=>by
  rw[if_neg (fun e=>by
   rcases hv y e with e'|e'
   ·rw[c y e']at e1;omega
   ·rw[h.hi y e']at e1;omega),e1]
 have kC:∀y,y<W'.heap.size->(ρ y=4↔(if v'.ownBlock=some y then 1001+2*x.id.toNat else ρ y)=4):=fun y _=>by
  constructor
  ·intro e;rw[k2 y 4 e (by omega) (by omega)]
  ·intro e
   split at e
   ·omega
   ·exact e
 refine⟨⟨fun j u hu=>hU.chg.cell (h.k j u hu) (ne 1 (by omega) (by omega) mb h.rm),fun o=>(hU.chg.frozen (p:=⟨mb,o,none⟩) h.lt (ne 1 (by omega) (by omega) mb h.rm)).trans (h.fz o),rowA_chg hU.chg h.sr (fun y hy=>ne 2 (by omega) (by omega) y (h.rs y hy)),?_,h.sl,by simp[h.wl],h.s4,?_,?_,?_,k2 mb 1 h.rm (by omega) (by omega),fun y hy=>k2 y 2 (h.rs y hy) (by omega) (by omega),fun y hy=>k2 y 3 (h.rw y hy) (by omega) (by omega),?_⟩,?_,?_⟩
 ·have hr:=rowA_chg hU.chg h.wr (fun y hy=>ne 3 (by omega) (by omega) y (h.rw y hy))
  rw[List.length_set,map_set_ptr WB i p v' h1]
  exact hr
 ·intro j q t g1 g2
  have g3:M.sds[j]? = some t:=g2
  have hj:j<4:=by have:=(List.getElem?_eq_some_iff.1 g3).1;have:=h.s4;omega
  obtain⟨_,b',c'⟩:=h.sa j q t g1 g2
  exact⟨(h.part hU.chg j q).1 t g1 g2 (fun y hy=>by rcases tr y hy with e'|e'<;>omega),k2 q.1 _ b' (by omega) (by omega),fun y hy=>k2 y _ (c' y hy) (by omega) (by omega)⟩
 ·intro j q t g1 g2
  rw[List.getElem?_set]at g1 g2
  by_cases e:i=j
  ·subst e
   rw[if_pos rfl]at g1 g2
   have hil2:i<M.wns.length:=by rw[<-h.wl];exact hil
   simp only[hil,hil2,if_true,Option.some.injEq]at g1 g2
   subst g1 g2
   refine⟨hS.mono kC,by rw[hid];exact k2 p.1 _ b (by omega) (by omega),fun y hy=>by simp only at hy ⊢;rw[if_pos hy,hid]⟩
  ·rw[if_neg e]at g1 g2
   have hne:=h.ids i j x t e h2 g2
   obtain⟨_,b',c'⟩:=h.wa j q t g1 g2
   have hw:=(h.part hU.chg j q).2 t g1 g2 (fun y hy=>by rcases tr y hy with e'|e'<;>omega)
   exact⟨hw.mono kC,k2 q.1 _ b' (by omega) (by omega),fun y hy=>k2 y _ (c' y hy) (by omega) (by omega)⟩
 ·intro j l y z hjl g1 g2
  rw[List.getElem?_set]at g1 g2
  have hx:∀j y,(if i=j then if i<M.wns.length then some x' else none else M.wns[j]?)=some y->∃y',M.wns[j]? = some y'/\y'.id=y.id:=fun j y g=>by
   split at g
   ·rename_i e
    subst e
    split at g
    ·cases g;exact⟨x,h2,hid.symm⟩
    ·cases g
   ·exact⟨y,g,rfl⟩
  obtain⟨y',gy,ey⟩:=hx j y g1
  obtain⟨z',gz,ez⟩:=hx l z g2
  rw[<-ey,<-ez]
  exact h.ids j l y' z' hjl gy gz
 ·intro y hy
  rw[if_neg (fun e=>by have:=(hS.row.lt y e).2;omega)]
  exact h.hi y (Nat.le_trans hU.chg.size hy)
 ·intro y hy h0
  rw[if_neg (fun e=>by
   rcases hv y e with e'|e'
   ·rw[c y e']at h0;omega
   ·omega)]
  exact h0
 ·exact hU.chg.mono (fun y _ e=>by rcases tr y e with e'|e'<;>omega)
end
end Pk
namespace Pk
theorem eq_dec (a b:Int):(a == b)=decide (a=b):=by rw[Bool.eq_iff_iff];simp
theorem idx_none {α:Type}{p:α->Bool}{l:List α}{k:Nat}(hk:l.length<=k) (h:∀m (hm:m<l.length),m<k->p l[m]=false):l.findIdx? p=none:=by
 rw[List.findIdx?_eq_none_iff]
 intro x hx
 obtain⟨m,hm,rfl⟩:=List.mem_iff_getElem.1 hx
 exact h m hm (by omega)
theorem idx_some {α:Type}{p:α->Bool}{l:List α}{k:Nat}(hk:k<l.length) (h:∀m (hm:m<l.length),m<k->p l[m]=false) (h2:p l[k]=true):l.findIdx? p=some k:=by
 rw[List.findIdx?_eq_some_iff_getElem]
 exact⟨hk,h2,fun j hj=>by rw[h j (by omega) hj];simp⟩
def sndPos (M:Md) (source:Int):Option Nat:=M.sds.findIdx? fun s=>decide (s.src=source)
def wntPos (M:Md) (id:Int):Option Nat:=M.wns.findIdx? fun x=>decide (x.id=id)
def hasW (x:Wn) (source:Int):Bool:=decide (x.src=source) || decide (x.pl.second=source)
end Pk
open Pk
theorem between_any (n lo hi:Int) (w:World) :
  Calls Tryz.prog 32 #[.int .i64 n,.int .i64 lo,.int .i64 hi] w fun e w'=>e = .returned (.bool (decide (lo<=n/\n<=hi)))/\w'=w:=by
 by_cases h0:lo<=n
 ·by_cases h1:n<=hi
  ·go_enter Tryz.func32,Tryz.ntmps32
   go_wp2
   go_ret
   exact⟨ret_bool (decide_eq_true (by omega)).symm,rfl⟩
  ·go_enter Tryz.func32,Tryz.ntmps32
   go_wp2
   go_ret
   exact⟨ret_bool (by first|exact(decide_eq_false (by omega)).symm|(rw[decide_eq_false (by omega),decide_eq_false (by omega)])),rfl⟩
 ·go_enter Tryz.func32,Tryz.ntmps32
  go_wp2
  go_ret
  exact⟨ret_bool (by rw[decide_eq_false (show ¬lo<=n by omega)];rfl),rfl⟩
theorem hasG_any (sb:Nat) (src source:Int) (w:World) (h:w.cell? ⟨sb,0,none⟩=some (.int .i64 src)) :
  Calls Tryz.prog 66 #[.pointer (some ⟨sb,0,none⟩),.int .i64 source] w fun e w'=>e = .returned (.bool (decide (src=source)))/\w'=w:=by
 have He:Hid ((src == source)=decide (src=source)):=eq_dec _ _
 go_enter Tryz.func66,Tryz.ntmps66
 go_wp2
 go_ret
 exact⟨ret_bool He.out,rfl⟩
theorem hasK_any (sb:Nat) (src source:Int) (w:World) (h:w.cell? ⟨sb,0,none⟩=some (.int .i64 src)) :
  Calls Tryz.prog 84 #[.pointer (some ⟨sb,0,none⟩),.int .i64 source] w fun e w'=>e = .returned (.bool (decide (src=source)))/\w'=w:=by
 have He:Hid ((src == source)=decide (src=source)):=eq_dec _ _
 go_enter Tryz.func84,Tryz.ntmps84
 go_wp2
 go_ret
 exact⟨ret_bool He.out,rfl⟩
theorem wantHas_any (wb:Nat) (src second source:Int) (w:World) (h:w.cell? ⟨wb,0,none⟩=some (.int .i64 src)) (h6:w.cell? ⟨wb,6,none⟩=some (.int .i64 second)) :
  Calls Tryz.prog 65 #[.pointer (some ⟨wb,0,none⟩),.int .i64 source] w fun e w'=>e = .returned (.bool (decide (src=source) || decide (second=source)))/\w'=w:=by
 have He:Hid ((second == source)=decide (second=source)):=eq_dec _ _
 have Hh:=hyd h
 by_cases hs:src=source
 ·have Hr:Hid (true=(decide (src=source) || decide (second=source))):=by show _=_;rw[decide_eq_true hs];rfl
  go_enter Tryz.func65,Tryz.ntmps65
  go_wp2_with fail
  refine(hasK_any wb src source _ Hh.out).mono ?_
  rintro e w1 ⟨rfl,hw1⟩
  rw[hw1,decide_eq_true hs]
  clear hw1
  go_wp2
  go_ret
  exact⟨ret_bool Hr.out,rfl⟩
 ·have Hr:Hid ((second == source)=(decide (src=source) || decide (second=source))):=by show _=_;rw[decide_eq_false hs,He.out];rfl
  go_enter Tryz.func65,Tryz.ntmps65
  go_wp2_with fail
  refine(hasK_any wb src source _ Hh.out).mono ?_
  rintro e w1 ⟨rfl,hw1⟩
  rw[hw1,decide_eq_false hs]
  clear hw1
  go_wp2
  go_ret
  exact⟨ret_bool Hr.out,rfl⟩
theorem wantOf_any (wb:Nat) (of_ source:Int) (w:World) (h:w.cell? ⟨wb,4,none⟩=some (.int .i64 of_)) :
  Calls Tryz.prog 92 #[.pointer (some ⟨wb,0,none⟩),.int .i64 source] w fun e w'=>e = .returned (.bool (decide (of_=source)))/\w'=w:=by
 have He:Hid ((of_ == source)=decide (of_=source)):=eq_dec _ _
 go_enter Tryz.func92,Tryz.ntmps92
 go_wp2
 go_ret
 exact⟨ret_bool He.out,rfl⟩
theorem wantID_any (wb:Nat) (id:Int) (w:World) (h:w.cell? ⟨wb,3,none⟩=some (.int .i64 id)) :
  Calls Tryz.prog 69 #[.pointer (some ⟨wb,0,none⟩)] w fun e w'=>e = .returned (.int .i64 id)/\w'=w:=by
 go_enter Tryz.func69,Tryz.ntmps69
 go_wp2
 go_ret
 exact⟨rfl,rfl⟩
theorem sender_any (ρ:Nat->Nat) (mb:Nat) (M:Md) (sv wv:Value) (SB WB:List (Nat × Value)) (source:Int) (w:World) (h:MdAt w ρ mb M sv wv SB WB) :
  Calls Tryz.prog 38 #[.pointer (some ⟨mb,0,none⟩),.int .i64 source] w fun e w'=>w'=w/\
   ((sndPos M source=none/\e = .returned (.pointer none))\/∃i p s,sndPos M source=some i/\SB[i]? = some p/\M.sds[i]? = some s/\s.src=source/\e = .returned (ptr p.1)):=by
 obtain⟨ao,cap,rfl⟩:=rowA_shape h.sr
 have H:=hyd h
 have y18:w.cell? ⟨mb,18,none⟩=some (.slice ao SB.length cap):=h.k 18 _ rfl
 have hs4:SB.length<=4:=by have:=h.sl;have:=h.s4;omega
 clear h
 go_enter Tryz.func38,Tryz.ntmps38
 go_wp2
 go_loopw [12] (fun s12 wr=>∃k:Nat,k<=SB.length/\s12 = .int .i64 k/\(∀m (hm:m<M.sds.length),m<k->decide ((M.sds[m]).src=source)=false)/\wr=w) (fun s12 _=>SB.length-(intOf s12).toNat)
 case atStart=>exact⟨0,Nat.zero_le _,rfl,fun m _ hm=>by omega,rfl⟩
 case round=>
  obtain⟨k,hk,rfl,hno,hwr⟩:=hrel
  rw[hwr]
  clear hwr
  have Hno:=hyd hno
  clear hno
  by_cases hlt:k<SB.length
  ·have hlt':(k:Int)<SB.length:=by omega
   obtain⟨g,rfl⟩:=rowA_some H.out.sr (by omega)
   have hks:k<M.sds.length:=by rw[<-H.out.sl];exact hlt
   have hp:SB[k]? = some SB[k]:=List.getElem?_eq_getElem hlt
   have hs:M.sds[k]? = some M.sds[k]:=List.getElem?_eq_getElem hks
   have d0:w.cell? ⟨g,k,none⟩=some (ptr (SB[k]).1):=by
    have h:=H.out.sr.cellAt k (by omega)
    rw[h,List.getElem?_map,hp]
    rfl
   obtain⟨hSd,_,_⟩:=H.out.sa k _ _ hp hs
   have Hp:=hyd hp
   have Hs:=hyd hs
   have hx:=hSd.c0
   obtain⟨p,hpe⟩:∃p,SB[k]=p:=⟨_,rfl⟩
   obtain⟨s,hse⟩:∃s,M.sds[k]=s:=⟨_,rfl⟩
   have Hse:=hyd hse
   rw[hpe]at d0 hx Hp
   rw[hse]at hx Hs
   unfold ptr at d0
   clear hpe hse hp hs hSd
   go_wp2_with fail
   refine(hasG_any p.1 s.src source _ hx).mono ?_
   rintro e w1 ⟨rfl,hw1⟩
   rw[hw1]
   clear hw1
   by_cases he:s.src=source
   ·rw[decide_eq_true he]
    have Hi:Hid (sndPos M source=some k):=idx_some hks Hno.out (by rw[Hse.out];exact decide_eq_true he)
    have He:=hyd he
    clear he
    go_wp2
    go_ret
    exact⟨rfl,.inr ⟨k,p,s,Hi.out,Hp.out,Hs.out,He.out,rfl⟩⟩
   ·rw[decide_eq_false he]
    have He:Hid (decide (s.src=source)=false):=decide_eq_false he
    clear he
    go_wp2
    go_roundw
    case rel=>exact⟨k+1,by omega,by go_num,fun m hm hmk=>by
     rcases Nat.lt_or_ge m k with h|h
     ·exact Hno.out m hm h
     ·obtain rfl:m=k:=by omega
      rw[Hse.out];exact He.out,trivial⟩
    case measure=>simp[intOf];omega
  ·have hlt':¬(k:Int)<SB.length:=by omega
   have Hi:Hid (sndPos M source=none):=idx_none (k:=k) (by rw[<-H.out.sl];omega) Hno.out
   go_wp2
   go_ret
   exact⟨rfl,.inl ⟨Hi.out,rfl⟩⟩
end Go.Proofs.YtdjhhnolcafkiaaGreat
namespace Go.Proofs.YtdjhhnolcafkiaaGreat
open Go.RowKit
namespace Pk
def posI:Option Nat->Int
 | some i=>i
 | none=>-1
def hasPos (M:Md) (source:Int):Option Nat:=M.wns.findIdx? fun x=>hasW x source
def knowsF (M:Md) (source:Int):Bool:=(sndPos M source).isSome || (hasPos M source).isSome
end Pk
open Pk
theorem findW1_any (wb:Nat) (x:Wn) (a:Int) (B:Nat) (W:World){C:Nat->Prop}{base:Nat}{v:Value}(h:WnAt C W base wb v x) (hB:W.cell? ⟨B,0,none⟩=some (.int .i64 a)) :
  Calls Tryz.prog 68 #[.pointer (some ⟨wb,0,none⟩),.pointer (some ⟨B,0,none⟩)] W fun e w'=>e = .returned (.bool (decide (x.id=a)))/\Below W.heap.size W w':=by
 have y3:=h.c3
 have He:Hid ((x.id == a)=decide (x.id=a)):=eq_dec _ _
 go_enter Tryz.func68,Tryz.ntmps68
 go_wp2
 refine wp_region_noPanic ?_
 refine wp_region_held_drew (S:=fun W=>W.cell? ⟨B,0,none⟩=some (.int .i64 a)) (by kernel_rfl) hB (fun zH=>?_)
 refine tka 0 ?_
 refine tka 2 ?_
 refine rd1 1 fun K hK=>?_
 go_simp
 refine(wantID_any wb x.id W.drew y3).mono ?_
 rintro e w1 ⟨rfl,hw1⟩
 rw[hw1]
 clear hw1
 go_wp2_with fail
 refine hK.out _ _ hB (fun zH=>?_)
 clear hK K
 refine tka 3 ?_
 refine tka 4 ?_
 refine doN ?_
 go_wp2
 go_ret
 exact⟨ret_bool He.out,(Below.refl _ _).drew⟩
theorem knowsW1_any (wb:Nat) (x:Wn) (a:Int) (B:Nat) (W:World){C:Nat->Prop}{base:Nat}{v:Value}(h:WnAt C W base wb v x) (hB:W.cell? ⟨B,0,none⟩=some (.int .i64 a)) :
  Calls Tryz.prog 64 #[.pointer (some ⟨wb,0,none⟩),.pointer (some ⟨B,0,none⟩)] W fun e w'=>e = .returned (.bool (hasW x a))/\Below W.heap.size W w':=by
 have H:=hyd h
 clear h
 have Hh:Hid (hasW x a=(decide (x.src=a) || decide (x.pl.second=a))):=rfl
 go_enter Tryz.func64,Tryz.ntmps64
 go_wp2_with fail
 refine(wantHas_any wb x.src x.pl.second a _ H.out.c0 H.out.c6).mono ?_
 rintro e w1 ⟨rfl,hw1⟩
 rw[hw1,<-Hh.out]
 clear hw1
 go_wp2
 go_ret
 exact⟨rfl,Below.refl _ _⟩
theorem indexfindW_any (ρ:Nat->Nat) (mb B:Nat) (M:Md) (sv wv:Value) (SB WB:List (Nat × Value)) (a:Int) (w:World) (h:MdAt w ρ mb M sv wv SB WB) (hB:w.cell? ⟨B,0,none⟩=some (.int .i64 a)) (h8:M.wns.length<=8) :
  Calls Tryz.prog 67 #[wv,.func (.func 68) #[] #[.pointer (some ⟨B,0,none⟩)]] w fun e w'=>e = .returned (.int .i64 (posI (wntPos M a)))/\Below w.heap.size w w':=by
 obtain⟨ao,cap,rfl⟩:=rowA_shape h.wr
 have H:=hyd h
 have HB:=hyd hB
 have hw8:WB.length<=8:=by have:=h.wl;omega
 clear h hB
 go_enter Tryz.func67,Tryz.ntmps67
 go_wp2
 go_loopw [8] (fun s8 wr=>∃k:Nat,k<=WB.length/\s8 = .int .i64 k/\(∀m (hm:m<M.wns.length),m<k->decide ((M.wns[m]).id=a)=false)/\Below w.heap.size w wr) (fun s8 _=>WB.length-(intOf s8).toNat)
 case atStart=>exact⟨0,Nat.zero_le _,rfl,fun m _ hm=>by omega,Below.refl _ _⟩
 case round=>
  obtain⟨k,hk,rfl,hno,hbel⟩:=hrel
  have Hno:=hyd hno
  have Hbel:=hyd hbel
  clear hno hbel
  by_cases hlt:k<WB.length
  ·have hlt':(k:Int)<WB.length:=by omega
   have HW:=H.out.below Hbel.out
   obtain⟨g,rfl⟩:=rowA_some HW.wr (by omega)
   have hks:k<M.wns.length:=by rw[<-H.out.wl];exact hlt
   have hp:WB[k]? = some WB[k]:=List.getElem?_eq_getElem hlt
   have hs:M.wns[k]? = some M.wns[k]:=List.getElem?_eq_getElem hks
   have d0:wr.cell? ⟨g,k,none⟩=some (ptr (WB[k]).1):=by
    have h:=HW.wr.cellAt k (by omega)
    rw[h,List.getElem?_map,hp]
    rfl
   obtain⟨hWn,_,_⟩:=HW.wa k _ _ hp hs
   have hcB:wr.cell? ⟨B,0,none⟩=some (.int .i64 a):=(Hbel.out.cell (p:=⟨B,0,none⟩) (lt_of_cell HB.out)).trans HB.out
   obtain⟨p,hpe⟩:∃p,WB[k]=p:=⟨_,rfl⟩
   obtain⟨x,hxe⟩:∃x,M.wns[k]=x:=⟨_,rfl⟩
   have Hxe:=hyd hxe
   rw[hpe]at d0 hWn
   rw[hxe]at hWn
   unfold ptr at d0
   have HWn:=hyd hWn
   clear hpe hxe hp hs hWn HW
   go_wp2_with fail
   refine(findW1_any p.1 x a B _ HWn.out hcB).mono ?_
   rintro e w1 ⟨rfl,hb1⟩
   have Hb1:Hid (Below w.heap.size w w1):=Hbel.out.trans (hb1.mono Hbel.out.size)
   clear hb1 d0 hcB
   cases he:decide ((x).id=a)with
   | true=>
    have Hi:Hid (wntPos M a=some k):=idx_some hks Hno.out (by rw[Hxe.out];exact he)
    clear he
    go_wp2
    go_ret
    exact⟨by rw[Hi.out];rfl,Hb1.out⟩
   | false=>
    have He:=hyd he
    clear he
    go_wp2
    go_roundw
    case rel=>exact⟨k+1,by omega,by go_num,fun m hm hmk=>by
     rcases Nat.lt_or_ge m k with h|h
     ·exact Hno.out m hm h
     ·obtain rfl:m=k:=by omega
      rw[Hxe.out];exact He.out,Hb1.out⟩
    case measure=>simp[intOf];omega
  ·have hlt':¬(k:Int)<WB.length:=by omega
   have Hi:Hid (wntPos M a=none):=idx_none (k:=k) (by rw[<-H.out.wl];omega) Hno.out
   go_wp2
   go_ret
   exact⟨by rw[Hi.out];rfl,Hbel.out⟩
theorem indexknowsW_any (ρ:Nat->Nat) (mb B:Nat) (M:Md) (sv wv:Value) (SB WB:List (Nat × Value)) (a:Int) (w:World) (h:MdAt w ρ mb M sv wv SB WB) (hB:w.cell? ⟨B,0,none⟩=some (.int .i64 a)) (h8:M.wns.length<=8) :
  Calls Tryz.prog 67 #[wv,.func (.func 64) #[] #[.pointer (some ⟨B,0,none⟩)]] w fun e w'=>e = .returned (.int .i64 (posI (hasPos M a)))/\Below w.heap.size w w':=by
 obtain⟨ao,cap,rfl⟩:=rowA_shape h.wr
 have H:=hyd h
 have HB:=hyd hB
 have hw8:WB.length<=8:=by have:=h.wl;omega
 clear h hB
 go_enter Tryz.func67,Tryz.ntmps67
 go_wp2
 go_loopw [8] (fun s8 wr=>∃k:Nat,k<=WB.length/\s8 = .int .i64 k/\(∀m (hm:m<M.wns.length),m<k->hasW (M.wns[m]) a=false)/\Below w.heap.size w wr) (fun s8 _=>WB.length-(intOf s8).toNat)
 case atStart=>exact⟨0,Nat.zero_le _,rfl,fun m _ hm=>by omega,Below.refl _ _⟩
 case round=>
  obtain⟨k,hk,rfl,hno,hbel⟩:=hrel
  have Hno:=hyd hno
  have Hbel:=hyd hbel
  clear hno hbel
  by_cases hlt:k<WB.length
  ·have hlt':(k:Int)<WB.length:=by omega
   have HW:=H.out.below Hbel.out
   obtain⟨g,rfl⟩:=rowA_some HW.wr (by omega)
   have hks:k<M.wns.length:=by rw[<-H.out.wl];exact hlt
   have hp:WB[k]? = some WB[k]:=List.getElem?_eq_getElem hlt
   have hs:M.wns[k]? = some M.wns[k]:=List.getElem?_eq_getElem hks
   have d0:wr.cell? ⟨g,k,none⟩=some (ptr (WB[k]).1):=by
    have h:=HW.wr.cellAt k (by omega)
    rw[h,List.getElem?_map,hp]
    rfl
   obtain⟨hWn,_,_⟩:=HW.wa k _ _ hp hs
   have hcB:wr.cell? ⟨B,0,none⟩=some (.int .i64 a):=(Hbel.out.cell (p:=⟨B,0,none⟩) (lt_of_cell HB.out)).trans HB.out
   obtain⟨p,hpe⟩:∃p,WB[k]=p:=⟨_,rfl⟩
   obtain⟨x,hxe⟩:∃x,M.wns[k]=x:=⟨_,rfl⟩
   have Hxe:=hyd hxe
   rw[hpe]at d0 hWn
   rw[hxe]at hWn
   unfold ptr at d0
   have HWn:=hyd hWn
   clear hpe hxe hp hs hWn HW
   go_wp2_with fail
   refine(knowsW1_any p.1 x a B _ HWn.out hcB).mono ?_
   rintro e w1 ⟨rfl,hb1⟩
   have Hb1:Hid (Below w.heap.size w w1):=Hbel.out.trans (hb1.mono Hbel.out.size)
   clear hb1 d0 hcB
   cases he:hasW (x) a with
   | true=>
    have Hi:Hid (hasPos M a=some k):=idx_some hks Hno.out (by rw[Hxe.out];exact he)
    clear he
    go_wp2
    go_ret
    exact⟨by rw[Hi.out];rfl,Hb1.out⟩
   | false=>
    have He:=hyd he
    clear he
    go_wp2
    go_roundw
    case rel=>exact⟨k+1,by omega,by go_num,fun m hm hmk=>by
     rcases Nat.lt_or_ge m k with h|h
     ·exact Hno.out m hm h
     ·obtain rfl:m=k:=by omega
      rw[Hxe.out];exact He.out,Hb1.out⟩
    case measure=>simp[intOf];omega
  ·have hlt':¬(k:Int)<WB.length:=by omega
   have Hi:Hid (hasPos M a=none):=idx_none (k:=k) (by rw[<-H.out.wl];omega) Hno.out
   go_wp2
   go_ret
   exact⟨by rw[Hi.out];rfl,Hbel.out⟩
theorem findWant_any (ρ:Nat->Nat) (mb:Nat) (M:Md) (sv wv:Value) (SB WB:List (Nat × Value)) (id:Int) (w:World) (h:MdAt w ρ mb M sv wv SB WB) (h8:M.wns.length<=8) :
  Calls Tryz.prog 42 #[.pointer (some ⟨mb,0,none⟩),.int .i64 id] w fun e w'=>e = .returned (.int .i64 (posI (wntPos M id)))/\Below w.heap.size w w':=by
 obtain⟨ao,cap,rfl⟩:=rowA_shape h.wr
 have H:=hyd h
 have y19:w.cell? ⟨mb,19,none⟩=some (.slice ao WB.length cap):=h.k 19 _ rfl
 have hlt:=h.lt
 have hne:mb≠w.heap.size:=by omega
 clear h
 go_enter Tryz.func42,Tryz.ntmps42
 go_wp2_with fail
 refine(indexfindW_any ρ mb w.heap.size M sv _ SB WB id _ (H.out.below ((Below.refl _ _).alloc (Nat.le_refl _) _)) (cell_new _ _ _ 0) h8).mono ?_
 rintro e w1 ⟨rfl,hb1⟩
 have Hb1:Hid (Below w.heap.size w w1):=((Below.refl _ _).alloc (Nat.le_refl _) _).trans (hb1.mono (by simp))
 clear hb1
 generalize hr:posI (wntPos M id)=r at *
 have Hr:=hyd hr
 clear hr
 go_wp2
 go_ret
 rw[Hr.out]
 exact⟨rfl,Hb1.out⟩
theorem containsW_any (ρ:Nat->Nat) (mb B:Nat) (M:Md) (sv wv:Value) (SB WB:List (Nat × Value)) (a:Int) (w:World) (h:MdAt w ρ mb M sv wv SB WB) (hB:w.cell? ⟨B,0,none⟩=some (.int .i64 a)) (h8:M.wns.length<=8) :
  Calls Tryz.prog 63 #[wv,.func (.func 64) #[] #[.pointer (some ⟨B,0,none⟩)]] w fun e w'=>e = .returned (.bool (hasPos M a).isSome)/\Below w.heap.size w w':=by
 have H:=hyd h
 have HB:=hyd hB
 obtain⟨ao,cap,rfl⟩:=rowA_shape h.wr
 clear h hB
 have Hr:Hid (decide (0<=posI (hasPos M a))=(hasPos M a).isSome):=by
  show _=_
  cases hasPos M a with
  | none=>rfl
  | some i=>simp[posI]
 go_enter Tryz.func63,Tryz.ntmps63
 go_wp2_with fail
 refine(indexknowsW_any ρ mb B M sv _ SB WB a _ H.out HB.out h8).mono ?_
 rintro e w1 ⟨rfl,hb1⟩
 have Hb1:=hyd hb1
 clear hb1
 generalize posI (hasPos M a)=r at *
 go_wp2
 go_ret
 exact⟨ret_bool Hr.out,Hb1.out⟩
theorem knows_any (ρ:Nat->Nat) (mb:Nat) (M:Md) (sv wv:Value) (SB WB:List (Nat × Value)) (source:Int) (w:World) (h:MdAt w ρ mb M sv wv SB WB) (h8:M.wns.length<=8) :
  Calls Tryz.prog 33 #[.pointer (some ⟨mb,0,none⟩),.int .i64 source] w fun e w'=>e = .returned (.bool (knowsF M source))/\Below w.heap.size w w':=by
 obtain⟨ao,cap,rfl⟩:=rowA_shape h.wr
 have H:=hyd h
 have y19:w.cell? ⟨mb,19,none⟩=some (.slice ao WB.length cap):=h.k 19 _ rfl
 have hlt:=h.lt
 have hne:mb≠w.heap.size:=by omega
 have HA:Hid (∀o,MdAt (w.alloc o) ρ mb M sv (.slice ao WB.length cap) SB WB):=fun o=>h.below ((Below.refl _ _).alloc (Nat.le_refl _) _)
 clear h
 go_enter Tryz.func33,Tryz.ntmps33
 go_wp2_with fail
 refine(sender_any ρ mb M sv _ SB WB source _ (HA.out _)).mono ?_
 rintro e w1 ⟨hw1,⟨hn,rfl⟩|⟨i,p,s,hi,h1,h2,h3,rfl⟩⟩
 ·have Hk:Hid (knowsF M source=(hasPos M source).isSome):=by show _=_;unfold knowsF;rw[hn];rfl
  rw[hw1]
  clear hn hw1
  go_wp2_with fail
  refine(containsW_any ρ mb w.heap.size M sv _ SB WB source _ (HA.out _) (cell_new _ _ _ 0) h8).mono ?_
  rintro e w2 ⟨rfl,hb2⟩
  have Hb2:Hid (Below w.heap.size w w2):=((Below.refl _ _).alloc (Nat.le_refl _) _).trans (hb2.mono (by simp))
  rw[<-Hk.out]
  clear hb2
  generalize hr:knowsF M source=r at *
  have Hr:=hyd hr
  clear hr
  go_wp2
  go_ret
  rw[Hr.out]
  exact⟨rfl,Hb2.out⟩
 ·have Hk:Hid (true=knowsF M source):=by show _=_;unfold knowsF;rw[hi];rfl
  rw[hw1]
  unfold ptr
  clear hi h1 h2 h3 hw1
  go_wp2
  go_ret
  exact⟨ret_bool Hk.out,(Below.refl _ _).alloc (Nat.le_refl _) _⟩
end Go.Proofs.YtdjhhnolcafkiaaGreat
namespace Go.Proofs.YtdjhhnolcafkiaaGreat
open Go.RowKit
namespace Pk
def cfgOk (c:Cfg):Bool:=decide ((1<=c.ring/\c.ring<=64)/\(1<=c.window/\c.window<=200)/\(0<=c.delay/\c.delay<=1000000)/\(0<=c.rate/\c.rate<=100000)/\(0<=c.burst/\c.burst<=1000000)/\(1<=c.retry/\c.retry<=1000000)/\(0<=c.tries/\c.tries<=10))
def plOk (p:Plan):Bool:=decide ((0<=p.source/\p.source<=4294967295)/\(0<=p.second/\p.second<=4294967295)/\(0<=p.ty/\p.ty<=127)/\(0<=p.secondTy/\p.secondTy<=127)/\(0<=p.first/\p.first<=65535)/\(0<=p.secondFirst/\p.secondFirst<=65535)/\p.source≠p.second)
def plV (p:Plan):List Value:=[.int .i64 p.source,.int .i64 p.second,.int .i64 p.ty,.int .i64 p.secondTy,.int .i64 p.first,.int .i64 p.secondFirst]
def newM (c:Cfg):Md:=⟨c,⟨0,c.burst,0,0,0,0,0,0,0,0,0⟩,[],[],0⟩
theorem ret_b {a b:Bool}(h:a=b):Ending.returned (.bool a) = .returned (.bool b):=by rw[h]
end Pk
open Pk
theorem configFits_any (c:Cfg) (w:World) :
  Calls Tryz.prog 30 #[.agg #[.int .i64 c.ring,.int .i64 c.window,.int .i64 c.delay,.int .i64 c.rate,.int .i64 c.burst,.int .i64 c.retry,.int .i64 c.tries]] w fun e w'=>e = .returned (.bool (cfgOk c))/\Below w.heap.size w w':=by
 obtain⟨r,hr⟩:∃r,cfgOk c=r:=⟨_,rfl⟩
 have Hr:=hyd hr
 rw[hr]
 clear hr
 go_enter Tryz.func30,Tryz.ntmps30
 go_wp2_with (first|(go_at_call 32;refine(between_any _ _ _ _).mono ?_;rintro e w' ⟨rfl,rfl⟩))
 all_goals go_ret
 all_goals refine⟨Pk.ret_b ?_,(Below.refl _ _).alloc (Nat.le_refl _) _⟩
 all_goals rw[<-Hr.out]
 all_goals unfold cfgOk
 all_goals first
  | exact(decide_eq_true (by omega)).symm
  | exact(decide_eq_false (by omega)).symm
  | (symm;rw[Bool.eq_iff_iff];simp only[decide_eq_true_eq,Bool.and_eq_true];omega)
theorem wantFits_any (p:Plan) (w:World) :
  Calls Tryz.prog 39 #[.agg #[.int .i64 p.source,.int .i64 p.second,.int .i64 p.ty,.int .i64 p.secondTy,.int .i64 p.first,.int .i64 p.secondFirst]] w fun e w'=>e = .returned (.bool (plOk p))/\Below w.heap.size w w':=by
 obtain⟨r,hr⟩:∃r,plOk p=r:=⟨_,rfl⟩
 have Hr:=hyd hr
 rw[hr]
 clear hr
 go_enter Tryz.func39,Tryz.ntmps39
 go_wp2_with (first|(go_at_call 32;refine(between_any _ _ _ _).mono ?_;rintro e w' ⟨rfl,rfl⟩))
 all_goals go_ret
 all_goals refine⟨Pk.ret_b ?_,(Below.refl _ _).alloc (Nat.le_refl _) _⟩
 all_goals rw[<-Hr.out]
 all_goals unfold plOk
 all_goals first
  | exact(decide_eq_true (by omega)).symm
  | exact(decide_eq_false (by omega)).symm
  | (symm;rw[Bool.eq_iff_iff];simp only[decide_eq_true_eq,bne_iff_ne,ne_eq];omega)
theorem newSender_any (source:Int) (w:World) :
  Calls Tryz.prog 35 #[.int .i64 source] w fun e w'=>e = .returned (ptr w.heap.size)/\w'=w.alloc (.cells #[.int .i64 source,.bool false,.slice none 0 0,.int .u16 0] 134):=by
 go_enter Tryz.func35,Tryz.ntmps35
 go_wp2
 go_ret
 exact⟨rfl,rfl⟩
theorem newWant_any (id of_:Int) (p:Plan) (n:Nat) (w:World) (h:p.secondFirst=n) (hn:n<65536) :
  Calls Tryz.prog 40 #[.int .i64 id,.int .i64 of_,.agg #[.int .i64 p.source,.int .i64 p.second,.int .i64 p.ty,.int .i64 p.secondTy,.int .i64 p.first,.int .i64 p.secondFirst]] w fun e w'=>e = .returned (ptr (w.heap.size+1))/\
   w'=(w.alloc (.cells #[.int .i64 p.source,.int .i64 p.second,.int .i64 p.ty,.int .i64 p.secondTy,.int .i64 p.first,.int .i64 p.secondFirst] 39)).alloc (.cells #[.int .i64 p.source,.bool false,.slice none 0 0,.int .i64 id,.int .i64 of_,.int .i64 p.source,.int .i64 p.second,.int .i64 p.ty,.int .i64 p.secondTy,.int .i64 p.first,.int .i64 p.secondFirst,.int .u16 0,.int .u16 n] 141):=by
 have e1:=u16_id n hn
 rw[h]
 go_enter Tryz.func40,Tryz.ntmps40
 go_wp2
 go_ret
 exact⟨rfl,rfl⟩
theorem orNone_any (mb:Nat) (w:World) :
  Calls Tryz.prog 29 #[.pointer (some ⟨mb,0,none⟩)] w fun e w'=>e = .returned (.pointer (some ⟨mb,0,none⟩))/\w'=w:=by
 go_enter Tryz.func29,Tryz.ntmps29
 go_wp2
 go_ret
 exact⟨rfl,rfl⟩
theorem made_any (mb:Nat) (ring:Int) (w:World) (h:w.cell? ⟨mb,0,none⟩=some (.int .i64 ring)) (hr:1<=ring) :
  Calls Tryz.prog 34 #[.pointer (some ⟨mb,0,none⟩)] w fun e w'=>e = .returned (.bool true)/\w'=w:=by
 have h0:(0:Int)<ring:=by omega
 go_enter Tryz.func34,Tryz.ntmps34
 go_wp2
 go_ret
 exact⟨ret_bool (by first|(simp;done)|(simp;omega)),rfl⟩
def newRoleM (mb b:Nat):Nat:=if b=mb then 1 else 0
theorem newM_at (w:World) (c:Cfg):MdAt (w.alloc (.cells #[.int .i64 c.ring,.int .i64 c.window,.int .i64 c.delay,.int .i64 c.rate,.int .i64 c.burst,.int .i64 c.retry,.int .i64 c.tries,.int .i64 0,.int .i64 c.burst,.int .i64 0,.int .i64 0,.int .i64 0,.int .i64 0,.int .i64 0,.int .i64 0,.int .i64 0,.int .i64 0,.int .i64 0,.slice none 0 0,.slice none 0 0,.int .i64 0] 87)) (newRoleM w.heap.size) w.heap.size (newM c) (.slice none 0 0) (.slice none 0 0) [] []:=by
 refine⟨fun i u hu=>?_,fun o=>frozen_new _ _ _ o,World.ownsRow_nil _ _ _ _,World.ownsRow_nil _ _ _ _,rfl,rfl,by simp[newM],fun i p s h=>(by simp at h),fun i p x h=>(by simp at h),fun i j x y _ h=>(by simp[newM]at h),by simp[newRoleM],fun b hb=>(by cases hb),fun b hb=>(by cases hb),fun b hb=>?_⟩
 ·rw[cell_new,<-hu,List.getElem?_toArray]
  rfl
 ·unfold newRoleM
  rw[if_neg (by simp at hb;omega)]
theorem new_any (c:Cfg) (w:World) :
  Calls Tryz.prog 12 #[.agg #[.int .i64 c.ring,.int .i64 c.window,.int .i64 c.delay,.int .i64 c.rate,.int .i64 c.burst,.int .i64 c.retry,.int .i64 c.tries]] w fun e w'=>Below w.heap.size w w'/\
   ((cfgOk c=false/\e = .returned (.tuple #[.pointer none,.int .i64 2]))\/(cfgOk c=true/\∃mb ρ,w.heap.size<=mb/\e = .returned (.tuple #[.pointer (some ⟨mb,0,none⟩),.int .i64 0])/\MdAt w' ρ mb (newM c) (.slice none 0 0) (.slice none 0 0) [] []/\∀b,ρ b≠0->w.heap.size<=b)):=by
 go_enter Tryz.func12,Tryz.ntmps12
 go_wp2_with fail
 refine(configFits_any c _).mono ?_
 rintro e w1 ⟨rfl,hb1⟩
 have hc1:=box_below hb1 w.heap.size (by simp)
 have Hb1:Hid (Below w.heap.size w w1):=((Below.refl _ _).alloc (Nat.le_refl _) _).trans (hb1.mono (by simp))
 have hs1:=Hb1.out.size
 clear hb1
 cases hr:cfgOk c with
 | false=>
  have Hr:=hyd hr
  clear hr
  go_wp2
  go_ret2
  exact⟨Hb1.out,.inl ⟨Hr.out,rfl⟩⟩
 | true=>
  have Hr:=hyd hr
  clear hr
  have q0:w1.cell? ⟨w.heap.size,0,none⟩=some (.int .i64 c.ring):=(hc1 0).trans (cell_new _ _ _ 0)
  have q1:w1.cell? ⟨w.heap.size,1,none⟩=some (.int .i64 c.window):=(hc1 1).trans (cell_new _ _ _ 1)
  have q2:w1.cell? ⟨w.heap.size,2,none⟩=some (.int .i64 c.delay):=(hc1 2).trans (cell_new _ _ _ 2)
  have q3:w1.cell? ⟨w.heap.size,3,none⟩=some (.int .i64 c.rate):=(hc1 3).trans (cell_new _ _ _ 3)
  have q4:w1.cell? ⟨w.heap.size,4,none⟩=some (.int .i64 c.burst):=(hc1 4).trans (cell_new _ _ _ 4)
  have q5:w1.cell? ⟨w.heap.size,5,none⟩=some (.int .i64 c.retry):=(hc1 5).trans (cell_new _ _ _ 5)
  have q6:w1.cell? ⟨w.heap.size,6,none⟩=some (.int .i64 c.tries):=(hc1 6).trans (cell_new _ _ _ 6)
  clear hc1
  go_wp2
  go_ret2
  refine⟨Hb1.out.alloc hs1 _,.inr ⟨Hr.out,w1.heap.size,newRoleM w1.heap.size,hs1,rfl,newM_at w1 c,fun b hb=>?_⟩⟩
  unfold newRoleM at hb
  split at hb
  ·omega
  ·exact absurd rfl hb
end Go.Proofs.YtdjhhnolcafkiaaGreat
namespace Go.Proofs.YtdjhhnolcafkiaaGreat
open Go.RowKit
namespace Pk
structure Rg where
 n:Int
 last:Int
 tries:Int
structure Rs where
 src:Int
 newest:Int
 gv:Value
 gaps:List Rg
structure Re where
 x:PP
 cv:Value
 again:Int
structure Rw where
 id:Int
 of_:Int
 pl:Plan
 av:Value
 all:List Re
 shift:Int
 second:Int
structure Rm where
 c:Cfg
 s:Stt
 sds:List Rs
 wns:List Rw
 ids:Int
def cRg (g:Rg):List Value:=[.int .i64 g.n,.int .i64 g.last,.int .i64 g.tries]
def cRs (s:Rs):List Value:=[.int .i64 s.src,.int .i64 s.newest,s.gv]
def cRe (e:Re):List Value:=cellsP e.x e.cv++[.int .i64 e.again]
def cRw (x:Rw):List Value:=[.int .i64 x.id,.int .i64 x.of_]++plV x.pl++[x.av,.int .i64 x.shift,.int .i64 x.second]
theorem cRg_len (g:Rg):(cRg g).length=3:=rfl
theorem cRs_len (s:Rs):(cRs s).length=3:=rfl
theorem cRw_len (x:Rw):(cRw x).length=11:=rfl
def rmV (R:Rm) (sv wv:Value):List Value:=cfgV R.c++sttV R.s++[sv,wv,.int .i64 R.ids]
def RowR (W:World) (ρ:Nat->Nat) (q:Nat) (e:TypeId) (k:Nat) (v:Value) (n:Nat) (xs:List Value):Prop:=W.ownsRow 0 e k v n xs/\∀b,v.ownBlock=some b->ρ b=q
theorem RowR.keep {T:Nat->Prop}{W W':World}{ρ ρ':Nat->Nat}{q:Nat}{e:TypeId}{k:Nat}{v:Value}{n:Nat}{xs:List Value}(h:RowR W ρ q e k v n xs) (hc:Chg T W W') (h1:∀b,T b->ρ b≠q) (h2:∀b,b<W.heap.size->ρ b=q->ρ' b=q):RowR W' ρ' q e k v n xs:=
 ⟨rowA_chg hc h.1 (fun b hb e=>h1 b e (h.2 b hb)),fun b hb=>h2 b (h.1.lt b hb).2 (h.2 b hb)⟩
structure RdAt (W:World) (ρ:Nat->Nat) (rb:Nat) (R:Rm) (sv wv:Value):Prop where
 k:∀i u,(rmV R sv wv)[i]? = some u->W.cell? ⟨rb,i,none⟩=some u
 fz:∀o,W.frozen? ⟨rb,o,none⟩=false
 rm:ρ rb=1
 sr:RowR W ρ 2 61 3 sv R.sds.length (R.sds.flatMap cRs)
 wr:RowR W ρ 3 99 11 wv R.wns.length (R.wns.flatMap cRw)
 ga:∀(i:Nat) (s:Rs),R.sds[i]? = some s->RowR W ρ (10+i) 126 3 s.gv s.gaps.length (s.gaps.flatMap cRg)
 al:∀(i:Nat) (x:Rw),R.wns[i]? = some x->RowR W ρ (1000+x.id.toNat) 152 12 x.av x.all.length (x.all.flatMap cRe)/\∀e∈x.all,IsC (fun b=>ρ b=4) W e.cv e.x.cl
 ids:∀(i j:Nat) (x y:Rw),i≠j->R.wns[i]? = some x->R.wns[j]? = some y->x.id.toNat≠y.id.toNat
 s4:R.sds.length<=4
 w8:R.wns.length<=8
 hi:∀b,W.heap.size<=b->ρ b=0
theorem IsC.keep {T:Nat->Prop}{W W':World}{ρ ρ':Nat->Nat}{v:Value}{l:List Int}(h:IsC (fun b=>ρ b=4) W v l) (hc:Chg T W W') (h1:∀b,T b->ρ b≠4) (h2:∀b,b<W.heap.size->ρ b=4->ρ' b=4):IsC (fun b=>ρ' b=4) W' v l:=
 ((h.mono (C':=fun b=>ρ b=4/\ρ' b=4) (fun b hb e=>⟨e,h2 b hb e⟩)).chg hc (fun b hb e=>h1 b e hb.1)).mono (fun _ _ e=>e.2)
section
variable {W W' : World} {ρ ρ' : Nat -> Nat} {rb : Nat} {R R' : Rm} {sv wv sv' wv' : Value} {T : Nat -> Prop}
theorem RdAt.lt (h:RdAt W ρ rb R sv wv):rb<W.heap.size:=lt_of_cell (h.k 0 _ rfl)
theorem RdAt.make (h:RdAt W ρ rb R sv wv) (hc:Chg T W W') (hρ:∀b,b<W.heap.size->ρ b≠0->ρ' b=ρ b) (hh:∀b,W'.heap.size<=b->ρ' b=0)
  (hk:∀i u,(rmV R' sv' wv')[i]? = some u->W'.cell? ⟨rb,i,none⟩=some u) (hf:∀o,W'.frozen? ⟨rb,o,none⟩=false)
  (hsr:RowR W' ρ' 2 61 3 sv' R'.sds.length (R'.sds.flatMap cRs)) (hwr:RowR W' ρ' 3 99 11 wv' R'.wns.length (R'.wns.flatMap cRw))
  (hga:∀(i:Nat) (s:Rs),R'.sds[i]? = some s->(∃s0:Rs,R.sds[i]? = some s0/\s0.gv=s.gv/\s0.gaps=s.gaps/\∀b,T b->ρ b≠10+i)\/RowR W' ρ' (10+i) 126 3 s.gv s.gaps.length (s.gaps.flatMap cRg))
  (hal:∀(i:Nat) (x:Rw),R'.wns[i]? = some x->(∃(j:Nat) (x0:Rw),R.wns[j]? = some x0/\x0.id=x.id/\x0.av=x.av/\x0.all=x.all/\∀b,T b->ρ b≠1000+x.id.toNat)\/(RowR W' ρ' (1000+x.id.toNat) 152 12 x.av x.all.length (x.all.flatMap cRe)/\∀e∈x.all,IsC (fun b=>ρ' b=4) W' e.cv e.x.cl))
  (h4:∀b,T b->ρ b≠4) (hids:∀(i j:Nat) (x y:Rw),i≠j->R'.wns[i]? = some x->R'.wns[j]? = some y->x.id.toNat≠y.id.toNat) (hs4:R'.sds.length<=4) (hw8:R'.wns.length<=8):RdAt W' ρ' rb R' sv' wv':=by
 refine⟨hk,hf,(hρ rb h.lt (by rw[h.rm];decide)).trans h.rm,hsr,hwr,fun i s hs=>?_,fun i x hx=>?_,hids,hs4,hw8,hh⟩
 ·rcases hga i s hs with⟨s0,e1,e2,e3,e4⟩|e
  ·have:=(h.ga i s0 e1).keep hc e4 (fun b hb e=>(hρ b hb (by omega)).trans e)
   rw[e2,e3]at this
   exact this
  ·exact e
 ·rcases hal i x hx with⟨j,x0,e1,e2,e3,e4,e5⟩|e
  ·obtain⟨a1,a2⟩:=h.al j x0 e1
   rw[e2,e3,e4]at a1
   rw[e4]at a2
   exact⟨a1.keep hc e5 (fun b hb e=>(hρ b hb (by omega)).trans e),fun e he=>(a2 e he).keep hc h4 (fun b hb e=>(hρ b hb (by omega)).trans e)⟩
  ·exact e
theorem RdAt.cells (h:RdAt W ρ rb R sv wv) (hc:Chg T W W') (hT:¬T rb):(∀i u,(rmV R sv wv)[i]? = some u->W'.cell? ⟨rb,i,none⟩=some u)/\∀o,W'.frozen? ⟨rb,o,none⟩=false:=
 ⟨fun i u hu=>hc.cell (h.k i u hu) hT,fun o=>(hc.frozen (p:=⟨rb,o,none⟩) h.lt hT).trans (h.fz o)⟩
theorem RdAt.chg (h:RdAt W ρ rb R sv wv) (hc:Chg T W W') (hT:∀b,T b->ρ b=0):RdAt W' ρ rb R sv wv:=by
 obtain⟨k1,k2⟩:=h.cells hc (fun e=>by have:=hT rb e;rw[h.rm]at this;cases this)
 exact h.make hc (fun _ _ _=>rfl) (fun b hb=>h.hi b (Nat.le_trans hc.size hb)) k1 k2 (h.sr.keep hc (fun b hb=>by rw[hT b hb];decide) (fun _ _ e=>e)) (h.wr.keep hc (fun b hb=>by rw[hT b hb];decide) (fun _ _ e=>e))
  (fun i s hs=>.inl ⟨s,hs,rfl,rfl,fun b hb=>by rw[hT b hb];omega⟩) (fun i x hx=>.inl ⟨i,x,hx,rfl,rfl,rfl,fun b hb=>by rw[hT b hb];omega⟩) (fun b hb=>by rw[hT b hb];decide) h.ids h.s4 h.w8
theorem RdAt.below (h:RdAt W ρ rb R sv wv) (hb:Below W.heap.size W W'):RdAt W' ρ rb R sv wv:=h.chg (T:=fun _=>False) (Chg.ofBelow hb) (fun _ e=>e.elim)
theorem RdAt.own (h:RdAt W ρ rb R sv wv) (hc:Chg (fun b=>b=rb) W W') (hk:∀i u,(rmV R' sv wv)[i]? = some u->W'.cell? ⟨rb,i,none⟩=some u) (hf:∀o,W'.frozen? ⟨rb,o,none⟩=false) (e1:R'.sds=R.sds) (e2:R'.wns=R.wns):RdAt W' ρ rb R' sv wv:=by
 have hT:∀q,q≠1->∀b,b=rb->ρ b≠q:=fun q hq b hb e=>by rw[hb,h.rm]at e;exact hq e.symm
 refine h.make hc (fun _ _ _=>rfl) (fun b hb=>h.hi b (Nat.le_trans hc.size hb)) hk hf ?_ ?_ (fun i s hs=>.inl ⟨s,e1▸hs,rfl,rfl,hT _ (by omega)⟩) (fun i x hx=>.inl ⟨i,x,e2▸hx,rfl,rfl,rfl,hT _ (by omega)⟩) (hT _ (by omega)) (e2▸h.ids) (e1▸h.s4) (e2▸h.w8)
 ·rw[e1];exact h.sr.keep hc (hT _ (by omega)) (fun _ _ e=>e)
 ·rw[e2];exact h.wr.keep hc (hT _ (by omega)) (fun _ _ e=>e)
theorem RdAt.put (h:RdAt W ρ rb R sv wv) (j:Nat) (u:Value) (hj:rmV R' sv wv=(rmV R sv wv).set j u) (e1:R'.sds=R.sds) (e2:R'.wns=R.wns):RdAt (W.setCell ⟨rb,j,none⟩ u) ρ rb R' sv wv:=by
 have hc:Chg (fun b=>b=rb) W (W.setCell ⟨rb,j,none⟩ u):=(Chg.refl (fun b=>b=rb) _).setCell ⟨rb,j,none⟩ (.inl rfl) _
 refine h.own hc (fun i v hv=>?_) (fun o=>by rw[World.frozen?_setCell];exact h.fz o) e1 e2
 rw[hj,List.getElem?_set]at hv
 by_cases e:j=i
 ·subst e
  rw[if_pos rfl]at hv
  split at hv
  ·rename_i hl
   simp only[Option.some.injEq]at hv
   rw[<-hv]
   exact World.cell?_setCell_same _ _ _ (h.k j _ (List.getElem?_eq_getElem hl))
  ·cases hv
 ·rw[if_neg e]at hv
  rw[World.cell?_setCell_other _ _ _ _ (fun e'=>e (by injection e'))]
  exact h.k i v hv
theorem RdAt.sndAt (h:RdAt W ρ rb R sv wv){i:Nat}{s:Rs}(hs:R.sds[i]? = some s):∃g cap,sv = .slice (some ⟨g,0,none⟩) R.sds.length cap/\W.cell? ⟨g,i*3,none⟩=some (.int .i64 s.src)/\W.cell? ⟨g,i*3+1,none⟩=some (.int .i64 s.newest)/\W.cell? ⟨g,i*3+2,none⟩=some s.gv/\(∀o,W.frozen? ⟨g,o,none⟩=false)/\g<W.heap.size/\ρ g=2:=by
 have hl:i<R.sds.length:=(List.getElem?_eq_some_iff.1 hs).1
 have hse:R.sds[i]=s:=(List.getElem?_eq_some_iff.1 hs).2
 obtain⟨ao,cap,rfl⟩:=rowA_shape h.sr.1
 have hr:=h.sr.1
 obtain⟨g,rfl⟩:=rowA_some hr (by omega)
 have at_:∀j,j<3->W.cell? ⟨g,i*3+j,none⟩=(cRs s)[j]?:=fun j hj=>by
  rw[hr.cellAt (i*3+j) (by omega),flat_at cRs_len R.sds i j hl hj,hse]
 exact⟨g,cap,rfl,at_ 0 (by omega),at_ 1 (by omega),at_ 2 (by omega),fun o=>hr.frozenAt o,(hr.lt g rfl).2,h.sr.2 g rfl⟩
theorem RdAt.wntAt (h:RdAt W ρ rb R sv wv){i:Nat}{x:Rw}(hx:R.wns[i]? = some x):∃g cap,wv = .slice (some ⟨g,0,none⟩) R.wns.length cap/\(∀j u,(cRw x)[j]? = some u->W.cell? ⟨g,i*11+j,none⟩=some u)/\(∀o,W.frozen? ⟨g,o,none⟩=false)/\g<W.heap.size/\ρ g=3:=by
 have hl:i<R.wns.length:=(List.getElem?_eq_some_iff.1 hx).1
 have hse:R.wns[i]=x:=(List.getElem?_eq_some_iff.1 hx).2
 obtain⟨ao,cap,rfl⟩:=rowA_shape h.wr.1
 have hr:=h.wr.1
 obtain⟨g,rfl⟩:=rowA_some hr (by omega)
 refine⟨g,cap,rfl,fun j u hj=>?_,fun o=>hr.frozenAt o,(hr.lt g rfl).2,h.wr.2 g rfl⟩
 have h11:j<11:=by have:=(List.getElem?_eq_some_iff.1 hj).1;rw[cRw_len]at this;exact this
 rw[hr.cellAt (i*11+j) (by omega),flat_at cRw_len R.wns i j hl h11,hse]
 exact hj
end
end Pk
end Go.Proofs.YtdjhhnolcafkiaaGreat
namespace Go.Proofs.YtdjhhnolcafkiaaGreat
open Go.RowKit Pk
theorem refIn_any (a b:Int) (w:World) :
  Calls Tryz.prog 36 #[.int .i64 a,.int .i64 b] w fun e w'=>e = .returned (.bool (decide (0<=a/\a<=b)))/\w'=w:=by
 by_cases h0:0<=a
 ·by_cases h1:a<=b
  ·go_enter Tryz.func36,Tryz.ntmps36
   go_wp2
   go_ret
   exact⟨by simp[h0,h1],rfl⟩
  ·go_enter Tryz.func36,Tryz.ntmps36
   go_wp2
   go_ret
   exact⟨by simp[h1],rfl⟩
 ·have hd:decide (0<=a)=false:=by simpa using h0
  go_enter Tryz.func36,Tryz.ntmps36
  go_wp2
  go_ret
  exact⟨by simp,rfl⟩
theorem ref_byte (s:ByteArray) (a k:Nat) (h:a+k<s.size):s[a+k]=(s.data.toList.drop a)[k]'(by rw[List.length_drop,<-Lib.size_eq];omega):=by
 rw[List.getElem_drop];rfl
theorem refNumber_any (s:ByteArray) (a n:Nat) (w:World) (hs:s.size<=maxLen) (hn:n<=4) (ha:a+n<=s.size) :
  Calls Tryz.prog 82 #[.string s,.int .i64 a,.int .i64 n] w fun e w'=>e = .returned (.int .i64 (num ((s.data.toList.drop a).take n)))/\w'=w:=by
 unfold maxLen at hs
 have hl:(s.data.toList.drop a).length=s.size-a:=by rw[List.length_drop,<-Lib.size_eq]
 have Hl:Hid ((s.data.toList.drop a).length=s.size-a):=hl
 clear hl
 go_enter Tryz.func82,Tryz.ntmps82
 go_wp2
 go_loop [7,8] (fun v i=>∃k:Nat,k<=n/\i = .int .i64 k/\v = .int .i64 (num ((s.data.toList.drop a).take k))) (fun _ i=>n-(intOf i).toNat)
 case atStart=>exact⟨0,Nat.zero_le _,rfl,rfl⟩
 case round=>
  obtain⟨k,hk,rfl,rfl⟩:=hrel
  have h1:=num_lt ((s.data.toList.drop a).take k)
  have h2:((s.data.toList.drop a).take k).length<=4:=by rw[List.length_take];omega
  have h3:256 ^ ((s.data.toList.drop a).take k).length<=256 ^ 4:=Nat.pow_le_pow_right (by omega) h2
  have hm:num ((s.data.toList.drop a).take k)<4294967296:=by omega
  clear h1 h2 h3
  by_cases hlt:k<n
  ·have hi:a+k<s.size:=by omega
   have Hs:Hid (num ((s.data.toList.drop a).take (k+1))=num ((s.data.toList.drop a).take k)*256+(s[a+k]).toNat):=by
    show _=_
    rw[List.take_succ_eq_append_getElem (by rw[Hl.out];omega),num_snoc,ref_byte s a k hi]
   have hb:=(s[a+k]).toNat_lt
   generalize num ((s.data.toList.drop a).take k)=m at *
   go_wp2
   go_round
   case rel=>exact⟨k+1,by omega,by go_num,by rw[Hs.out];simp;omega⟩
   case measure=>simp[intOf];omega
  ·go_wp2
   go_ret
   have e:k=n:=by omega
   subst e
   exact⟨rfl,rfl⟩
theorem refBit_any (B k:Nat) (w:World) (hb2:B<=65535) (hk:k<=16) :
  Calls Tryz.prog 83 #[.int .i64 B,.int .i64 k] w fun e w'=>e = .returned (.bool (decide (B/2 ^ k%2=1)))/\w'=w:=by
 go_enter Tryz.func83,Tryz.ntmps83
 go_wp2
 go_loop [0,5] (fun v i=>∃j:Nat,j<=k/\i = .int .i64 j/\v = .int .i64 ((B/2 ^ j:Nat):Int)) (fun _ i=>k-(intOf i).toNat)
 case atStart=>exact⟨0,Nat.zero_le _,rfl,by simp⟩
 case round=>
  obtain⟨j,hj,rfl,rfl⟩:=hrel
  have hle:B/2 ^ j<=B:=Nat.div_le_self _ _
  have Hn:Hid (B/2 ^ (j+1)=B/2 ^ j/2):=by show _=_;rw[Nat.pow_succ,Nat.div_div_eq_div_mul]
  obtain⟨m,hm⟩:∃m,B/2 ^ j=m:=⟨_,rfl⟩
  rw[hm]at hle Hn
  have Hm:Hid (B/2 ^ j=m):=hm
  rw[hm]
  clear hm
  by_cases hlt:j<k
  ·go_wp2
   go_round
   case rel=>exact⟨j+1,by omega,by go_num,by rw[Hn.out];simp⟩
   case measure=>simp[intOf];omega
  ·have e:j=k:=by omega
   subst e
   go_wp2
   go_ret
   refine⟨ret_bool ?_,rfl⟩
   rw[Hm.out,Bool.eq_iff_iff]
   simp
   omega
end Go.Proofs.YtdjhhnolcafkiaaGreat
namespace Go.Proofs.YtdjhhnolcafkiaaGreat
open Go.RowKit
namespace Pk
def optI:Option Nat->Int
 | none=>-1
 | some i=>i
def rsPos (R:Rm) (source:Int):Option Nat:=R.sds.findIdx? fun s=>decide (s.src=source)
def rwPos (R:Rm) (id:Int):Option Nat:=R.wns.findIdx? fun x=>decide (x.id=id)
def rHas (x:Rw) (source:Int):Bool:=decide (x.pl.source=source) || decide (x.pl.second=source)
def rKnown (R:Rm) (source:Int):Bool:=R.wns.any (fun x=>rHas x source) || (rsPos R source).isSome
def rNew (c:Cfg):Rm:=⟨c,⟨0,c.burst,0,0,0,0,0,0,0,0,0⟩,[],[],0⟩
theorem any_take {α:Type}(f:α->Bool) (l:List α) (k:Nat) (h:k<l.length):(l.take (k+1)).any f=((l.take k).any f || f l[k]):=by
 rw[List.take_succ_eq_append_getElem h,List.any_append]
 simp
end Pk
open Pk
theorem refBetween_any (n lo hi:Int) (w:World) :
  Calls Tryz.prog 31 #[.int .i64 n,.int .i64 lo,.int .i64 hi] w fun e w'=>e = .returned (.bool (decide (lo<=n/\n<=hi)))/\w'=w:=by
 by_cases h0:lo<=n
 ·by_cases h1:n<=hi
  ·go_enter Tryz.func31,Tryz.ntmps31
   go_wp2
   go_ret
   exact⟨ret_bool (decide_eq_true (by omega)).symm,rfl⟩
  ·go_enter Tryz.func31,Tryz.ntmps31
   go_wp2
   go_ret
   exact⟨ret_bool (by first|exact(decide_eq_false (by omega)).symm|(rw[decide_eq_false (by omega),decide_eq_false (by omega)])),rfl⟩
 ·go_enter Tryz.func31,Tryz.ntmps31
  go_wp2
  go_ret
  exact⟨ret_bool (by rw[decide_eq_false (show ¬lo<=n by omega)];rfl),rfl⟩
theorem refSender_any (ρ:Nat->Nat) (rb:Nat) (R:Rm) (sv wv:Value) (source:Int) (w:World) (h:RdAt w ρ rb R sv wv) :
  Calls Tryz.prog 41 #[.pointer (some ⟨rb,0,none⟩),.int .i64 source] w fun e w'=>e = .returned (.int .i64 (optI (rsPos R source)))/\w'=w:=by
 obtain⟨ao,cap,rfl⟩:=rowA_shape h.sr.1
 have H:=hyd h
 have y18:w.cell? ⟨rb,18,none⟩=some (.slice ao R.sds.length cap):=h.k 18 _ rfl
 have hs4:=h.s4
 clear h
 go_enter Tryz.func41,Tryz.ntmps41
 go_wp2
 go_loopw [5] (fun s5 wr=>∃k:Nat,k<=R.sds.length/\s5 = .int .i64 k/\(∀m (hm:m<R.sds.length),m<k->decide ((R.sds[m]).src=source)=false)/\wr=w) (fun s5 _=>R.sds.length-(intOf s5).toNat)
 case atStart=>exact⟨0,Nat.zero_le _,rfl,fun m _ hm=>by omega,rfl⟩
 case round=>
  obtain⟨k,hk,rfl,hno,hwr⟩:=hrel
  rw[hwr]
  have Hno:=hyd hno
  clear hwr hno
  by_cases hlt:k<R.sds.length
  ·have hlt':(k:Int)<R.sds.length:=by omega
   obtain⟨g,cap',hsl,x0,-,-,-,-⟩:=H.out.sndAt (List.getElem?_eq_getElem hlt)
   simp only[Value.slice.injEq]at hsl
   obtain⟨rfl,-,-⟩:=hsl
   obtain⟨s,hse⟩:∃s,(R.sds[k]).src=s:=⟨_,rfl⟩
   rw[hse]at x0
   have Hse:=hyd hse
   clear hse
   by_cases he:s=source
   ·have Hi:Hid (rsPos R source=some k):=idx_some hlt Hno.out (by rw[Hse.out];exact decide_eq_true he)
    have hb:(s == source)=true:=by simp[he]
    clear he
    go_wp2
    go_ret
    exact⟨by rw[Hi.out];rfl,rfl⟩
   ·have He:Hid (decide (s=source)=false):=decide_eq_false he
    have hb:(s == source)=false:=by simp[he]
    clear he
    go_wp2
    go_roundw
    case rel=>exact⟨k+1,by omega,by go_num,fun m hm hmk=>by
     rcases Nat.lt_or_ge m k with h|h
     ·exact Hno.out m hm h
     ·obtain rfl:m=k:=by omega
      rw[Hse.out];exact He.out,trivial⟩
    case measure=>simp[intOf];omega
  ·have hlt':¬(k:Int)<R.sds.length:=by omega
   have Hi:Hid (rsPos R source=none):=idx_none (k:=k) (by omega) Hno.out
   go_wp2
   go_ret
   exact⟨by rw[Hi.out];rfl,rfl⟩
theorem refWant_any (ρ:Nat->Nat) (rb:Nat) (R:Rm) (sv wv:Value) (id:Int) (w:World) (h:RdAt w ρ rb R sv wv) :
  Calls Tryz.prog 44 #[.pointer (some ⟨rb,0,none⟩),.int .i64 id] w fun e w'=>e = .returned (.int .i64 (optI (rwPos R id)))/\w'=w:=by
 obtain⟨ao,cap,rfl⟩:=rowA_shape h.wr.1
 have H:=hyd h
 have y18:w.cell? ⟨rb,19,none⟩=some (.slice ao R.wns.length cap):=h.k 19 _ rfl
 have hs4:=h.w8
 clear h
 go_enter Tryz.func44,Tryz.ntmps44
 go_wp2
 go_loopw [5] (fun s5 wr=>∃k:Nat,k<=R.wns.length/\s5 = .int .i64 k/\(∀m (hm:m<R.wns.length),m<k->decide ((R.wns[m]).id=id)=false)/\wr=w) (fun s5 _=>R.wns.length-(intOf s5).toNat)
 case atStart=>exact⟨0,Nat.zero_le _,rfl,fun m _ hm=>by omega,rfl⟩
 case round=>
  obtain⟨k,hk,rfl,hno,hwr⟩:=hrel
  rw[hwr]
  have Hno:=hyd hno
  clear hwr hno
  by_cases hlt:k<R.wns.length
  ·have hlt':(k:Int)<R.wns.length:=by omega
   obtain⟨g,cap',hsl,xs,-,-,-⟩:=H.out.wntAt (List.getElem?_eq_getElem hlt)
   simp only[Value.slice.injEq]at hsl
   obtain⟨rfl,-,-⟩:=hsl
   have x0:w.cell? ⟨g,k*11,none⟩=some (.int .i64 (R.wns[k]).id):=xs 0 _ rfl
   obtain⟨s,hse⟩:∃s,(R.wns[k]).id=s:=⟨_,rfl⟩
   rw[hse]at x0
   have Hse:=hyd hse
   clear hse xs
   by_cases he:s=id
   ·have Hi:Hid (rwPos R id=some k):=idx_some hlt Hno.out (by rw[Hse.out];exact decide_eq_true he)
    have hb:(s == id)=true:=by simp[he]
    clear he
    go_wp2
    go_ret
    exact⟨by rw[Hi.out];rfl,rfl⟩
   ·have He:Hid (decide (s=id)=false):=decide_eq_false he
    have hb:(s == id)=false:=by simp[he]
    clear he
    go_wp2
    go_roundw
    case rel=>exact⟨k+1,by omega,by go_num,fun m hm hmk=>by
     rcases Nat.lt_or_ge m k with h|h
     ·exact Hno.out m hm h
     ·obtain rfl:m=k:=by omega
      rw[Hse.out];exact He.out,trivial⟩
    case measure=>simp[intOf];omega
  ·have hlt':¬(k:Int)<R.wns.length:=by omega
   have Hi:Hid (rwPos R id=none):=idx_none (k:=k) (by omega) Hno.out
   go_wp2
   go_ret
   exact⟨by rw[Hi.out];rfl,rfl⟩
theorem refKnown_any (ρ:Nat->Nat) (rb:Nat) (R:Rm) (sv wv:Value) (source:Int) (w:World) (h:RdAt w ρ rb R sv wv) :
  Calls Tryz.prog 37 #[.pointer (some ⟨rb,0,none⟩),.int .i64 source] w fun e w'=>e = .returned (.bool (rKnown R source))/\w'=w:=by
 obtain⟨ao,cap,rfl⟩:=rowA_shape h.wr.1
 have H:=hyd h
 have y18:w.cell? ⟨rb,19,none⟩=some (.slice ao R.wns.length cap):=h.k 19 _ rfl
 have hs4:=h.w8
 clear h
 go_enter Tryz.func37,Tryz.ntmps37
 go_wp2
 go_loopw [5] (fun s5 wr=>∃k:Nat,k<=R.wns.length/\s5 = .int .i64 k/\(R.wns.take k).any (fun x=>rHas x source)=false/\wr=w) (fun s5 _=>R.wns.length-(intOf s5).toNat)
 case atStart=>exact⟨0,Nat.zero_le _,rfl,rfl,rfl⟩
 case round=>
  obtain⟨k,hk,rfl,hno,hwr⟩:=hrel
  rw[hwr]
  have Hno:=hyd hno
  clear hwr hno
  by_cases hlt:k<R.wns.length
  ·have hlt':(k:Int)<R.wns.length:=by omega
   obtain⟨g,cap',hsl,xs,-,-,-⟩:=H.out.wntAt (List.getElem?_eq_getElem hlt)
   simp only[Value.slice.injEq]at hsl
   obtain⟨rfl,-,-⟩:=hsl
   have x0:w.cell? ⟨g,k*11+2,none⟩=some (.int .i64 (R.wns[k]).pl.source):=xs 2 _ rfl
   have x1:w.cell? ⟨g,k*11+3,none⟩=some (.int .i64 (R.wns[k]).pl.second):=xs 3 _ rfl
   obtain⟨s,hse⟩:∃s,(R.wns[k]).pl.source=s:=⟨_,rfl⟩
   obtain⟨s2,hse2⟩:∃s2,(R.wns[k]).pl.second=s2:=⟨_,rfl⟩
   have Hh:Hid (rHas R.wns[k] source=(decide (s=source) || decide (s2=source))):=by
    unfold rHas
    rw[hse,hse2]
    rfl
   rw[hse]at x0
   rw[hse2]at x1
   clear hse hse2 xs
   have Hyes:Hid (rHas R.wns[k] source=true->rKnown R source=true):=fun e=>by
    unfold rKnown
    rw[List.any_eq_true.2 ⟨_,List.getElem_mem hlt,e⟩]
    rfl
   by_cases he:s=source
   ·have Hi:Hid (rKnown R source=true):=Hyes.out (by rw[Hh.out,decide_eq_true he];rfl)
    have hb:(s == source)=true:=by simp[he]
    clear he
    go_wp2
    go_ret
    exact⟨by rw[Hi.out];rfl,rfl⟩
   ·have hb:(s == source)=false:=by simp[he]
    have He:Hid (decide (s=source)=false):=decide_eq_false he
    clear he
    by_cases he2:s2=source
    ·have Hi:Hid (rKnown R source=true):=Hyes.out (by rw[Hh.out,decide_eq_true he2,Bool.or_true])
     have hb2:(s2 == source)=true:=by simp[he2]
     clear he2
     go_wp2
     go_ret
     exact⟨by rw[Hi.out];rfl,rfl⟩
    ·have hb2:(s2 == source)=false:=by simp[he2]
     have Hn:Hid ((R.wns.take (k+1)).any (fun x=>rHas x source)=false):=by
      show _=_
      rw[any_take _ _ _ hlt,Hno.out,Hh.out,He.out,decide_eq_false he2]
      rfl
     clear he2
     go_wp2
     go_roundw
     case rel=>exact⟨k+1,by omega,by go_num,Hn.out,trivial⟩
     case measure=>simp[intOf];omega
  ·have hlt':¬(k:Int)<R.wns.length:=by omega
   have Hk:Hid (rKnown R source=(rsPos R source).isSome):=by
    unfold rKnown
    have h:=Hno.out
    rw[List.take_of_length_le (by omega)]at h
    rw[h]
    rfl
   go_wp2_with fail
   refine(refSender_any ρ rb R sv _ source _ H.out).mono ?_
   rintro e w1 ⟨rfl,hw1⟩
   rw[hw1]
   clear hw1
   cases hp:rsPos R source with
   | none=>
    have Hp:Hid (rKnown R source=false):=by show _=_;rw[Hk.out,hp];rfl
    clear hp
    unfold optI
    go_wp2
    go_ret
    exact⟨by rw[Hp.out];rfl,rfl⟩
   | some i=>
    have Hp:Hid (rKnown R source=true):=by show _=_;rw[Hk.out,hp];rfl
    clear hp
    unfold optI
    have hi0:(0:Int)<=(i:Int):=by omega
    go_wp2
    go_ret
    exact⟨by rw[Hp.out];rfl,rfl⟩
end Go.Proofs.YtdjhhnolcafkiaaGreat
namespace Go.Proofs.YtdjhhnolcafkiaaGreat
open Go.RowKit
namespace Pk
def RMv (w:World) (ρ:Nat->Nat) (W:World) (ρ':Nat->Nat):Prop:=(∀b,b<w.heap.size->ρ b=0->ρ' b=0)/\Chg (fun b=>ρ b≠0) w W
theorem RMv.trans {w W V:World}{ρ ρ' ρ2:Nat->Nat}(h:RMv w ρ W ρ') (k:RMv W ρ' V ρ2):RMv w ρ V ρ2:=
 ⟨fun b hb e=>k.1 b (Nat.lt_of_lt_of_le hb h.2.size) (h.1 b hb e),h.2.trans k.2 (fun b hb e e0=>e (h.1 b hb e0))⟩
theorem RMv.below {w W:World}{ρ:Nat->Nat}(h:Below w.heap.size w W):RMv w ρ W ρ:=⟨fun _ _ e=>e,Chg.ofBelow h⟩
theorem RMv.refl (w:World) (ρ:Nat->Nat):RMv w ρ w ρ:=RMv.below (Below.refl _ _)
def role (v:Value) (q:Nat) (ρ:Nat->Nat) (b:Nat):Nat:=if v.ownBlock=some b then q else ρ b
theorem role_in {v:Value}{q:Nat}{ρ:Nat->Nat}{b:Nat}(h:v.ownBlock=some b):role v q ρ b=q:=if_pos h
theorem role_out {v:Value}{q:Nat}{ρ:Nat->Nat}{b:Nat}(h:¬v.ownBlock=some b):role v q ρ b=ρ b:=if_neg h
section
variable {W W1 W2 : World} {ρ : Nat -> Nat} {rb : Nat} {R R' : Rm} {sv wv sv' wv' v' : Value} {T : Nat -> Prop}
theorem RdAt.cellsSet (h:RdAt W ρ rb R sv wv) (hc:Chg T W W2) (hT:¬T rb) (j:Nat) (u:Value) (hj:rmV R' sv' wv'=(rmV R sv wv).set j u):(∀i u',(rmV R' sv' wv')[i]? = some u'->(W2.setCell ⟨rb,j,none⟩ u).cell? ⟨rb,i,none⟩=some u')/\∀o,(W2.setCell ⟨rb,j,none⟩ u).frozen? ⟨rb,o,none⟩=false:=by
 obtain⟨k1,k2⟩:=h.cells hc hT
 refine⟨fun i v hv=>?_,fun o=>by rw[World.frozen?_setCell];exact k2 o⟩
 rw[hj,List.getElem?_set]at hv
 by_cases e:j=i
 ·subst e
  rw[if_pos rfl]at hv
  split at hv
  ·rename_i hl
   simp only[Option.some.injEq]at hv
   rw[<-hv]
   exact World.cell?_setCell_same _ _ _ (k1 j _ (List.getElem?_eq_getElem hl))
  ·cases hv
 ·rw[if_neg e]at hv
  rw[World.cell?_setCell_other _ _ _ _ (fun e'=>e (by injection e'))]
  exact k1 i v hv
structure Grew (ρ:Nat->Nat) (q:Nat) (W W2:World) (v v':Value):Prop where
 c:Chg (fun b=>ρ b=q) W W2
 own:∀b,v'.ownBlock=some b->ρ b=q\/(W.heap.size<=b/\b<W2.heap.size)
theorem Grew.of {q:Nat}{v:Value}(hq:∀b,v.ownBlock=some b->ρ b=q) (hb:Below W.heap.size W W1) (hg:W1.grownBy W2 v.ownBlock) (ho:v'.ownBlock=v.ownBlock\/v'.ownBlock=some W1.heap.size) (hl:∀b,v'.ownBlock=some b->b<W2.heap.size):Grew ρ q W W2 v v':=by
 refine⟨(Chg.ofBelow hb).trans (Chg.ofGrown hg) (fun x _ e=>hq x e),fun b e=>?_⟩
 rcases ho with o|o
 ·exact .inl (hq b (o▸e))
 ·refine .inr ⟨?_,hl b e⟩
  rw[o,Option.some.injEq]at e
  rw[<-e]
  exact hb.size
theorem Grew.keep {q:Nat}{v:Value}(h:Grew ρ q W W2 v v'):∀b,b<W.heap.size->ρ b≠0->role v' q ρ b=ρ b:=fun b hb e0=>by
 by_cases e:v'.ownBlock=some b
 ·rcases h.own b e with o|o
  ·rw[role_in e,o]
  ·omega
 ·exact role_out e
theorem Grew.hi {q:Nat}{v:Value}(h:Grew ρ q W W2 v v') (hh:∀b,W.heap.size<=b->ρ b=0) (hq:q≠0):∀b,W2.heap.size<=b->role v' q ρ b=0:=fun b hb=>by
 have hs:=h.c.size
 by_cases e:v'.ownBlock=some b
 ·rcases h.own b e with o|o
  ·rw[hh b (by omega)]at o
   exact absurd o.symm hq
  ·omega
 ·rw[role_out e]
  exact hh b (by omega)
theorem Grew.zero {q:Nat}{v:Value}(h:Grew ρ q W W2 v v') (hq:q≠0):∀b,b<W.heap.size->ρ b=0->role v' q ρ b=0:=fun b hb e0=>by
 by_cases e:v'.ownBlock=some b
 ·rcases h.own b e with o|o
  ·rw[e0]at o
   exact absurd o.symm hq
  ·omega
 ·rw[role_out e,e0]
theorem RdAt.addS (h:RdAt W ρ rb R sv wv) (hg:Grew ρ 2 W W2 sv v') (s:Rs) (hs:s.gv = .slice none 0 0/\s.gaps=[]) (hr:W2.ownsRow 0 61 3 v' (R.sds.length+1) (R.sds.flatMap cRs++cRs s)) (hl:R.sds.length<4) :
  RdAt (W2.setCell ⟨rb,18,none⟩ v') (role v' 2 ρ) rb { R with sds:=R.sds++[s] } v' wv/\RMv W ρ (W2.setCell ⟨rb,18,none⟩ v') (role v' 2 ρ):=by
 have hrm:=h.rm
 have hrb:¬v'.ownBlock=some rb:=fun e=>by
  have:=h.lt
  rcases hg.own rb e with o|o
  ·rw[hrm]at o;cases o
  ·omega
 have c3:Chg (fun b=>b=rb) W2 (W2.setCell ⟨rb,18,none⟩ v'):=(Chg.refl (fun b=>b=rb) _).setCell ⟨rb,18,none⟩ (.inl rfl) _
 have cc:Chg (fun b=>ρ b=2\/b=rb) W (W2.setCell ⟨rb,18,none⟩ v'):=(hg.c.mono (fun _ _ e=>.inl e)).trans c3 (fun _ _ e=>.inr e)
 have nT:∀q,q≠1->q≠2->∀b,(ρ b=2\/b=rb)->ρ b≠q:=fun q h1 h2 b hb=>by
  rcases hb with e|e
  ·rw[e];exact fun e'=>h2 e'.symm
  ·rw[e,hrm];exact fun e'=>h1 e'.symm
 obtain⟨k1,k2⟩:=h.cellsSet (R':={ R with sds:=R.sds++[s] }) (sv':=v') (wv':=wv) hg.c (by rw[hrm];decide) 18 v' rfl
 refine⟨h.make cc hg.keep (fun b hb=>hg.hi h.hi (by decide) b (by simpa using hb)) k1 k2 ⟨rowA_chg c3 (by simpa using hr) (fun b hb e=>hrb (e▸hb)),fun b hb=>role_in hb⟩ (h.wr.keep cc (nT 3 (by decide) (by decide)) (fun b hb e=>(hg.keep b hb (by omega)).trans e)) (fun i t ht=>?_) (fun i x hx=>.inl ⟨i,x,hx,rfl,rfl,rfl,nT _ (by omega) (by omega)⟩) (nT 4 (by decide) (by decide)) h.ids (by simp only[List.length_append,List.length_singleton];omega) h.w8,hg.zero (by decide),cc.mono (fun b _ e=>?_)⟩
 ·simp only at ht
  by_cases hi:i<R.sds.length
  ·rw[List.getElem?_append_left hi]at ht
   exact .inl ⟨t,ht,rfl,rfl,nT _ (by omega) (by omega)⟩
  ·rw[List.getElem?_append_right (by omega)]at ht
   have:t=s:=by
    have hlt:=(List.getElem?_eq_some_iff.1 ht).1
    simp only[List.length_singleton]at hlt
    rw[show i-R.sds.length=0 by omega]at ht
    simpa using ht.symm
   subst this
   rw[hs.1,hs.2]
   exact .inr ⟨World.ownsRow_nil _ _ _ _,fun b hb=>by cases hb⟩
 ·rcases e with e|e
  ·rw[e];decide
  ·rw[e,hrm];decide
theorem RdAt.addW (h:RdAt W ρ rb R sv wv) (hg:Grew ρ 3 W W2 wv v') (x:Rw) (hx:x.av = .slice none 0 0/\x.all=[]) (hid:∀y∈R.wns,y.id.toNat≠x.id.toNat) (hr:W2.ownsRow 0 99 11 v' (R.wns.length+1) (R.wns.flatMap cRw++cRw x)) (hl:R.wns.length<8) :
  RdAt (W2.setCell ⟨rb,19,none⟩ v') (role v' 3 ρ) rb { R with wns:=R.wns++[x] } sv v'/\RMv W ρ (W2.setCell ⟨rb,19,none⟩ v') (role v' 3 ρ):=by
 have hrm:=h.rm
 have hrb:¬v'.ownBlock=some rb:=fun e=>by
  have:=h.lt
  rcases hg.own rb e with o|o
  ·rw[hrm]at o;cases o
  ·omega
 have c3:Chg (fun b=>b=rb) W2 (W2.setCell ⟨rb,19,none⟩ v'):=(Chg.refl (fun b=>b=rb) _).setCell ⟨rb,19,none⟩ (.inl rfl) _
 have cc:Chg (fun b=>ρ b=3\/b=rb) W (W2.setCell ⟨rb,19,none⟩ v'):=(hg.c.mono (fun _ _ e=>.inl e)).trans c3 (fun _ _ e=>.inr e)
 have nT:∀q,q≠1->q≠3->∀b,(ρ b=3\/b=rb)->ρ b≠q:=fun q h1 h2 b hb=>by
  rcases hb with e|e
  ·rw[e];exact fun e'=>h2 e'.symm
  ·rw[e,hrm];exact fun e'=>h1 e'.symm
 have hat:∀i y,(R.wns++[x])[i]? = some y->R.wns[i]? = some y\/(i=R.wns.length/\y=x):=fun i y hy=>by
  by_cases hi:i<R.wns.length
  ·rw[List.getElem?_append_left hi]at hy
   exact .inl hy
  ·rw[List.getElem?_append_right (by omega)]at hy
   have hlt:=(List.getElem?_eq_some_iff.1 hy).1
   simp only[List.length_singleton]at hlt
   rw[show i-R.wns.length=0 by omega]at hy
   exact .inr ⟨by omega,by simpa using hy.symm⟩
 obtain⟨k1,k2⟩:=h.cellsSet (R':={ R with wns:=R.wns++[x] }) (sv':=sv) (wv':=v') hg.c (by rw[hrm];decide) 19 v' rfl
 refine⟨h.make cc hg.keep (fun b hb=>hg.hi h.hi (by decide) b (by simpa using hb)) k1 k2 (h.sr.keep cc (nT 2 (by decide) (by decide)) (fun b hb e=>(hg.keep b hb (by omega)).trans e)) ⟨rowA_chg c3 (by simpa using hr) (fun b hb e=>hrb (e▸hb)),fun b hb=>role_in hb⟩ (fun i s hs=>.inl ⟨s,hs,rfl,rfl,nT _ (by omega) (by omega)⟩) (fun i y hy=>?_) (nT 4 (by decide) (by decide)) (fun i j y z hij hy hz=>?_) h.s4 (by simp only[List.length_append,List.length_singleton];omega),hg.zero (by decide),cc.mono (fun b _ e=>?_)⟩
 ·rcases hat i y hy with e|⟨-,rfl⟩
  ·exact .inl ⟨i,y,e,rfl,rfl,rfl,nT _ (by omega) (by omega)⟩
  ·rw[hx.1,hx.2]
   exact .inr ⟨⟨World.ownsRow_nil _ _ _ _,fun b hb=>by cases hb⟩,fun e he=>by cases he⟩
 ·rcases hat i y hy with e|⟨e,rfl⟩
  ·rcases hat j z hz with e'|⟨e',rfl⟩
   ·exact h.ids i j y z hij e e'
   ·exact hid y (List.mem_of_getElem? e)
  ·rcases hat j z hz with e'|⟨e',rfl⟩
   ·exact fun e2=>hid z (List.mem_of_getElem? e') e2.symm
   ·omega
 ·rcases e with e|e
  ·rw[e];decide
  ·rw[e,hrm];decide
end
end Pk
namespace Pk
def rAddS (R:Rm) (source:Int):Rm × Int:=
 if ¬(0<=source/\source<=4294967295)then(R,2)else if rKnown R source=true then(R,3)else if 4<=R.sds.length then(R,5)else({ R with sds:=R.sds++[⟨source,-1,.slice none 0 0,[]⟩] },0)
theorem rnew_at (w:World) (c:Cfg):RdAt (w.alloc (.cells (rmV (rNew c) (.slice none 0 0) (.slice none 0 0)).toArray 53)) (newRoleM w.heap.size) w.heap.size (rNew c) (.slice none 0 0) (.slice none 0 0):=by
 refine⟨fun i u hu=>?_,fun o=>frozen_new _ _ _ o,by simp[newRoleM],⟨World.ownsRow_nil _ _ _ _,fun b hb=>by cases hb⟩,⟨World.ownsRow_nil _ _ _ _,fun b hb=>by cases hb⟩,fun i s hs=>by simp[rNew]at hs,fun i x hx=>by simp[rNew]at hx,fun i j x y _ hx=>by simp[rNew]at hx,by simp[rNew],by simp[rNew],fun b hb=>?_⟩
 ·rw[cell_new,<-hu,List.getElem?_toArray]
 ·unfold newRoleM
  rw[if_neg (by simp at hb;omega)]
theorem sender_info:(Tryz.prog.info? 61).map (fun i=>(i.zero,i.size,i.bytes))=some (some (.agg #[.int .i64 0,.int .i64 0,.slice none 0 0]),3,40):=by kernel_rfl
end Pk
open Pk
theorem refNew_any (c:Cfg) (w:World) :
  Calls Tryz.prog 13 #[.agg #[.int .i64 c.ring,.int .i64 c.window,.int .i64 c.delay,.int .i64 c.rate,.int .i64 c.burst,.int .i64 c.retry,.int .i64 c.tries]] w fun e w'=>Below w.heap.size w w'/\
   ((cfgOk c=false/\e = .returned (.tuple #[.pointer none,.int .i64 2]))\/(cfgOk c=true/\∃rb,w.heap.size<=rb/\e = .returned (.tuple #[.pointer (some ⟨rb,0,none⟩),.int .i64 0])/\RdAt w' (newRoleM rb) rb (rNew c) (.slice none 0 0) (.slice none 0 0))):=by
 go_enter Tryz.func13,Tryz.ntmps13
 go_wp2_with fail
 refine(refBetween_any _ _ _ _).mono ?_;rintro e w' ⟨rfl,rfl⟩
 obtain⟨b1,hb1⟩:∃b,decide (1<=c.ring/\c.ring<=64)=b:=⟨_,rfl⟩
 rw[hb1]
 have H1:=hyd hb1
 clear hb1
 go_wp2_with fail
 refine(refBetween_any _ _ _ _).mono ?_;rintro e w' ⟨rfl,rfl⟩
 obtain⟨b2,hb1⟩:∃b,decide (1<=c.window/\c.window<=200)=b:=⟨_,rfl⟩
 rw[hb1]
 have H2:=hyd hb1
 clear hb1
 go_wp2_with fail
 refine(refBetween_any _ _ _ _).mono ?_;rintro e w' ⟨rfl,rfl⟩
 obtain⟨b3,hb1⟩:∃b,decide (0<=c.delay/\c.delay<=1000000)=b:=⟨_,rfl⟩
 rw[hb1]
 have H3:=hyd hb1
 clear hb1
 go_wp2_with fail
 refine(refBetween_any _ _ _ _).mono ?_;rintro e w' ⟨rfl,rfl⟩
 obtain⟨b4,hb1⟩:∃b,decide (0<=c.rate/\c.rate<=100000)=b:=⟨_,rfl⟩
 rw[hb1]
 have H4:=hyd hb1
 clear hb1
 go_wp2_with fail
 refine(refBetween_any _ _ _ _).mono ?_;rintro e w' ⟨rfl,rfl⟩
 obtain⟨b5,hb1⟩:∃b,decide (0<=c.burst/\c.burst<=1000000)=b:=⟨_,rfl⟩
 rw[hb1]
 have H5:=hyd hb1
 clear hb1
 go_wp2_with fail
 refine(refBetween_any _ _ _ _).mono ?_;rintro e w' ⟨rfl,rfl⟩
 obtain⟨b6,hb1⟩:∃b,decide (1<=c.retry/\c.retry<=1000000)=b:=⟨_,rfl⟩
 rw[hb1]
 have H6:=hyd hb1
 clear hb1
 go_wp2_with fail
 refine(refBetween_any _ _ _ _).mono ?_;rintro e w' ⟨rfl,rfl⟩
 obtain⟨b7,hb1⟩:∃b,decide (0<=c.tries/\c.tries<=10)=b:=⟨_,rfl⟩
 rw[hb1]
 have H7:=hyd hb1
 clear hb1
 have Hok:Hid (cfgOk c=(b1 && b2 && b3 && b4 && b5 && b6 && b7)):=by
  show _=_
  rw[<-H1.out,<-H2.out,<-H3.out,<-H4.out,<-H5.out,<-H6.out,<-H7.out]
  unfold cfgOk
  rw[Bool.eq_iff_iff]
  simp only[decide_eq_true_eq,Bool.and_eq_true,and_assoc]
 clear H1 H2 H3 H4 H5 H6 H7
 have Hno:Hid (∀r:Bool,(b1 && b2 && b3 && b4 && b5 && b6 && b7)=r->cfgOk c=r):=fun r e=>Hok.out.trans e
 clear Hok
 cases b1 with
 | false=>
  go_wp2
  go_ret2
  exact⟨(Below.refl _ _).alloc (Nat.le_refl _) _,.inl ⟨Hno.out _ (by simp),rfl⟩⟩
 | true=>
  cases b2 with
  | false=>
   go_wp2
   go_ret2
   exact⟨(Below.refl _ _).alloc (Nat.le_refl _) _,.inl ⟨Hno.out _ (by simp),rfl⟩⟩
  | true=>
   cases b3 with
   | false=>
    go_wp2
    go_ret2
    exact⟨(Below.refl _ _).alloc (Nat.le_refl _) _,.inl ⟨Hno.out _ (by simp),rfl⟩⟩
   | true=>
    cases b4 with
    | false=>
     go_wp2
     go_ret2
     exact⟨(Below.refl _ _).alloc (Nat.le_refl _) _,.inl ⟨Hno.out _ (by simp),rfl⟩⟩
    | true=>
     cases b5 with
     | false=>
      go_wp2
      go_ret2
      exact⟨(Below.refl _ _).alloc (Nat.le_refl _) _,.inl ⟨Hno.out _ (by simp),rfl⟩⟩
     | true=>
      cases b6 with
      | false=>
       go_wp2
       go_ret2
       exact⟨(Below.refl _ _).alloc (Nat.le_refl _) _,.inl ⟨Hno.out _ (by simp),rfl⟩⟩
      | true=>
       cases b7 with
       | false=>
        go_wp2
        go_ret2
        exact⟨(Below.refl _ _).alloc (Nat.le_refl _) _,.inl ⟨Hno.out _ (by simp),rfl⟩⟩
       | true=>
        go_wp2
        go_ret2
        refine⟨((Below.refl _ _).alloc (Nat.le_refl _) _).alloc (by simp) _,.inr ⟨Hno.out _ rfl,w.heap.size+1,by omega,rfl,?_⟩⟩
        have h:=rnew_at (w.alloc (.cells #[.int .i64 c.ring,.int .i64 c.window,.int .i64 c.delay,.int .i64 c.rate,.int .i64 c.burst,.int .i64 c.retry,.int .i64 c.tries] 23)) c
        rw[show(w.alloc (.cells #[.int .i64 c.ring,.int .i64 c.window,.int .i64 c.delay,.int .i64 c.rate,.int .i64 c.burst,.int .i64 c.retry,.int .i64 c.tries] 23)).heap.size=w.heap.size+1 by simp]at h
        exact h
theorem refAddSender_any (ρ:Nat->Nat) (rb:Nat) (R:Rm) (sv wv:Value) (source:Int) (w:World) (h:RdAt w ρ rb R sv wv) :
  Calls Tryz.prog 16 #[.pointer (some ⟨rb,0,none⟩),.int .i64 source] w fun e w'=>e = .returned (.int .i64 (rAddS R source).2)/\∃ρ' sv',RdAt w' ρ' rb (rAddS R source).1 sv' wv/\RMv w ρ w' ρ':=by
 obtain⟨ao,cap,rfl⟩:=rowA_shape h.sr.1
 have H:=hyd h
 have y18:w.cell? ⟨rb,18,none⟩=some (.slice ao R.sds.length cap):=h.k 18 _ rfl
 have yf:w.frozen? ⟨rb,18,none⟩=false:=h.fz 18
 have hs4:=h.s4
 have hlt:=h.lt
 clear h
 obtain⟨X,hX⟩:∃X,rAddS R source=X:=⟨_,rfl⟩
 have HX:=hyd hX
 rw[hX]
 clear hX
 go_enter Tryz.func16,Tryz.ntmps16
 go_wp2_with fail
 refine(refIn_any _ _ _).mono ?_
 rintro e w1 ⟨rfl,hw1⟩
 rw[hw1]
 clear hw1
 by_cases hin:0<=source/\source<=4294967295
 ·rw[decide_eq_true hin]
  have Hin:Hid (¬¬(0<=source/\source<=4294967295)):=fun e=>e hin
  clear hin
  go_wp2_with fail
  refine(refKnown_any ρ rb R _ wv source _ H.out).mono ?_
  rintro e w2 ⟨rfl,hw2⟩
  rw[hw2]
  clear hw2
  cases hk:rKnown R source with
  | true=>
   have E:Hid (X=(R,3)):=by show _=_;rw[<-HX.out];unfold rAddS;rw[if_neg Hin.out,if_pos hk]
   clear hk
   go_wp2
   go_ret
   exact⟨by rw[E.out];rfl,ρ,_,by rw[E.out];exact H.out,RMv.refl _ _⟩
  | false=>
   have Hk:Hid (¬rKnown R source=true):=by show ¬_;rw[hk];decide
   clear hk
   by_cases hf:4<=R.sds.length
   ·have hf':(4:Int)<=R.sds.length:=by omega
    have E:Hid (X=(R,5)):=by show _=_;rw[<-HX.out];unfold rAddS;rw[if_neg Hin.out,if_neg Hk.out,if_pos hf]
    go_wp2
    go_ret
    exact⟨by rw[E.out];rfl,ρ,_,by rw[E.out];exact H.out,RMv.refl _ _⟩
   ·have hf':¬(4:Int)<=R.sds.length:=by omega
    have E:Hid (X=({ R with sds:=R.sds++[⟨source,-1,.slice none 0 0,[]⟩] },0)):=by show _=_;rw[<-HX.out];unfold rAddS;rw[if_neg Hin.out,if_neg Hk.out,if_neg hf]
    obtain⟨i0,hi,hz0,hz1,hz2⟩:=info_parts sender_info
    have Hi:Hid (Tryz.prog.info? 61=some i0/\i0.zero=some (.agg #[.int .i64 0,.int .i64 0,.slice none 0 0])/\i0.size=3/\i0.bytes=40):=⟨hi,hz0,hz1,hz2⟩
    have Hf:Hid (R.sds.length<4):=by show _<_;omega
    clear hi hz0 hz1 hz2 hf
    go_wp2_with (at_builtin;(
     refine wpList_append_at rfl (.tmp 25) (.tmp 28) 50 rfl 0 61 i0 _ 3 40 Tryz.underlying50 Hi.out rfl (by decide) _ R.sds.length (R.sds.flatMap cRs) rfl (H.out.sr.1.alloc _) _ 1 1 [.int .i64 source,.int .i64 (-1),.slice none 0 0] rfl rfl (cells_new _ [.int .i64 source,.int .i64 (-1),.slice none 0 0] _) ?_ (by unfold maxLen;omega) (by omega) (Nat.zero_le _) ?_
     ·intro u hu;simp at hu;rcases hu with rfl|rfl|rfl<;>rfl
     intro v' w2 hown' hgrow hob
     refine stop_here ?_))
    refine hid_in ?_
    have hgr:=Grew.of (ρ:=ρ) (q:=2) (W:=w) H.out.sr.2 ((Below.refl _ _).alloc (Nat.le_refl _) _) hgrow hob (fun b hb=>(hown'.lt b hb).2)
    have HA:=H.out.addS hgr ⟨source,-1,.slice none 0 0,[]⟩ ⟨rfl,rfl⟩ hown' Hf.out
    have z18:w2.cell? ⟨rb,18,none⟩=some (.slice ao R.sds.length cap):=hgr.c.cell y18 (by rw[H.out.rm];decide)
    have zf:w2.frozen? ⟨rb,18,none⟩=false:=(hgr.c.frozen (p:=⟨rb,18,none⟩) hlt (by rw[H.out.rm];decide)).trans yf
    have HA2:=hyd HA
    obtain⟨a3,c3,rfl⟩:=rowA_shape hown'
    clear hown' hgrow hob hgr HA
    go_wp2
    go_ret
    exact⟨by rw[E.out];rfl,_,_,by rw[E.out];exact HA2.out.1,HA2.out.2⟩
 ·rw[decide_eq_false hin]
  have E:Hid (X=(R,2)):=by show _=_;rw[<-HX.out];unfold rAddS;rw[if_pos hin]
  clear hin
  go_wp2
  go_ret
  exact⟨by rw[E.out];rfl,ρ,_,by rw[E.out];exact H.out,RMv.refl _ _⟩
end Go.Proofs.YtdjhhnolcafkiaaGreat
namespace Go.Proofs.YtdjhhnolcafkiaaGreat
namespace Pk
theorem twelve (l:List UInt8) (h:12<=l.length):∃a0 a1 a2 a3 a4 a5 a6 a7 a8 a9 a10 a11 r,l=a0::a1::a2::a3::a4::a5::a6::a7::a8::a9::a10::a11::r:=by
 match l,h with
 | a0::a1::a2::a3::a4::a5::a6::a7::a8::a9::a10::a11::r,_=>exact⟨a0,a1,a2,a3,a4,a5,a6,a7,a8,a9,a10,a11,r,rfl⟩
theorem head_told (s:ByteArray) (h:12<=s.size) (hm:(B0 s).toNat/64=2) :
  s.data.toList.take 12=headB ((B0 s).toNat%16) (decide (128<=(B1 s).toNat)) (decide ((B0 s).toNat/32%2=1)) (decide ((B0 s).toNat/16%2=1)) ((B1 s).toNat%128) (num ((s.data.toList.drop 2).take 2)) (num ((s.data.toList.drop 4).take 4)) (num ((s.data.toList.drop 8).take 4)):=by
 have hb0:=(B0 s).toNat_lt
 have hb1:=(B1 s).toNat_lt
 have e0:hdB ((B0 s).toNat%16) (decide ((B0 s).toNat/32%2=1)) (decide ((B0 s).toNat/16%2=1))=B0 s:=by
  apply UInt8.toNat_inj.1
  rw[hdB_toNat _ _ _ (by omega)]
  by_cases h1:(B0 s).toNat/32%2=1<;>by_cases h2:(B0 s).toNat/16%2=1<;>simp[h1,h2]<;>omega
 have e1:tyB ((B1 s).toNat%128) (decide (128<=(B1 s).toNat))=B1 s:=by
  apply UInt8.toNat_inj.1
  rw[tyB_toNat _ _ (by omega)]
  by_cases h1:128<=(B1 s).toNat<;>simp[h1]<;>omega
 unfold headB
 rw[e0,e1]
 unfold B0 B1
 obtain⟨a0,a1,a2,a3,a4,a5,a6,a7,a8,a9,a10,a11,r,hl⟩:=twelve s.data.toList (by rw[<-Lib.size_eq];exact h)
 rw[hl,told_num 2 _ rfl,told_num 4 _ rfl,told_num 4 _ rfl]
 rfl
theorem con_told (s:ByteArray) (h0:at0 s<=s.size) :
  (s.data.toList.drop 12).take (at0 s-12)=conB (words (s.extract 12 (at0 s)).data.toList)/\(words (s.extract 12 (at0 s)).data.toList).length=(B0 s).toNat%16/\allIn (words (s.extract 12 (at0 s)).data.toList) 4294967295=true:=by
 have hl:(s.extract 12 (at0 s)).data.toList.length=4*((B0 s).toNat%16):=by
  rw[<-Lib.size_eq,ByteArray.size_extract]
  unfold at0 at *
  omega
 refine⟨?_,words_length _ _ hl,words_in _ _ hl⟩
 rw[conB_words _ _ hl,Lib.extract_data]
theorem told_of_read (s:ByteArray) (x:PP) (h:readP s=some x) :
  tellOk x.ex x.ty x.nu x.ti x.so x.pr x.pa x.cl x.en=true/\s.data.toList=tellB x.mrk x.ex x.ty x.nu x.ti x.so x.pr x.pa x.cl x.en x.py/\s.size<=1500:=by
 cases hb:bad1 s with
 | true=>rw[readP_bad s hb]at h;cases h
 | false=>
  have hb':=of_decide_eq_false hb
  by_cases hat:s.size<at0 s
  ·rw[readP_at s hb hat]at h;cases h
  ·rw[readP_of s hb (by omega)]at h
   cases hx:extPart s with
   | none=>rw[hx]at h;cases h
   | some q=>
    obtain⟨pr,en,a1⟩:=q
    obtain⟨t1,t2,t3,t4⟩:=ext_told s pr a1 en (by omega) hx
    rw[hx,Option.bind_some]at h
    cases hp:padPart s a1 with
    | none=>rw[hp]at h;cases h
    | some q=>
     obtain⟨pa,fin⟩:=q
     obtain⟨u1,u2,u3,u4,u5⟩:=pad_told s a1 pa fin t4 (by omega) hp
     rw[hp,Option.map_some,Option.some.injEq]at h
     subst h
     obtain⟨c1,c2,c3⟩:=con_told s (by omega)
     have hd:=head_told s (by omega) (by omega)
     have n2:=num_lt ((s.data.toList.drop 2).take 2)
     have n4:=num_lt ((s.data.toList.drop 4).take 4)
     have n8:=num_lt ((s.data.toList.drop 8).take 4)
     have l2:((s.data.toList.drop 2).take 2).length=2:=by rw[List.length_take,List.length_drop,<-Lib.size_eq];omega
     have l4:((s.data.toList.drop 4).take 4).length=4:=by rw[List.length_take,List.length_drop,<-Lib.size_eq];omega
     have l8:((s.data.toList.drop 8).take 4).length=4:=by rw[List.length_take,List.length_drop,<-Lib.size_eq];omega
     rw[l2]at n2;rw[l4]at n4;rw[l8]at n8
     refine⟨?_,?_,by omega⟩
     ·simp only[mkP,tellOk,headOk,Bool.and_eq_true]
      exact⟨⟨⟨⟨⟨⟨⟨decide_eq_true (by omega),decide_eq_true (by omega)⟩,decide_eq_true (by omega)⟩,decide_eq_true (by omega)⟩,decide_eq_true (by rw[c2];omega)⟩,c3⟩,t1⟩,decide_eq_true (by omega)⟩
     ·have e:decide ((0:Int)<(mkP s (pr,en,a1) (pa,fin)).pa)=decide ((B0 s).toNat/32%2=1):=by
       rw[<-u5]
       simp[mkP]
      unfold tellB
      rw[e]
      simp only[mkP,Int.toNat_natCast,c2]
      rw[<-hd,<-c1,<-t2,<-u1,Lib.extract_data]
      have q1:=cutAt s.data.toList a1 fin u2
      have q2:=cutAt s.data.toList (at0 s) a1 t3
      have q3:=cutAt s.data.toList 12 (at0 s) (by unfold at0;omega)
      rw[List.append_assoc,List.append_assoc,List.append_assoc,<-q1,<-q2,<-q3,List.take_append_drop]
theorem ba_ext {a b:ByteArray}(h:a.data.toList=b.data.toList):a=b:=ByteArray.ext (Array.ext' h)
theorem tellB_length (mk ex:Bool) (ty nu ti so pr pa:Int) (cl:List Int) (en py:ByteArray) (hp:0<=pa) :
  ((tellB mk ex ty nu ti so pr pa cl en py).length:Int)=plen ex cl en py pa:=by
 unfold tellB plen
 rw[List.length_append,List.length_append,List.length_append,List.length_append,headB_length,conB_length,extB_length,padB_length,<-Lib.size_eq,<-Lib.size_eq]
 cases ex<;>simp<;>omega
end Pk
end Go.Proofs.YtdjhhnolcafkiaaGreat
namespace Go.Proofs.YtdjhhnolcafkiaaGreat
open Go.RowKit Pk
theorem append_list (a b:ByteArray):(a++b).data.toList=a.data.toList++b.data.toList:=by
 rw[ByteArray.data_append,Array.toList_append]
theorem refNoughts_any (n:Nat) (w:World) (hn:n<=255) :
  Calls Tryz.prog 71 #[.int .i64 n] w fun e w'=>(∃t:ByteArray,e = .returned (.string t)/\t.data.toList=List.replicate n 0)/\w'=w:=by
 go_enter Tryz.func71,Tryz.ntmps71
 go_wp2
 go_loop [3,4] (fun v i=>∃(k:Nat) (t:ByteArray),k<=n/\i = .int .i64 k/\v = .string t/\t.data.toList=List.replicate k 0) (fun _ i=>n-(intOf i).toNat)
 case atStart=>exact⟨0,⟨#[]⟩,Nat.zero_le _,rfl,rfl,rfl⟩
 case round=>
  obtain⟨k,t,hk,rfl,rfl,ht⟩:=hrel
  have hts:t.size<=255:=by rw[Lib.size_eq,ht,List.length_replicate];omega
  have Ht:=hyd ht
  clear ht
  by_cases hlt:k<n
  ·go_wp2
   go_round
   case rel=>exact⟨k+1,t++⟨#[0]⟩,by omega,by go_num,rfl,by rw[append_list,Ht.out,List.replicate_succ']⟩
   case measure=>simp[intOf];omega
  ·have e:k=n:=by omega
   subst e
   go_wp2
   go_ret
   exact⟨⟨t,rfl,Ht.out⟩,rfl⟩
theorem conv_one (g:Nat) (W:World) (b:UInt8) (h:W.cell? ⟨g,0,none⟩=some (.int .u8 (b.toNat:Int))) :
  (convert 166 9 (.slice (some ⟨g,0,none⟩) 1 1)).run Tryz.prog W = .ok (.string ⟨#[b]⟩) W:=by
 rw[run_convert_bytes_string W 166 9 5 _ _ _ Tryz.underlying166 Tryz.underlying5 Tryz.underlying9]
 have hl:=run_loadCells_list (P:=Tryz.prog) W ⟨g,0,none⟩ [.int .u8 (b.toNat:Int)] (fun j v hj=>by
  match j,hj with
  | 0,hj=>simp at hj;subst hj;simpa[Addr.add]using h)
 rw[run_bytesToString W ⟨g,0,none⟩ 1 1 [(b.toNat:Int)] hl]
 congr 2
 apply ba_ext
 rw[push_fold]
 simp
theorem refTold_step (k v:Nat) (w:World) (hk:k+1<=8) (hv:v<9223372036854775808) (ih:∀(v:Nat) (w:World),k<=8->v<9223372036854775808->Calls Tryz.prog 70 #[.int .i64 v,.int .i64 k] w fun e w'=>(∃t:ByteArray,e = .returned (.string t)/\t.data.toList=told v k)/\Below w.heap.size w w') :
  Calls Tryz.prog 70 #[.int .i64 v,.int .i64 ((k+1:Nat):Int)] w fun e w'=>(∃t:ByteArray,e = .returned (.string t)/\t.data.toList=told v (k+1))/\Below w.heap.size w w':=by
 have Ih:Hid (∀(x:Int) (w:World),0<=x->x<9223372036854775808->Calls Tryz.prog 70 #[.int .i64 x,.int .i64 k] w fun e w'=>(∃t:ByteArray,e = .returned (.string t)/\t.data.toList=told x.toNat k)/\Below w.heap.size w w'):=by
  intro x w h0 h1
  obtain⟨q,rfl⟩:=Int.eq_ofNat_of_zero_le h0
  rw[Int.toNat_natCast]
  exact ih q w (by omega) (by omega)
 clear ih
 obtain⟨b,hb⟩:∃b:UInt8,b=UInt8.ofNat (v%256):=⟨_,rfl⟩
 have Hb:Hid (UInt8.ofNat (v%256)=b):=hb.symm
 have hbv:IntKind.u8.wrap ((v:Int).tmod 256)=(b.toNat:Int):=by
  rw[Int.tmod_eq_emod_of_nonneg (by omega),IntKind.wrap_u8',hb,UInt8.toNat_ofNat'];omega
 have hwv:IntKind.i64.wrap ((v:Int)/256)=(v:Int)/256:=wrapI64 _ (by omega) (by omega)
 have hwk:IntKind.i64.wrap (k:Int)=(k:Int):=wrapI64 _ (by omega) (by omega)
 have hne:(((k+1:Nat):Int) == 0)=false:=by simp;omega
 have hcv:=fun g W=>conv_one g W b
 clear hb
 go_enter Tryz.func70,Tryz.ntmps70
 go_wp2
 refine wp_region_noPanic ?_
 refine wp_region_held_drew (S:=fun _=>True) (by kernel_rfl) trivial (fun zH=>?_)
 refine tka 0 ?_
 refine tka 1 ?_
 refine tka 2 ?_
 refine tka 3 ?_
 refine tka 5 ?_
 refine tka 6 ?_
 refine tka 7 ?_
 refine wpAnyH_ready (rs:=[4,8]) (by kernel_rfl) (by simp) ?_
 refine AllReadyH.cons rfl (fun K hK=>?_) (AllReadyH.cons rfl (fun K hK=>?_) AllReadyH.nil)
 ·go_simp
  refine(Ih.out ((v:Int)/256) _ (by omega) (by omega)).mono ?_
  rintro e w1 ⟨⟨t,rfl,ht⟩,hb1⟩
  have hq:((v:Int)/256).toNat=v/256:=by omega
  rw[hq]at ht
  have Ht:=hyd ht
  clear hq
  have hts:t.size<=8:=by rw[Lib.size_eq,ht,told_length];omega
  have hcat:¬9223372036854775807<t.size+1:=by omega
  clear ht
  have Hbel:Hid (Below w.heap.size w w1):=(Below.refl _ _).drew.trans hb1
  clear hb1
  go_wp2_with fail
  refine hK.out _ _ trivial (fun zH=>?_)
  clear hK K
  refine rd1 8 fun K hK=>?_
  go_simp
  refine hK.out _ _ trivial (fun zH=>?_)
  clear hK K
  refine rd1 9 fun K hK=>?_
  go_simp
  refine hK.out _ _ trivial (fun zH=>?_)
  clear hK K
  refine tka 10 ?_
  refine tka 11 ?_
  refine doN ?_
  go_wp2
  go_ret
  refine⟨⟨t++⟨#[b]⟩,rfl,?_⟩,Hbel.out.alloc Hbel.out.size _⟩
  rw[append_list,Ht.out,told,Hb.out]
 ·go_simp
  refine hK.out _ _ trivial (fun zH=>?_)
  clear hK K
  refine wpAnyH_ready (rs:=[4,9]) (by kernel_rfl) (by simp) ?_
  refine AllReadyH.cons rfl (fun K hK=>?_) (AllReadyH.cons rfl (fun K hK=>?_) AllReadyH.nil)
  ·go_simp
   refine(Ih.out ((v:Int)/256) _ (by omega) (by omega)).mono ?_
   rintro e w1 ⟨⟨t,rfl,ht⟩,hb1⟩
   have hq:((v:Int)/256).toNat=v/256:=by omega
   rw[hq]at ht
   have Ht:=hyd ht
   clear hq
   have hts:t.size<=8:=by rw[Lib.size_eq,ht,told_length];omega
   have hcat:¬9223372036854775807<t.size+1:=by omega
   clear ht
   have hcc:w1.cell? ⟨w.heap.size,0,none⟩=some (.int .u8 (b.toNat:Int)):=(hb1.cell (p:=⟨w.heap.size,0,none⟩) (by simp)).trans (by go_simp)
   have Hbel:Hid (Below w.heap.size w w1):=(((Below.refl _ _).alloc (Nat.le_refl _) _).drew).trans (hb1.mono (by simp))
   clear hb1
   go_wp2_with fail
   refine hK.out _ _ trivial (fun zH=>?_)
   clear hK K
   refine rd1 9 fun K hK=>?_
   go_simp
   refine hK.out _ _ trivial (fun zH=>?_)
   clear hK K
   refine tka 10 ?_
   refine tka 11 ?_
   refine doN ?_
   go_wp2
   go_ret
   refine⟨⟨t++⟨#[b]⟩,rfl,?_⟩,Hbel.out⟩
   rw[append_list,Ht.out,told,Hb.out]
  ·go_simp
   refine hK.out _ _ trivial (fun zH=>?_)
   clear hK K
   refine rd1 4 fun K hK=>?_
   go_simp
   refine(Ih.out ((v:Int)/256) _ (by omega) (by omega)).mono ?_
   rintro e w1 ⟨⟨t,rfl,ht⟩,hb1⟩
   have hq:((v:Int)/256).toNat=v/256:=by omega
   rw[hq]at ht
   have Ht:=hyd ht
   clear hq
   have hts:t.size<=8:=by rw[Lib.size_eq,ht,told_length];omega
   have hcat:¬9223372036854775807<t.size+1:=by omega
   clear ht
   have Hbel:Hid (Below w.heap.size w w1):=(((Below.refl _ _).alloc (Nat.le_refl _) _).drew).trans (hb1.mono (by simp))
   clear hb1
   go_wp2_with fail
   refine hK.out _ _ trivial (fun zH=>?_)
   clear hK K
   refine tka 10 ?_
   refine tka 11 ?_
   refine doN ?_
   go_wp2
   go_ret
   refine⟨⟨t++⟨#[b]⟩,rfl,?_⟩,Hbel.out⟩
   rw[append_list,Ht.out,told,Hb.out]
theorem refTold_any (k:Nat):∀(v:Nat) (w:World),k<=8->v<9223372036854775808->Calls Tryz.prog 70 #[.int .i64 v,.int .i64 k] w fun e w'=>(∃t:ByteArray,e = .returned (.string t)/\t.data.toList=told v k)/\Below w.heap.size w w':=by
 induction k with
 | zero=>
  intro v w _ _
  go_enter Tryz.func70,Tryz.ntmps70
  go_wp2
  go_ret
  exact⟨⟨_,rfl,rfl⟩,Below.refl _ _⟩
 | succ k ih=>
  intro v w hk hv
  exact refTold_step k v w hk hv ih
end Go.Proofs.YtdjhhnolcafkiaaGreat
namespace Go.Proofs.YtdjhhnolcafkiaaGreat
open Go.RowKit
namespace Pk
theorem tmod_round (n:Int):n%65536=(if n.tmod 65536<0 then n.tmod 65536+65536 else n.tmod 65536)/\-65536<n.tmod 65536/\n.tmod 65536<65536:=by
 rcases Int.le_total 0 n with h|h
 ·rw[Int.tmod_eq_emod_of_nonneg h]
  split<;>omega
 ·obtain⟨m,hm⟩:∃m,m = -n:=⟨_,rfl⟩
  have e:n = -m:=by omega
  rw[e,Int.neg_tmod,Int.tmod_eq_emod_of_nonneg (by omega)]
  split<;>omega
end Pk
open Pk
theorem refRound_any (n:Int) (w:World) :
  Calls Tryz.prog 62 #[.int .i64 n] w fun e w'=>e = .returned (.int .i64 (n%65536))/\w'=w:=by
 obtain⟨He,hb1,hb2⟩:=tmod_round n
 by_cases hn:n.tmod 65536<0
 ·rw[if_pos hn]at He
  have He':Hid (n%65536=n.tmod 65536+65536):=He
  clear He
  go_enter Tryz.func62,Tryz.ntmps62
  go_wp2
  go_ret
  exact⟨ret_int He'.out.symm,rfl⟩
 ·rw[if_neg hn]at He
  have He':Hid (n%65536=n.tmod 65536):=He
  clear He
  go_enter Tryz.func62,Tryz.ntmps62
  go_wp2
  go_ret
  exact⟨ret_int He'.out.symm,rfl⟩
end Go.Proofs.YtdjhhnolcafkiaaGreat
namespace Go.Proofs.YtdjhhnolcafkiaaGreat
open Go.RowKit
namespace Pk
end Pk
open Pk
namespace Pk
end Pk
end Go.Proofs.YtdjhhnolcafkiaaGreat
namespace Go.Proofs.YtdjhhnolcafkiaaGreat
open Go.RowKit
namespace Pk
theorem flat_set {α:Type}{f:α->List Value}{k:Nat}(hf:∀x,(f x).length=k) (y:α) (u:Value) (j:Nat) (hj:j<k):∀(l:List α) (i:Nat) (h:i<l.length),f y=(f l[i]).set j u->(l.flatMap f).set (i*k+j) u=(l.set i y).flatMap f
 | a::r,0,_,e=>by
  have e':f y=(f a).set j u:=e
  rw[List.flatMap_cons,List.set_cons_zero,List.flatMap_cons,e',Nat.zero_mul,Nat.zero_add,List.set_append_left _ _ (by rw[hf];exact hj)]
 | a::r,i+1,h,e=>by
  have ih:=flat_set hf y u j hj r i (by simpa using h) (by simpa using e)
  have e1:(i+1)*k+j-(f a).length=i*k+j:=by rw[hf,Nat.succ_mul];omega
  rw[List.flatMap_cons,List.set_cons_succ,List.flatMap_cons,List.set_append_right _ _ (by rw[hf,Nat.succ_mul];omega),e1,ih]
theorem cellsK_rests (k:Kp) (r:Int):cellsK { k with rests:=r }=(cellsK k).set 12 (.int .i64 r):=rfl
theorem WnAt.rest {C:Nat->Prop}{W:World}{base wb g cap:Nat}{x:Wn}{p:Nat}{k:Kp}(h:WnAt C W base wb (.slice (some ⟨g,0,none⟩) x.kept.length cap) x) (hp:p<x.kept.length) (hk:x.kept[p]=k) (r:Int) :
  WnAt C (W.setCell ⟨g,p*13+12,none⟩ (.int .i64 r)) base wb (.slice (some ⟨g,0,none⟩) x.kept.length cap) { x with kept:=x.kept.set p { k with rests:=r } }/\SdUp W (W.setCell ⟨g,p*13+12,none⟩ (.int .i64 r)) wb (.slice (some ⟨g,0,none⟩) x.kept.length cap) (.slice (some ⟨g,0,none⟩) x.kept.length cap):=by
 have hgw:g≠wb:=fun e=>h.ne (by rw[e];rfl)
 have hc:Chg (fun b=>b=g) W (W.setCell ⟨g,p*13+12,none⟩ (.int .i64 r)):=(Chg.refl (fun b=>b=g) _).setCell ⟨g,p*13+12,none⟩ (.inl rfl) _
 have hst:=(h.row.stored (p*13+12) (.int .i64 r)).1
 have hrow:(W.setCell ⟨g,p*13+12,none⟩ (.int .i64 r)).ownsRow base 194 13 (.slice (some ⟨g,0,none⟩) x.kept.length cap) (x.kept.set p { k with rests:=r }).length ((x.kept.set p { k with rests:=r }).flatMap cellsK):=by
  rw[List.length_set,<-flat_set cellsK_len { k with rests:=r } (.int .i64 r) 12 (by omega) x.kept p hp (by rw[hk];exact cellsK_rests k r)]
  exact hst
 have n:¬wb=g:=fun e=>hgw e.symm
 refine⟨⟨hc.cell h.c0 n,hc.cell h.c1 n,hc.cell h.c2 n,hc.cell h.c3 n,hc.cell h.c4 n,hc.cell h.c5 n,hc.cell h.c6 n,hc.cell h.c7 n,hc.cell h.c8 n,hc.cell h.c9 n,hc.cell h.c10 n,hc.cell h.c11 n,hc.cell h.c12 n,fun o=>(hc.frozen (p:=⟨wb,o,none⟩) h.lt n).trans (h.fz o),hrow,h.sb,fun q hq=>?_,h.n1,h.n2⟩,hc.mono (fun b _ e=>.inr (by rw[e];rfl)),fun _ h=>.inl h⟩
 have hcon:IsC C W q.cv q.x.cl:=by
  rcases List.mem_or_eq_of_mem_set hq with hq|rfl
  ·exact h.con q hq
  ·exact h.con k (hk▸List.getElem_mem hp)
 exact hcon.chg hc (fun b hb e=>h.n2 g rfl (e▸hb))
end Pk
open Pk
end Go.Proofs.YtdjhhnolcafkiaaGreat
namespace Go.Proofs.YtdjhhnolcafkiaaGreat
open Go.RowKit
namespace Pk
def rNums (l:List Rg):List Int:=l.map fun g=>g.n%65536
theorem rNums_take (l:List Rg) (k:Nat) (h:k<l.length):rNums (l.take (k+1))=rNums (l.take k)++[(l[k]).n%65536]:=by
 unfold rNums
 rw[List.take_succ_eq_append_getElem h,List.map_append]
 rfl
theorem rNums_len (l:List Rg) (k:Nat) (h:k<=l.length):(rNums (l.take k)).length=k:=by
 unfold rNums
 rw[List.length_map,List.length_take]
 omega
theorem gap_at {W:World}{base g n cap:Nat}{l:List Rg}(h:W.ownsRow base 126 3 (.slice (some ⟨g,0,none⟩) n cap) n (l.flatMap cRg)) (hn:n=l.length) (k:Nat) (hk:k<l.length):W.cell? ⟨g,k*3,none⟩=some (.int .i64 (l[k]).n)/\W.cell? ⟨g,k*3+1,none⟩=some (.int .i64 (l[k]).last)/\W.cell? ⟨g,k*3+2,none⟩=some (.int .i64 (l[k]).tries):=by
 have at_:∀j,j<3->W.cell? ⟨g,k*3+j,none⟩=(cRg l[k])[j]?:=fun j hj=>by
  rw[h.cellAt (k*3+j) (by omega),flat_at cRg_len l k j hk hj]
 exact⟨at_ 0 (by omega),at_ 1 (by omega),at_ 2 (by omega)⟩
structure RMid (w:World) (ρ:Nat->Nat) (rb:Nat) (R:Rm) (sv wv:Value) (T:Nat->Prop) (W:World):Prop where
 c:Chg T w W
 k:∀i u,(rmV R sv wv)[i]? = some u->W.cell? ⟨rb,i,none⟩=some u
 fz:∀o,W.frozen? ⟨rb,o,none⟩=false
 sr:RowR W ρ 2 61 3 sv R.sds.length (R.sds.flatMap cRs)
 wr:RowR W ρ 3 99 11 wv R.wns.length (R.wns.flatMap cRw)
section
variable {w W W' : World} {ρ : Nat -> Nat} {rb : Nat} {R R' : Rm} {sv wv : Value} {T T' : Nat -> Prop}
theorem RdAt.mid (h:RdAt w ρ rb R sv wv) (T:Nat->Prop):RMid w ρ rb R sv wv T w:=⟨Chg.refl _ _,h.k,h.fz,h.sr,h.wr⟩
theorem RMid.lt (h:RMid w ρ rb R sv wv T W):rb<W.heap.size:=lt_of_cell (h.k 0 _ rfl)
theorem RMid.chg (h:RMid w ρ rb R sv wv T W) (hrm:ρ rb=1) (hc:Chg T' W W') (hT:∀b,T' b->ρ b≠1/\ρ b≠2/\ρ b≠3) (hTT:∀b,b<w.heap.size->T' b->T b):RMid w ρ rb R sv wv T W':=by
 have hr:¬T' rb:=fun e=>(hT rb e).1 hrm
 exact⟨h.c.trans hc hTT,fun i u hu=>hc.cell (h.k i u hu) hr,fun o=>(hc.frozen (p:=⟨rb,o,none⟩) h.lt hr).trans (h.fz o),h.sr.keep hc (fun b e=>(hT b e).2.1) (fun _ _ e=>e),h.wr.keep hc (fun b e=>(hT b e).2.2) (fun _ _ e=>e)⟩
theorem RMid.below (h:RMid w ρ rb R sv wv T W) (hrm:ρ rb=1) (hb:Below W.heap.size W W'):RMid w ρ rb R sv wv T W':=h.chg hrm (T':=fun _=>False) (Chg.ofBelow hb) (fun _ e=>e.elim) (fun _ _ e=>e.elim)
theorem RMid.put (h:RMid w ρ rb R sv wv T W) (hrm:ρ rb=1) (hT:T rb) (j:Nat) (u:Value) (hj:rmV R' sv wv=(rmV R sv wv).set j u) (e1:R'.sds=R.sds) (e2:R'.wns=R.wns):RMid w ρ rb R' sv wv T (W.setCell ⟨rb,j,none⟩ u):=by
 have hc:Chg (fun b=>b=rb) W (W.setCell ⟨rb,j,none⟩ u):=(Chg.refl (fun b=>b=rb) _).setCell ⟨rb,j,none⟩ (.inl rfl) _
 refine⟨h.c.trans hc (fun b _ e=>by rw[e];exact hT),fun i v hv=>?_,fun o=>by rw[World.frozen?_setCell];exact h.fz o,?_,?_⟩
 ·rw[hj,List.getElem?_set]at hv
  by_cases e:j=i
  ·subst e
   rw[if_pos rfl]at hv
   split at hv
   ·rename_i hl
    simp only[Option.some.injEq]at hv
    rw[<-hv]
    exact World.cell?_setCell_same _ _ _ (h.k j _ (List.getElem?_eq_getElem hl))
   ·cases hv
  ·rw[if_neg e]at hv
   rw[World.cell?_setCell_other _ _ _ _ (fun e'=>e (by injection e'))]
   exact h.k i v hv
 ·rw[e1]
  exact h.sr.keep hc (fun b e=>by rw[e,hrm];decide) (fun _ _ e=>e)
 ·rw[e2]
  exact h.wr.keep hc (fun b e=>by rw[e,hrm];decide) (fun _ _ e=>e)
theorem RMid.setS (h:RMid w ρ rb R sv wv T W) (hrm:ρ rb=1){g cap i:Nat}(hsv:sv = .slice (some ⟨g,0,none⟩) R.sds.length cap) (hT:T g\/w.heap.size<=g) (hi:i<R.sds.length) (j:Nat) (hj:j<3) (u:Value) (s':Rs) (hs:cRs s'=(cRs R.sds[i]).set j u):RMid w ρ rb { R with sds:=R.sds.set i s' } sv wv T (W.setCell ⟨g,i*3+j,none⟩ u):=by
 subst hsv
 have hg2:ρ g=2:=h.sr.2 g rfl
 have hc:Chg (fun b=>b=g) W (W.setCell ⟨g,i*3+j,none⟩ u):=(Chg.refl (fun b=>b=g) _).setCell ⟨g,i*3+j,none⟩ (.inl rfl) _
 have hst:=(h.sr.1.stored (i*3+j) u).1
 refine⟨h.c.trans hc (fun b hb e=>?_),fun q v hv=>hc.cell (h.k q v hv) (fun e=>by rw[<-e,hrm]at hg2;cases hg2),fun o=>by rw[World.frozen?_setCell];exact h.fz o,⟨?_,h.sr.2⟩,h.wr.keep hc (fun b e=>by rw[e,hg2];decide) (fun _ _ e=>e)⟩
 ·rcases hT with hT|hT
  ·rw[e];exact hT
  ·rw[e]at hb;exact absurd hb (by omega)
 ·simp only[List.length_set]
  rw[<-flat_set cRs_len s' u j hj R.sds i hi hs]
  exact hst
end
end Pk
open Pk
theorem refMissing_any (ρ:Nat->Nat) (rb:Nat) (R:Rm) (sv wv:Value) (source:Int) (w:World) (h:RdAt w ρ rb R sv wv) (hg:∀s∈R.sds,s.gaps.length<=90000) :
  Calls Tryz.prog 26 #[.pointer (some ⟨rb,0,none⟩),.int .i64 source] w fun e w'=>Below w.heap.size w w'/\
   ((rsPos R source=none/\e = .returned (.tuple #[.slice none 0 0,.int .i64 4]))\/∃i s v,rsPos R source=some i/\R.sds[i]? = some s/\e = .returned (.tuple #[v,.int .i64 0])/\OwnInts w' w.heap.size v (rNums s.gaps)):=by
 have H:=hyd h
 have Hg:=hyd hg
 clear h hg
 go_enter Tryz.func26,Tryz.ntmps26
 go_wp2_with fail
 refine(refSender_any ρ rb R sv wv source _ H.out).mono ?_
 rintro e w1 ⟨rfl,hw1⟩
 rw[hw1]
 clear hw1
 cases hp:rsPos R source with
 | none=>
  have Hp:=hyd hp
  unfold optI
  clear hp
  go_wp2
  go_ret2
  exact⟨Below.refl _ _,.inl ⟨Hp.out,rfl⟩⟩
 | some i=>
  have Hp:=hyd hp
  unfold optI
  obtain⟨hil,-,-⟩:=List.findIdx?_eq_some_iff_getElem.1 hp
  clear hp
  have hs:R.sds[i]? = some R.sds[i]:=List.getElem?_eq_getElem hil
  have hgl:=Hg.out _ (List.getElem_mem hil)
  obtain⟨g,cap,rfl,x0,x1,x2,xf,xl,xr⟩:=H.out.sndAt hs
  have hga:=(H.out.ga i _ hs).1
  have y18:w.cell? ⟨rb,18,none⟩=some (.slice (some ⟨g,0,none⟩) R.sds.length cap):=H.out.k 18 _ rfl
  have hrl:=H.out.lt
  have hs4:=H.out.s4
  generalize R.sds[i]=s at *
  have Hs:=hyd hs
  obtain⟨ga,gc,hgv⟩:=rowA_shape hga
  rw[hgv]at x2 hga
  have Hga:=hyd hga
  clear hga hgv hs x0 x1 xf xr
  have hi0:¬(i:Int)<0:=by omega
  have hi4:(i:Int)<(R.sds.length:Int):=by omega
  go_wp2
  go_loopw [7,8] (fun v s8 wr=>∃k:Nat,k<=s.gaps.length/\s8 = .int .i64 k/\OwnInts wr w.heap.size v (rNums (s.gaps.take k))/\Below w.heap.size w wr) (fun _ s8 _=>s.gaps.length-(intOf s8).toNat)
  case atStart=>exact⟨0,Nat.zero_le _,rfl,World.ownsRow_nil _ _ _ _,Below.refl _ _⟩
  case round=>
   obtain⟨k,hk,rfl,hown,hb⟩:=hrel
   have Hb:=hyd hb
   have Hown:=hyd hown
   obtain⟨va,vc,rfl⟩:=hown.shape
   have hlk:(rNums (s.gaps.take k)).length=k:=rNums_len _ _ hk
   rw[hlk]at Hown ⊢
   have Hlk:=hyd hlk
   clear hlk
   have z18:wr.cell? ⟨rb,18,none⟩=some (.slice (some ⟨g,0,none⟩) R.sds.length cap):=(hb.cell (p:=⟨rb,18,none⟩) hrl).trans y18
   have z2:wr.cell? ⟨g,i*3+2,none⟩=some (.slice ga s.gaps.length gc):=(hb.cell (p:=⟨g,i*3+2,none⟩) xl).trans x2
   have hsz:=hb.size
   clear hown hb
   by_cases hlt:k<s.gaps.length
   ·have hlt':(k:Int)<s.gaps.length:=by omega
    obtain⟨gg,rfl⟩:=rowA_some Hga.out (by omega)
    have d0:wr.cell? ⟨gg,k*3,none⟩=some (.int .i64 (s.gaps[k]).n):=(Hb.out.cell (p:=⟨gg,k*3,none⟩) (Hga.out.lt gg rfl).2).trans (gap_at Hga.out rfl k hlt).1
    have HTk:Hid (rNums (s.gaps.take (k+1))=rNums (s.gaps.take k)++[(s.gaps[k]).n%65536]):=rNums_take s.gaps k hlt
    generalize (s.gaps[k]).n=q at *
    go_wp2_with fail
    refine(refRound_any q _).mono ?_
    rintro e w2 ⟨rfl,hw2⟩
    rw[hw2]
    clear hw2
    go_wp2_with (at_builtin;(
     refine wpList_append_int rfl (.tmp 27) (.tmp 41) rfl w.heap.size _ (rNums (s.gaps.take k)) (q%65536) rfl (Hown.out.alloc _) _ 1 rfl ?_ (by rw[Hlk.out];omega) (by simp;omega) ?_
     ·exact cell_one_new _ _ _ 0 _ rfl
     intro v' w3 hown' hgrow hob
     refine stop_here ?_))
    refine hid_in ?_
    have R1:Hid (OwnInts w3 w.heap.size v' (rNums (s.gaps.take (k+1)))):=by
     rw[HTk.out]
     exact hown'
    have R2:Hid (Below w.heap.size w w3):=(Hb.out.alloc hsz _).grown hgrow (by simp;omega) (fun g hg=>(World.ownsRow.lt Hown.out g hg).1)
    clear hown' hgrow hob
    go_wp2
    go_roundw
    case rel=>exact⟨k+1,by omega,by go_num,R1.out,R2.out⟩
    case measure=>simp[intOf];omega
   ·have hlt':¬(k:Int)<s.gaps.length:=by omega
    have hke:k=s.gaps.length:=by omega
    have RR:Hid (OwnInts wr w.heap.size (.slice va k vc) (rNums s.gaps)):=by
     have h:=Hown.out
     rw[List.take_of_length_le (by omega)]at h
     exact h
    clear hke
    go_wp2
    go_ret2
    exact⟨Hb.out,.inr ⟨i,Hp.out,s,Hs.out,_,rfl,RR.out⟩⟩
end Go.Proofs.YtdjhhnolcafkiaaGreat
namespace Go.Proofs.YtdjhhnolcafkiaaGreat
open Go.RowKit
namespace Pk
end Pk
open Pk
end Go.Proofs.YtdjhhnolcafkiaaGreat
