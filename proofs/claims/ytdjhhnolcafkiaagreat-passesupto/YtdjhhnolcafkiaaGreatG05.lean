import Derived.Test.YtdjhhnolcafkiaaGreatG04
import Derived.Test.YtdjhhnolcafkiaaGreatG01
set_option linter.unusedVariables false
set_option linter.unusedSimpArgs false
set_option maxHeartbeats 40000000
set_option maxRecDepth 20000
namespace Go.Proofs.YtdjhhnolcafkiaaGreat
open Go.RowKit
namespace Pk
section
variable {W W' : World} {ρ : Nat -> Nat} {mb : Nat} {M : Md} {sv wv : Value} {SB WB : List (Nat × Value)}
theorem snoc_at {α:Type}{l:List α}{a:α}{i:Nat}{x:α}(h:(l++[a])[i]? = some x):(i<l.length/\l[i]? = some x)\/(i=l.length/\x=a):=by
 rcases Nat.lt_or_ge i l.length with hi|hi
 ·rw[List.getElem?_append_left hi]at h
  exact .inl ⟨hi,h⟩
 ·rw[List.getElem?_append_right hi]at h
  have hlt:=(List.getElem?_eq_some_iff.1 h).1
  simp at hlt
  have e:i-l.length=0:=by omega
  rw[e]at h
  simp at h
  exact .inr ⟨by omega,h.symm⟩
theorem MdAt.addS {sb:Nat}{sv':Value}{s:Sd}(h:MdAt W ρ mb M sv wv SB WB) (hl:SB.length<4) (hc:Chg (fun b=>b=mb\/sv.ownBlock=some b) W W') (hk:∀i u,(mdV M sv' wv)[i]? = some u->W'.cell? ⟨mb,i,none⟩=some u) (hf:∀o,W'.frozen? ⟨mb,o,none⟩=false)
  (hr:W'.ownsRow (mb+1) 91 1 sv' (SB.length+1) (SB.map (fun p=>ptr p.1)++[ptr sb])) (hS:SdAt W' (sb+1) sb (.slice none 0 0) s) (hsb:W.heap.size<=sb) (hv:∀b,sv'.ownBlock=some b->(sv.ownBlock=some b\/W.heap.size<=b)/\b≠sb) :
  MdAt W' (fun b=>if b=sb then 10+2*SB.length else if sv'.ownBlock=some b then 2 else ρ b) mb { M with sds:=M.sds++[s] } sv' wv (SB++[(sb,.slice none 0 0)]) WB/\(∀b,b<W.heap.size->ρ b=0->(if b=sb then 10+2*SB.length else if sv'.ownBlock=some b then 2 else ρ b)=0)/\Chg (fun b=>ρ b≠0) W W':=by
 have tr:∀y,(y=mb\/sv.ownBlock=some y)->ρ y=1\/ρ y=2:=fun y hy=>by
  rcases hy with e|e
  ·exact .inl (by rw[e];exact h.rm)
  ·exact .inr (h.rs y e)
 have k2:∀y r,ρ y=r->r≠0->r≠2->(if y=sb then 10+2*SB.length else if sv'.ownBlock=some y then 2 else ρ y)=r:=fun y r e1 e2 e3=>by
  have hne:y≠sb:=fun e=>by rw[e,h.hi sb hsb]at e1;omega
  rw[if_neg hne,if_neg (fun e=>by
   rcases(hv y e).1 with e'|e'
   ·rw[h.rs y e']at e1;omega
   ·rw[h.hi y e']at e1;omega),e1]
 have kC:∀y,y<W'.heap.size->(ρ y=4↔(if y=sb then 10+2*SB.length else if sv'.ownBlock=some y then 2 else ρ y)=4):=fun y _=>by
  constructor
  ·intro e;rw[k2 y 4 e (by omega) (by omega)]
  ·intro e
   split at e
   ·omega
   ·split at e
    ·omega
    ·exact e
 refine⟨⟨?_,hf,?_,rowA_chg hc h.wr (fun y hy e=>by have:=h.rw y hy;rcases tr y e with e'|e'<;>omega),by simp[h.sl],h.wl,by simp[<-h.sl];omega,?_,?_,h.ids,k2 mb 1 h.rm (by omega) (by omega),?_,fun y hy=>k2 y 3 (h.rw y hy) (by omega) (by omega),?_⟩,?_,?_⟩
 ·exact hk
 ·rw[List.length_append,List.map_append]
  exact hr
 ·intro i p t g1 g2
  rcases snoc_at g1 with⟨hi,g1⟩|⟨hi,rfl⟩
  ·have g2':M.sds[i]? = some t:=by
    have h':(M.sds++[s])[i]? = some t:=g2
    rwa [List.getElem?_append_left (by rw[<-h.sl];exact hi)]at h'
   obtain⟨_,b',c'⟩:=h.sa i p t g1 g2'
   exact⟨(h.part hc i p).1 t g1 g2' (fun y hy=>by rcases tr y hy with e'|e'<;>omega),k2 p.1 _ b' (by omega) (by omega),fun y hy=>k2 y _ (c' y hy) (by omega) (by omega)⟩
  ·have g2':t=s:=by
    have h':(M.sds++[s])[i]? = some t:=g2
    rw[hi,h.sl]at h'
    simpa using h'.symm
   subst g2'
   refine⟨hS,by rw[hi];simp,fun y hy=>by cases hy⟩
 ·intro i p t g1 g2
  obtain⟨_,b',c'⟩:=h.wa i p t g1 g2
  have hw:=(h.part hc i p).2 t g1 g2 (fun y hy=>by rcases tr y hy with e'|e'<;>omega)
  exact⟨hw.mono kC,k2 p.1 _ b' (by omega) (by omega),fun y hy=>k2 y _ (c' y hy) (by omega) (by omega)⟩
 ·intro y hy
  rw[if_neg (hv y hy).2,if_pos hy]
 ·intro y hy
  rw[if_neg (fun e=>by have:=hS.lt;omega),if_neg (fun e=>by have:=(hr.lt y e).2;omega)]
  exact h.hi y (Nat.le_trans hc.size hy)
 ·intro y hy h0
  rw[if_neg (by omega),if_neg (fun e=>by
   rcases(hv y e).1 with e'|e'
   ·rw[h.rs y e']at h0;omega
   ·omega)]
  exact h0
 ·exact hc.mono (fun y _ e=>by rcases tr y e with e'|e'<;>omega)
theorem MdAt.addW {wb:Nat}{wv':Value}{x:Wn}{last:Int}(h:MdAt W ρ mb M sv wv SB WB) (hc:Chg (fun b=>b=mb\/wv.ownBlock=some b) W W') (hk:∀i u,(mdV { M with last:=last } sv wv')[i]? = some u->W'.cell? ⟨mb,i,none⟩=some u) (hf:∀o,W'.frozen? ⟨mb,o,none⟩=false)
  (hr:W'.ownsRow (mb+1) 95 1 wv' (WB.length+1) (WB.map (fun p=>ptr p.1)++[ptr wb])) (hS:WnAt (fun _=>False) W' (wb+1) wb (.slice none 0 0) x) (hxk:x.kept=[]) (hwb:W.heap.size<=wb) (hv:∀b,wv'.ownBlock=some b->(wv.ownBlock=some b\/W.heap.size<=b)/\b≠wb) (hid:∀y∈M.wns,y.id.toNat≠x.id.toNat) :
  MdAt W' (fun b=>if b=wb then 1000+2*x.id.toNat else if wv'.ownBlock=some b then 3 else ρ b) mb { M with wns:=M.wns++[x],last:=last } sv wv' SB (WB++[(wb,.slice none 0 0)])/\(∀b,b<W.heap.size->ρ b=0->(if b=wb then 1000+2*x.id.toNat else if wv'.ownBlock=some b then 3 else ρ b)=0)/\Chg (fun b=>ρ b≠0) W W':=by
 have tr:∀y,(y=mb\/wv.ownBlock=some y)->ρ y=1\/ρ y=3:=fun y hy=>by
  rcases hy with e|e
  ·exact .inl (by rw[e];exact h.rm)
  ·exact .inr (h.rw y e)
 have k2:∀y r,ρ y=r->r≠0->r≠3->(if y=wb then 1000+2*x.id.toNat else if wv'.ownBlock=some y then 3 else ρ y)=r:=fun y r e1 e2 e3=>by
  have hne:y≠wb:=fun e=>by rw[e,h.hi wb hwb]at e1;omega
  rw[if_neg hne,if_neg (fun e=>by
   rcases(hv y e).1 with e'|e'
   ·rw[h.rw y e']at e1;omega
   ·rw[h.hi y e']at e1;omega),e1]
 have kC:∀y,y<W'.heap.size->(ρ y=4↔(if y=wb then 1000+2*x.id.toNat else if wv'.ownBlock=some y then 3 else ρ y)=4):=fun y _=>by
  constructor
  ·intro e;rw[k2 y 4 e (by omega) (by omega)]
  ·intro e
   split at e
   ·omega
   ·split at e
    ·omega
    ·exact e
 refine⟨⟨?_,hf,rowA_chg hc h.sr (fun y hy e=>by have:=h.rs y hy;rcases tr y e with e'|e'<;>omega),?_,h.sl,by simp[h.wl],h.s4,?_,?_,?_,k2 mb 1 h.rm (by omega) (by omega),fun y hy=>k2 y 2 (h.rs y hy) (by omega) (by omega),?_,?_⟩,?_,?_⟩
 ·exact hk
 ·rw[List.length_append,List.map_append]
  exact hr
 ·intro i p t g1 g2
  have g3:M.sds[i]? = some t:=g2
  have hj:i<4:=by have:=(List.getElem?_eq_some_iff.1 g3).1;have:=h.s4;omega
  obtain⟨_,b',c'⟩:=h.sa i p t g1 g2
  exact⟨(h.part hc i p).1 t g1 g2 (fun y hy=>by rcases tr y hy with e'|e'<;>omega),k2 p.1 _ b' (by omega) (by omega),fun y hy=>k2 y _ (c' y hy) (by omega) (by omega)⟩
 ·intro i p t g1 g2
  rcases snoc_at g1 with⟨hi,g1⟩|⟨hi,rfl⟩
  ·have g2':M.wns[i]? = some t:=by
    have h':(M.wns++[x])[i]? = some t:=g2
    rwa [List.getElem?_append_left (by rw[<-h.wl];exact hi)]at h'
   obtain⟨_,b',c'⟩:=h.wa i p t g1 g2'
   have hw:=(h.part hc i p).2 t g1 g2' (fun y hy=>by rcases tr y hy with e'|e'<;>omega)
   exact⟨hw.mono kC,k2 p.1 _ b' (by omega) (by omega),fun y hy=>k2 y _ (c' y hy) (by omega) (by omega)⟩
  ·have g2':t=x:=by
    have h':(M.wns++[x])[i]? = some t:=g2
    rw[hi,h.wl]at h'
    simpa using h'.symm
   subst g2'
   refine⟨⟨hS.c0,hS.c1,hS.c2,hS.c3,hS.c4,hS.c5,hS.c6,hS.c7,hS.c8,hS.c9,hS.c10,hS.c11,hS.c12,hS.fz,hS.row,hS.sb,fun k hk'=>(by rw[hxk]at hk';cases hk'),fun e=>by simp at e;omega,fun y hy=>by cases hy⟩,by simp,fun y hy=>by cases hy⟩
 ·intro i j y z hij g1 g2
  have g1':(M.wns++[x])[i]? = some y:=g1
  have g2':(M.wns++[x])[j]? = some z:=g2
  rcases snoc_at g1' with⟨hi,g3⟩|⟨hi,rfl⟩
  ·rcases snoc_at g2' with⟨hj,g4⟩|⟨hj,rfl⟩
   ·exact h.ids i j y z hij g3 g4
   ·exact hid y (List.mem_of_getElem? g3)
  ·rcases snoc_at g2' with⟨hj,g4⟩|⟨hj,e⟩
   ·exact Ne.symm (hid z (List.mem_of_getElem? g4))
   ·omega
 ·intro y hy
  rw[if_neg (hv y hy).2,if_pos hy]
 ·intro y hy
  rw[if_neg (fun e=>by have:=hS.lt;omega),if_neg (fun e=>by have:=(hr.lt y e).2;omega)]
  exact h.hi y (Nat.le_trans hc.size hy)
 ·intro y hy h0
  rw[if_neg (by omega),if_neg (fun e=>by
   rcases(hv y e).1 with e'|e'
   ·rw[h.rw y e']at h0;omega
   ·omega)]
  exact h0
 ·exact hc.mono (fun y _ e=>by rcases tr y e with e'|e'<;>omega)
theorem mdV_set {a b:World}{mb:Nat}{M M':Md}{sv wv sv' wv':Value}(j:Nat) (y:Value) (h:∀i u,(mdV M sv wv)[i]? = some u->a.cell? ⟨mb,i,none⟩=some u) (hb:∀o,b.cell? ⟨mb,o,none⟩=a.cell? ⟨mb,o,none⟩) (hj:j<21) (he:mdV M' sv' wv'=(mdV M sv wv).set j y) :
  ∀i u,(mdV M' sv' wv')[i]? = some u->(b.setCell ⟨mb,j,none⟩ y).cell? ⟨mb,i,none⟩=some u:=by
 intro i u hu
 rw[he,List.getElem?_set]at hu
 by_cases e:j=i
 ·subst e
  rw[if_pos rfl,if_pos (by simpa[mdV,cfgV,sttV]using hj)]at hu
  cases hu
  have hl:j<(mdV M sv wv).length:=by simpa[mdV,cfgV,sttV]using hj
  exact World.cell?_setCell_same _ _ _ ((hb j).trans (h j _ (List.getElem?_eq_getElem hl)))
 ·rw[if_neg e]at hu
  rw[World.cell?_setCell_other _ _ _ _ (fun e'=>e (by injection e')),hb]
  exact h i u hu
end
end Pk
namespace Pk
theorem infoS:(Tryz.prog.info? 91).map (fun i=>(i.zero,i.size,i.bytes))=some (some (.pointer none),1,8):=by kernel_rfl
def Moved (w w':World) (ρ:Nat->Nat) (mb:Nat) (M':Md):Prop:=
 ∃ρ' sv' wv' SB' WB',MdAt w' ρ' mb M' sv' wv' SB' WB'/\(∀b,b<w.heap.size->ρ b=0->ρ' b=0)/\Chg (fun b=>ρ b≠0) w w'
theorem Moved.mk {w w':World}{ρ ρ':Nat->Nat}{mb:Nat}{M':Md}{sv' wv':Value}{SB' WB':List (Nat × Value)}(h:MdAt w' ρ' mb M' sv' wv' SB' WB'/\(∀b,b<w.heap.size->ρ b=0->ρ' b=0)/\Chg (fun b=>ρ b≠0) w w'):Moved w w' ρ mb M':=⟨ρ',sv',wv',SB',WB',h⟩
theorem Moved.same {w w':World}{ρ:Nat->Nat}{mb:Nat}{M:Md}{sv wv:Value}{SB WB:List (Nat × Value)}(h:MdAt w ρ mb M sv wv SB WB) (hb:Below w.heap.size w w'):Moved w w' ρ mb M:=⟨ρ,sv,wv,SB,WB,h.below hb,fun _ _ e=>e,Chg.ofBelow hb⟩
theorem Moved.before {w w1 w':World}{ρ:Nat->Nat}{mb:Nat}{M:Md}(hb:Below w.heap.size w w1) (h:Moved w1 w' ρ mb M):Moved w w' ρ mb M:=by
 obtain⟨ρ',a,b,c,d,h1,h2,h3⟩:=h
 exact⟨ρ',a,b,c,d,h1,fun x hx=>h2 x (Nat.lt_of_lt_of_le hx hb.size),(Chg.ofBelow hb).trans h3 (fun _ _ e=>e)⟩
def addSM (M:Md) (source:Int):Md × Int:=
 if ¬(0<=source/\source<=4294967295)then(M,2)else if knowsF M source=true then(M,3)else if 4<=M.sds.length then(M,5)else({ M with sds:=M.sds++[⟨source,false,[],0⟩] },0)
theorem Moved.addS {w1 w3:World}{ρ:Nat->Nat}{mb:Nat}{M:Md}{ao a3:Option Addr}{cap c3:Nat}{wv:Value}{SB WB:List (Nat × Value)}{source:Int}(h:MdAt w1 ρ mb M (.slice ao SB.length cap) wv SB WB) (hl:SB.length<4) (ob:Obj)
  (hg:World.grownBy ((w1.alloc (.cells #[.int .i64 source,.bool false,.slice none 0 0,.int .u16 0] 134)).alloc ob).drew w3 (Value.slice ao SB.length cap).ownBlock)
  (hown:w3.ownsRow (mb+1) 91 1 (.slice a3 (SB.length+1) c3) (SB.length+1) (SB.map (fun p=>ptr p.1)++[ptr w1.heap.size]))
  (hob:(Value.slice a3 (SB.length+1) c3).ownBlock=(Value.slice ao SB.length cap).ownBlock\/(Value.slice a3 (SB.length+1) c3).ownBlock=some ((w1.alloc (.cells #[.int .i64 source,.bool false,.slice none 0 0,.int .u16 0] 134)).alloc ob).drew.heap.size) :
  Moved w1 (w3.setCell ⟨mb,18,none⟩ (.slice a3 (SB.length+1) c3)) ρ mb { M with sds:=M.sds++[⟨source,false,[],0⟩] }:=by
 have hneM:(Value.slice ao SB.length cap).ownBlock≠some mb:=fun e=>by have:=h.rs mb e;rw[h.rm]at this;cases this
 have hobl:∀b,(Value.slice ao SB.length cap).ownBlock=some b->b<w1.heap.size:=fun b hb=>(h.sr.lt b hb).2
 have hlt:=h.lt
 have hcA:Chg (fun b=>(Value.slice ao SB.length cap).ownBlock=some b) (w1.alloc (.cells #[.int .i64 source,.bool false,.slice none 0 0,.int .u16 0] 134)) w3:=Chg.ofGrown (((World.grownBy_alloc _ _ _).trans (World.grownBy_drewX _ _)).trans hg)
 have hc1:Chg (fun b=>(Value.slice ao SB.length cap).ownBlock=some b) w1 w3:=Chg.ofGrown ((((World.grownBy_alloc _ _ _).trans (World.grownBy_alloc _ _ _)).trans (World.grownBy_drewX _ _)).trans hg)
 have hcS:Chg (fun b=>b=mb) w3 (w3.setCell ⟨mb,18,none⟩ (.slice a3 (SB.length+1) c3)):=(Chg.refl (fun b=>b=mb) _).setCell ⟨mb,18,none⟩ (.inl rfl) _
 have hcA':Chg (fun b=>b=mb\/(Value.slice ao SB.length cap).ownBlock=some b) (w1.alloc (.cells #[.int .i64 source,.bool false,.slice none 0 0,.int .u16 0] 134)) (w3.setCell ⟨mb,18,none⟩ (.slice a3 (SB.length+1) c3)):=(hcA.mono (fun _ _ e=>.inr e)).trans hcS (fun _ _ e=>.inl e)
 have hc':Chg (fun b=>b=mb\/(Value.slice ao SB.length cap).ownBlock=some b) w1 (w3.setCell ⟨mb,18,none⟩ (.slice a3 (SB.length+1) c3)):=(hc1.mono (fun _ _ e=>.inr e)).trans hcS (fun _ _ e=>.inl e)
 have hnT:¬(w1.heap.size=mb\/(Value.slice ao SB.length cap).ownBlock=some w1.heap.size):=by
  rintro(e|e)
  ·omega
  ·have:=hobl _ e;omega
 have hsz:((w1.alloc (.cells #[.int .i64 source,.bool false,.slice none 0 0,.int .u16 0] 134)).alloc ob).drew.heap.size=w1.heap.size+1+1:=by simp
 have hne3:(Value.slice a3 (SB.length+1) c3).ownBlock≠some mb:=fun e=>by
  have:=(hown.lt mb e).1
  omega
 have hh:=MdAt.addS (sb:=w1.heap.size) (sv':=.slice a3 (SB.length+1) c3) (s:=⟨source,false,[],0⟩) h hl hc'
 refine Moved.mk (hh ?_ ?_ ?_ ?_ (Nat.le_refl _) ?_)
 ·exact mdV_set 18 _ h.k (fun o=>World.cell?_of_block (hc1.block mb hlt hneM)) (by omega) rfl
 ·intro o
  rw[World.frozen?_setCell]
  exact(hc1.frozen (p:=⟨mb,o,none⟩) hlt hneM).trans (h.fz o)
 ·exact rowA_chg hcS hown (fun y hy e=>hne3 (e▸hy))
 ·refine⟨hcA'.cell (cell_new _ _ _ 0) hnT,hcA'.cell (cell_new _ _ _ 1) hnT,hcA'.cell (cell_new _ _ _ 2) hnT,hcA'.cell (cell_new _ _ _ 3) hnT,fun o=>(hcA'.frozen (p:=⟨w1.heap.size,o,none⟩) (by simp) hnT).trans (frozen_new _ _ _ o),World.ownsRow_nil _ _ _ _,by omega⟩
 ·intro b hb
  rcases hob with e|e
  ·rw[e]at hb
   have:=hobl b hb
   exact⟨.inl hb,by omega⟩
  ·rw[e,hsz]at hb
   cases hb
   exact⟨.inr (by omega),by omega⟩
end Pk
open Pk
theorem addSender_any (ρ:Nat->Nat) (mb:Nat) (M:Md) (sv wv:Value) (SB WB:List (Nat × Value)) (source:Int) (w:World) (h:MdAt w ρ mb M sv wv SB WB) (h8:M.wns.length<=8) (hr:1<=M.c.ring) :
  Calls Tryz.prog 15 #[.pointer (some ⟨mb,0,none⟩),.int .i64 source] w fun e w'=>e = .returned (.int .i64 (addSM M source).2)/\Moved w w' ρ mb (addSM M source).1:=by
 obtain⟨ao,cap,rfl⟩:=rowA_shape h.sr
 have H:=hyd h
 have hlt:=h.lt
 clear h
 go_enter Tryz.func15,Tryz.ntmps15
 go_wp2_with fail
 refine(orNone_any mb _).mono ?_
 rintro e w1 ⟨rfl,hw1⟩
 rw[hw1]
 clear hw1
 go_wp2_with fail
 refine(between_any _ _ _ _).mono ?_
 rintro e w1 ⟨rfl,hw1⟩
 rw[hw1]
 clear hw1
 by_cases hin:0<=source/\source<=4294967295
 ·rw[decide_eq_true hin]
  have Hin:=hyd hin
  clear hin
  go_wp2_with fail
  refine(knows_any ρ mb M _ wv SB WB source _ H.out h8).mono ?_
  rintro e w1 ⟨rfl,hb1⟩
  have Hb1:=hyd hb1
  have H1:Hid (MdAt w1 ρ mb M (.slice ao SB.length cap) wv SB WB):=H.out.below hb1
  clear hb1
  cases hk:knowsF M source with
  | true=>
   have HA:Hid (addSM M source=(M,3)):=by show _=_;unfold addSM;rw[if_neg (fun e=>e Hin.out),if_pos hk]
   clear hk
   go_wp2
   go_ret
   rw[HA.out]
   exact⟨rfl,Moved.same H.out Hb1.out⟩
  | false=>
  have y18:w1.cell? ⟨mb,18,none⟩=some (.slice ao SB.length cap):=H1.out.k 18 _ rfl
  by_cases h4:4<=SB.length
  ·have h4':(4:Int)<=SB.length:=by omega
   have HA:Hid (addSM M source=(M,5)):=by show _=_;unfold addSM;rw[if_neg (fun e=>e Hin.out),if_neg (by rw[hk];decide),if_pos (by rw[<-H.out.sl];exact h4)]
   clear hk
   go_wp2
   go_ret
   rw[HA.out]
   exact⟨rfl,Moved.same H.out Hb1.out⟩
  ·have h4':¬(4:Int)<=SB.length:=by omega
   have HA:Hid (addSM M source=({ M with sds:=M.sds++[⟨source,false,[],0⟩] },0)):=by show _=_;unfold addSM;rw[if_neg (fun e=>e Hin.out),if_neg (by rw[hk];decide),if_neg (by rw[<-H.out.sl];exact h4)]
   clear hk
   obtain⟨i0,hi0,hz0,hz1,hz2⟩:=info_parts infoS
   have Hi:Hid (Tryz.prog.info? 91=some i0/\i0.zero=_/\i0.size=1/\i0.bytes=8):=⟨hi0,hz0,hz1,hz2⟩
   clear hi0 hz0 hz1 hz2
   go_wp2_with fail
   refine(made_any mb M.c.ring _ (H1.out.k 0 _ rfl) hr).mono ?_
   rintro e w2 ⟨rfl,hw2⟩
   rw[hw2]
   clear hw2
   have hs1:mb<w1.heap.size:=H1.out.lt
   have hneM:(Value.slice ao SB.length cap).ownBlock≠some mb:=fun e=>by have:=H1.out.rs mb e;rw[H1.out.rm]at this;cases this
   have yf:∀o,w1.frozen? ⟨mb,o,none⟩=false:=H1.out.fz
   go_wp2
   refine wp_region_noPanic ?_
   refine wp_region_held_drew (S:=fun _=>True) (by kernel_rfl) trivial (fun zH=>?_)
   refine tka 0 ?_
   refine tka 1 ?_
   refine tka 2 ?_
   refine tka 3 ?_
   refine tka 5 ?_
   refine wpAnyH_ready (rs:=[4,6]) (by kernel_rfl) (by simp) ?_
   refine AllReadyH.cons rfl (fun K hK=>?_) (AllReadyH.cons rfl (fun K hK=>?_) AllReadyH.nil)
   focus
    go_simp
    refine hK.out _ _ trivial (fun zH=>?_)
    clear hK K
    refine rd1 6 fun K hK=>?_
    go_simp
    refine(newSender_any source _).mono ?_
    rintro e w2 ⟨rfl,hw2⟩
    rw[hw2]
    clear hw2
    unfold ptr
    go_simp
    refine hK.out _ _ trivial (fun zH=>?_)
    clear hK K
    refine rd1 7 fun K hK=>?_
   rotate_left
   focus
    go_simp
    refine(newSender_any source _).mono ?_
    rintro e w2 ⟨rfl,hw2⟩
    rw[hw2]
    clear hw2
    unfold ptr
    go_simp
    refine hK.out _ _ trivial (fun zH=>?_)
    clear hK K
    refine wpAnyH_ready (rs:=[4,7]) (by kernel_rfl) (by simp) ?_
    refine AllReadyH.cons rfl (fun K hK=>?_) (AllReadyH.cons rfl (fun K hK=>?_) AllReadyH.nil)
    focus
     go_simp
     refine hK.out _ _ trivial (fun zH=>?_)
     clear hK K
     refine rd1 7 fun K hK=>?_
    rotate_left
    focus
     go_simp
     refine hK.out _ _ trivial (fun zH=>?_)
     clear hK K
     refine rd1 4 fun K hK=>?_
   all_goals
    go_simp
    refine hK.out _ _ trivial (fun zH=>?_)
    clear hK K
    refine rd1 8 fun K hK=>?_
    rw[if_pos (by rfl)]
    refine wp_append_at (.tmp 31) (.tmp 34) 84 rfl (mb+1) 91 i0 _ 1 8 Tryz.underlying84 Hi.out.1 Hi.out.2.1 Hi.out.2.2.1 Hi.out.2.2.2 rfl (by decide) (.slice ao SB.length cap) SB.length (SB.map fun p=>ptr p.1) (by rfl) (World.ownsRow.drew (World.ownsRow.alloc (World.ownsRow.alloc H1.out.sr _) _)) _ 1 1 [ptr w1.heap.size] (by rfl) rfl (cells_newAt _ [ptr w1.heap.size] _ _ (by simp)) ?_ (by unfold maxLen;omega) (by omega) (by simp;omega) ?_
    ·intro u hu
     simp at hu
     subst hu
     rfl
    intro v' w3 hown' hgrow hob
    obtain⟨a3,c3,rfl⟩:=rowA_shape hown'
    have hc3:Chg (fun x=>(Value.slice ao SB.length cap).ownBlock=some x) w1 w3:=Chg.ofGrown ((((World.grownBy_alloc _ _ _).trans (World.grownBy_alloc _ _ _)).trans (World.grownBy_drewX _ _)).trans hgrow)
    have z18:w3.cell? ⟨mb,18,none⟩=some (.slice ao SB.length cap):=hc3.cell y18 hneM
    have zf:∀o,w3.frozen? ⟨mb,o,none⟩=false:=fun o=>(hc3.frozen (p:=⟨mb,o,none⟩) hs1 hneM).trans (yf o)
    have HM:Hid (Moved w1 (w3.setCell ⟨mb,18,none⟩ (.slice a3 (SB.length+1) c3)) ρ mb { M with sds:=M.sds++[⟨source,false,[],0⟩] }):=Moved.addS H1.out (by omega) _ hgrow hown' hob
    refine hK.out _ _ trivial (fun zH=>?_)
    clear hK K hown' hgrow hob hc3 y18 yf
    refine tka 9 ?_
    refine tka 10 ?_
    refine rd1 11 fun K hK=>?_
    go_simp
    refine hK.out _ _ trivial (fun zH=>?_)
    clear hK K
    refine doN ?_
    go_wp2
    go_ret
    rw[HA.out]
    exact⟨rfl,Moved.before Hb1.out HM.out⟩
 ·rw[decide_eq_false hin]
  have HA:Hid (addSM M source=(M,2)):=by show _=_;unfold addSM;rw[if_pos hin]
  clear hin
  go_wp2
  go_ret
  rw[HA.out]
  exact⟨rfl,Moved.same H.out (Below.refl _ _)⟩
end Go.Proofs.YtdjhhnolcafkiaaGreat
namespace Go.Proofs.YtdjhhnolcafkiaaGreat
open Go.RowKit
namespace Pk
theorem i64_id (n:Int) (h0:-9000000000000000000<=n) (h:n<=9000000000000000000):IntKind.i64.wrap n=n:=by simp[IntKind.wrap,IntKind.signed,IntKind.bits];omega
theorem infoW:(Tryz.prog.info? 95).map (fun i=>(i.zero,i.size,i.bytes))=some (some (.pointer none),1,8):=by kernel_rfl
def newW (id of_:Int) (p:Plan) (n:Nat):Wn:=⟨p.source,false,[],id,of_,p,0,n⟩
def addWM (M:Md) (of_:Int) (p:Plan):Md × Int × Int:=
 if sndPos M of_=none then(M,0,4)else if plOk p=false then(M,0,2)else if(knowsF M p.source || knowsF M p.second)=true then(M,0,3)else if 8<=M.wns.length then(M,0,5)else({ M with wns:=M.wns++[newW (M.last+1) of_ p p.secondFirst.toNat],last:=M.last+1 },M.last+1,0)
def PlAt (B:Nat) (p:Plan) (W:World):Prop:=W.cell? ⟨B,0,none⟩=some (.int .i64 p.source)/\W.cell? ⟨B,1,none⟩=some (.int .i64 p.second)/\W.cell? ⟨B,2,none⟩=some (.int .i64 p.ty)/\W.cell? ⟨B,3,none⟩=some (.int .i64 p.secondTy)/\W.cell? ⟨B,4,none⟩=some (.int .i64 p.first)/\W.cell? ⟨B,5,none⟩=some (.int .i64 p.secondFirst)
def PlS (mb B:Nat) (l:Int) (p:Plan) (W:World):Prop:=W.cell? ⟨mb,20,none⟩=some (.int .i64 l)/\W.cell? ⟨B,0,none⟩=some (.int .i64 p.source)/\W.cell? ⟨B,1,none⟩=some (.int .i64 p.second)/\W.cell? ⟨B,2,none⟩=some (.int .i64 p.ty)/\W.cell? ⟨B,3,none⟩=some (.int .i64 p.secondTy)/\W.cell? ⟨B,4,none⟩=some (.int .i64 p.first)/\W.cell? ⟨B,5,none⟩=some (.int .i64 p.secondFirst)
theorem PlAt.chg {T:Nat->Prop}{W W':World}{B:Nat}{p:Plan}(h:PlAt B p W) (hc:Chg T W W') (h2:¬T B):PlAt B p W':=⟨hc.cell h.1 h2,hc.cell h.2.1 h2,hc.cell h.2.2.1 h2,hc.cell h.2.2.2.1 h2,hc.cell h.2.2.2.2.1 h2,hc.cell h.2.2.2.2.2 h2⟩
theorem PlAt.below {W W':World}{B:Nat}{p:Plan}(h:PlAt B p W) (hb:Below W.heap.size W W'):PlAt B p W':=h.chg (T:=fun _=>False) (Chg.ofBelow hb) (fun e=>e)
theorem PlS.chg {T:Nat->Prop}{W W':World}{mb B:Nat}{l:Int}{p:Plan}(h:PlS mb B l p W) (hc:Chg T W W') (h1:¬T mb) (h2:¬T B):PlS mb B l p W':=⟨hc.cell h.1 h1,PlAt.chg h.2 hc h2⟩
theorem PlS.below {W W':World}{mb B:Nat}{l:Int}{p:Plan}(h:PlS mb B l p W) (hb:Below W.heap.size W W'):PlS mb B l p W':=h.chg (T:=fun _=>False) (Chg.ofBelow hb) (fun e=>e) (fun e=>e)
theorem PlS.set19 {W:World}{mb B:Nat}{l:Int}{p:Plan}(h:PlS mb B l p W) (hne:mb≠B) (v:Value):PlS mb B l p (W.setCell ⟨mb,19,none⟩ v):=
 ⟨(World.cell?_setCell_other _ _ _ _ (fun e=>by injection e with _ e _;omega)).trans h.1,PlAt.chg h.2 ((Chg.refl (fun b=>b=mb) _).setCell ⟨mb,19,none⟩ (.inl rfl) _) (fun e=>hne e.symm)⟩
theorem Moved.then0 {w w1 w':World}{ρ:Nat->Nat}{mb:Nat}{M:Md}(h:Chg (fun b=>ρ b≠0) w w1) (k:Moved w1 w' ρ mb M):Moved w w' ρ mb M:=by
 obtain⟨ρ',a,b,c,d,h1,h2,h3⟩:=k
 exact⟨ρ',a,b,c,d,h1,fun x hx=>h2 x (Nat.lt_of_lt_of_le hx h.size),h.trans h3 (fun _ _ e=>e)⟩
theorem Moved.addW {w1 w3:World}{ρ:Nat->Nat}{mb:Nat}{M:Md}{ao a3:Option Addr}{cap c3:Nat}{sv:Value}{SB WB:List (Nat × Value)}{of_:Int}{p:Plan}{n:Nat}(h:MdAt w1 ρ mb { M with last:=M.last+1 } sv (.slice ao WB.length cap) SB WB) (hids:∀y∈M.wns,0<y.id/\y.id<=M.last) (hlast:0<=M.last) (ob:Obj)
  (hg:World.grownBy (((w1.alloc (.cells #[.int .i64 p.source,.int .i64 p.second,.int .i64 p.ty,.int .i64 p.secondTy,.int .i64 p.first,.int .i64 p.secondFirst] 39)).alloc (.cells #[.int .i64 p.source,.bool false,.slice none 0 0,.int .i64 (M.last+1),.int .i64 of_,.int .i64 p.source,.int .i64 p.second,.int .i64 p.ty,.int .i64 p.secondTy,.int .i64 p.first,.int .i64 p.secondFirst,.int .u16 0,.int .u16 n] 141)).alloc ob).drew w3 (Value.slice ao WB.length cap).ownBlock)
  (hown:w3.ownsRow (mb+1) 95 1 (.slice a3 (WB.length+1) c3) (WB.length+1) (WB.map (fun p=>ptr p.1)++[ptr (w1.heap.size+1)]))
  (hob:(Value.slice a3 (WB.length+1) c3).ownBlock=(Value.slice ao WB.length cap).ownBlock\/(Value.slice a3 (WB.length+1) c3).ownBlock=some (((w1.alloc (.cells #[.int .i64 p.source,.int .i64 p.second,.int .i64 p.ty,.int .i64 p.secondTy,.int .i64 p.first,.int .i64 p.secondFirst] 39)).alloc (.cells #[.int .i64 p.source,.bool false,.slice none 0 0,.int .i64 (M.last+1),.int .i64 of_,.int .i64 p.source,.int .i64 p.second,.int .i64 p.ty,.int .i64 p.secondTy,.int .i64 p.first,.int .i64 p.secondFirst,.int .u16 0,.int .u16 n] 141)).alloc ob).drew.heap.size) :
  Moved w1 (w3.setCell ⟨mb,19,none⟩ (.slice a3 (WB.length+1) c3)) ρ mb { M with wns:=M.wns++[newW (M.last+1) of_ p n],last:=M.last+1 }:=by
 have hneM:(Value.slice ao WB.length cap).ownBlock≠some mb:=fun e=>by have:=h.rw mb e;rw[h.rm]at this;cases this
 have hobl:∀b,(Value.slice ao WB.length cap).ownBlock=some b->b<w1.heap.size:=fun b hb=>(h.wr.lt b hb).2
 have hlt:=h.lt
 have hsA:(w1.alloc (.cells #[.int .i64 p.source,.int .i64 p.second,.int .i64 p.ty,.int .i64 p.secondTy,.int .i64 p.first,.int .i64 p.secondFirst] 39)).heap.size=w1.heap.size+1:=by simp
 have hcA:Chg (fun b=>(Value.slice ao WB.length cap).ownBlock=some b) ((w1.alloc (.cells #[.int .i64 p.source,.int .i64 p.second,.int .i64 p.ty,.int .i64 p.secondTy,.int .i64 p.first,.int .i64 p.secondFirst] 39)).alloc (.cells #[.int .i64 p.source,.bool false,.slice none 0 0,.int .i64 (M.last+1),.int .i64 of_,.int .i64 p.source,.int .i64 p.second,.int .i64 p.ty,.int .i64 p.secondTy,.int .i64 p.first,.int .i64 p.secondFirst,.int .u16 0,.int .u16 n] 141)) w3:=Chg.ofGrown (((World.grownBy_alloc _ _ _).trans (World.grownBy_drewX _ _)).trans hg)
 have hc1:Chg (fun b=>(Value.slice ao WB.length cap).ownBlock=some b) w1 w3:=Chg.ofGrown (((((World.grownBy_alloc _ _ _).trans (World.grownBy_alloc _ _ _)).trans (World.grownBy_alloc _ _ _)).trans (World.grownBy_drewX _ _)).trans hg)
 have hcS:Chg (fun b=>b=mb) w3 (w3.setCell ⟨mb,19,none⟩ (.slice a3 (WB.length+1) c3)):=(Chg.refl (fun b=>b=mb) _).setCell ⟨mb,19,none⟩ (.inl rfl) _
 have hcA':Chg (fun b=>b=mb\/(Value.slice ao WB.length cap).ownBlock=some b) ((w1.alloc (.cells #[.int .i64 p.source,.int .i64 p.second,.int .i64 p.ty,.int .i64 p.secondTy,.int .i64 p.first,.int .i64 p.secondFirst] 39)).alloc (.cells #[.int .i64 p.source,.bool false,.slice none 0 0,.int .i64 (M.last+1),.int .i64 of_,.int .i64 p.source,.int .i64 p.second,.int .i64 p.ty,.int .i64 p.secondTy,.int .i64 p.first,.int .i64 p.secondFirst,.int .u16 0,.int .u16 n] 141)) (w3.setCell ⟨mb,19,none⟩ (.slice a3 (WB.length+1) c3)):=(hcA.mono (fun _ _ e=>.inr e)).trans hcS (fun _ _ e=>.inl e)
 have hc':Chg (fun b=>b=mb\/(Value.slice ao WB.length cap).ownBlock=some b) w1 (w3.setCell ⟨mb,19,none⟩ (.slice a3 (WB.length+1) c3)):=(hc1.mono (fun _ _ e=>.inr e)).trans hcS (fun _ _ e=>.inl e)
 have hnT:¬(w1.heap.size+1=mb\/(Value.slice ao WB.length cap).ownBlock=some (w1.heap.size+1)):=by
  rintro(e|e)
  ·omega
  ·have:=hobl _ e;omega
 have hsz:(((w1.alloc (.cells #[.int .i64 p.source,.int .i64 p.second,.int .i64 p.ty,.int .i64 p.secondTy,.int .i64 p.first,.int .i64 p.secondFirst] 39)).alloc (.cells #[.int .i64 p.source,.bool false,.slice none 0 0,.int .i64 (M.last+1),.int .i64 of_,.int .i64 p.source,.int .i64 p.second,.int .i64 p.ty,.int .i64 p.secondTy,.int .i64 p.first,.int .i64 p.secondFirst,.int .u16 0,.int .u16 n] 141)).alloc ob).drew.heap.size=w1.heap.size+1+1+1:=by simp
 have hne3:(Value.slice a3 (WB.length+1) c3).ownBlock≠some mb:=fun e=>by
  have:=(hown.lt mb e).1
  omega
 have nc:∀o u,(#[.int .i64 p.source,.bool false,.slice none 0 0,.int .i64 (M.last+1),.int .i64 of_,.int .i64 p.source,.int .i64 p.second,.int .i64 p.ty,.int .i64 p.secondTy,.int .i64 p.first,.int .i64 p.secondFirst,.int .u16 0,.int .u16 n]:Array Value)[o]? = some u->(w3.setCell ⟨mb,19,none⟩ (.slice a3 (WB.length+1) c3)).cell? ⟨w1.heap.size+1,o,none⟩=some u:=fun o u hu=>hcA'.cell (p:=⟨w1.heap.size+1,o,none⟩) (by
  have:=cell_new (w1.alloc (.cells #[.int .i64 p.source,.int .i64 p.second,.int .i64 p.ty,.int .i64 p.secondTy,.int .i64 p.first,.int .i64 p.secondFirst] 39)) #[.int .i64 p.source,.bool false,.slice none 0 0,.int .i64 (M.last+1),.int .i64 of_,.int .i64 p.source,.int .i64 p.second,.int .i64 p.ty,.int .i64 p.secondTy,.int .i64 p.first,.int .i64 p.secondFirst,.int .u16 0,.int .u16 n] 141 o
  rw[hsA]at this
  exact this.trans hu) hnT
 have hh:=MdAt.addW (wb:=w1.heap.size+1) (wv':=.slice a3 (WB.length+1) c3) (x:=newW (M.last+1) of_ p n) (last:=M.last+1) h hc'
 refine Moved.mk (hh ?_ ?_ ?_ ?_ rfl (by omega) ?_ ?_)
 ·exact mdV_set 19 _ h.k (fun o=>World.cell?_of_block (hc1.block mb hlt hneM)) (by omega) rfl
 ·intro o
  rw[World.frozen?_setCell]
  exact(hc1.frozen (p:=⟨mb,o,none⟩) hlt hneM).trans (h.fz o)
 ·exact rowA_chg hcS hown (fun y hy e=>hne3 (e▸hy))
 ·refine⟨nc 0 _ rfl,nc 1 _ rfl,nc 2 _ rfl,nc 3 _ rfl,nc 4 _ rfl,nc 5 _ rfl,nc 6 _ rfl,nc 7 _ rfl,nc 8 _ rfl,nc 9 _ rfl,nc 10 _ rfl,nc 11 _ rfl,nc 12 _ rfl,fun o=>(hcA'.frozen (p:=⟨w1.heap.size+1,o,none⟩) (by simp) hnT).trans (by
   have:=frozen_new (w1.alloc (.cells #[.int .i64 p.source,.int .i64 p.second,.int .i64 p.ty,.int .i64 p.secondTy,.int .i64 p.first,.int .i64 p.secondFirst] 39)) #[.int .i64 p.source,.bool false,.slice none 0 0,.int .i64 (M.last+1),.int .i64 of_,.int .i64 p.source,.int .i64 p.second,.int .i64 p.ty,.int .i64 p.secondTy,.int .i64 p.first,.int .i64 p.secondFirst,.int .u16 0,.int .u16 n] 141 o
   rw[hsA]at this
   exact this),World.ownsRow_nil _ _ _ _,by omega,fun k hk=>(by cases hk),fun e=>e,fun _ _ e=>e⟩
 ·intro b hb
  rcases hob with e|e
  ·rw[e]at hb
   have:=hobl b hb
   exact⟨.inl hb,by omega⟩
  ·rw[e,hsz]at hb
   cases hb
   exact⟨.inr (by omega),by omega⟩
 ·intro y hy
  have h1:=hids y hy
  show y.id.toNat≠(M.last+1).toNat
  omega
end Pk
open Pk
theorem addWant_any (ρ:Nat->Nat) (mb:Nat) (M:Md) (sv wv:Value) (SB WB:List (Nat × Value)) (of_:Int) (p:Plan) (w:World) (h:MdAt w ρ mb M sv wv SB WB) (h8:M.wns.length<=8) (hids:∀y∈M.wns,0<y.id/\y.id<=M.last) (hlast:0<=M.last) (hlast2:M.last<=1000000000000) :
  Calls Tryz.prog 17 #[.pointer (some ⟨mb,0,none⟩),.int .i64 of_,.agg #[.int .i64 p.source,.int .i64 p.second,.int .i64 p.ty,.int .i64 p.secondTy,.int .i64 p.first,.int .i64 p.secondFirst]] w fun e w'=>e = .returned (.tuple #[.int .i64 (addWM M of_ p).2.1,.int .i64 (addWM M of_ p).2.2])/\Moved w w' ρ mb (addWM M of_ p).1:=by
 obtain⟨ao,cap,rfl⟩:=rowA_shape h.wr
 have H:=hyd h
 have Hids:=hyd hids
 have hlt:=h.lt
 have hbx:mb≠w.heap.size:=by omega
 clear h hids
 go_enter Tryz.func17,Tryz.ntmps17
 go_wp2_with fail
 refine(orNone_any mb _).mono ?_
 rintro e w1 ⟨rfl,hw1⟩
 rw[hw1]
 clear hw1
 have Hb0:Hid (Below w.heap.size w (w.alloc (.cells #[.int .i64 p.source,.int .i64 p.second,.int .i64 p.ty,.int .i64 p.secondTy,.int .i64 p.first,.int .i64 p.secondFirst] 39))):=(Below.refl _ _).alloc (Nat.le_refl _) _
 have H0:Hid (MdAt (w.alloc (.cells #[.int .i64 p.source,.int .i64 p.second,.int .i64 p.ty,.int .i64 p.secondTy,.int .i64 p.first,.int .i64 p.secondFirst] 39)) ρ mb M sv (.slice ao WB.length cap) SB WB):=H.out.below Hb0.out
 have HP0:Hid (PlAt w.heap.size p (w.alloc (.cells #[.int .i64 p.source,.int .i64 p.second,.int .i64 p.ty,.int .i64 p.secondTy,.int .i64 p.first,.int .i64 p.secondFirst] 39))):=⟨cell_new _ _ _ 0,cell_new _ _ _ 1,cell_new _ _ _ 2,cell_new _ _ _ 3,cell_new _ _ _ 4,cell_new _ _ _ 5⟩
 generalize w.alloc (.cells #[.int .i64 p.source,.int .i64 p.second,.int .i64 p.ty,.int .i64 p.secondTy,.int .i64 p.first,.int .i64 p.secondFirst] 39)=wA at *
 go_wp2_with fail
 refine(sender_any ρ mb M sv _ SB WB of_ _ H0.out).mono ?_
 rintro e w1 ⟨hw1,⟨hn,rfl⟩|⟨i,pp,s,hi,h1,h2,h3,rfl⟩⟩
 ·rw[hw1]
  have HA:Hid (addWM M of_ p=(M,0,4)):=by show _=_;unfold addWM;rw[if_pos hn]
  clear hn hw1
  go_wp2
  go_ret2
  rw[HA.out]
  exact⟨rfl,Moved.same H.out Hb0.out⟩
 rw[hw1]
 have Hsn:Hid (¬sndPos M of_=none):=fun e=>by rw[hi]at e;cases e
 unfold ptr
 clear hi h1 h2 h3 hw1
 obtain⟨q0,q1,q2,q3,q4,q5⟩:=HP0.out
 go_wp2_with fail
 refine(wantFits_any p _).mono ?_
 rintro e w1 ⟨rfl,hb1⟩
 have Hb1:Hid (Below w.heap.size w w1):=Hb0.out.trans (hb1.mono Hb0.out.size)
 have H1:Hid (MdAt w1 ρ mb M sv (.slice ao WB.length cap) SB WB):=H0.out.below hb1
 have HP1:Hid (PlAt w.heap.size p w1):=PlAt.below HP0.out hb1
 clear hb1 H0 HP0 Hb0 q0 q1 q2 q3 q4 q5
 cases hpl:plOk p with
 | false=>
  have HA:Hid (addWM M of_ p=(M,0,2)):=by show _=_;unfold addWM;rw[if_neg Hsn.out,if_pos hpl]
  clear hpl
  go_wp2
  go_ret2
  rw[HA.out]
  exact⟨rfl,Moved.same H.out Hb1.out⟩
 | true=>
 have Hpl:=hyd hpl
 obtain⟨n,hn0,hn⟩:∃n:Nat,p.secondFirst=n/\n<65536:=by
  unfold plOk at hpl
  have h:=of_decide_eq_true hpl
  exact⟨p.secondFirst.toNat,by omega,by omega⟩
 have Hn:Hid (p.secondFirst.toNat=n):=by show _=_;omega
 have Hn0:=hyd hn0
 clear hpl hn0
 obtain⟨q0,q1,-⟩:=HP1.out
 go_wp2_with fail
 refine(knows_any ρ mb M _ _ SB WB p.source _ H1.out h8).mono ?_
 rintro e w2 ⟨rfl,hb2⟩
 have Hb2:Hid (Below w.heap.size w w2):=Hb1.out.trans (hb2.mono Hb1.out.size)
 have H2:Hid (MdAt w2 ρ mb M sv (.slice ao WB.length cap) SB WB):=H1.out.below hb2
 have HP2:Hid (PlAt w.heap.size p w2):=PlAt.below HP1.out hb2
 clear hb2 H1 HP1 Hb1 q0 q1
 cases hk:knowsF M p.source with
 | true=>
  have HA:Hid (addWM M of_ p=(M,0,3)):=by show _=_;unfold addWM;rw[if_neg Hsn.out,if_neg (by rw[Hpl.out];decide),if_pos (by rw[hk];rfl)]
  clear hk
  go_wp2
  go_ret2
  rw[HA.out]
  exact⟨rfl,Moved.same H.out Hb2.out⟩
 | false=>
 have Hk1:=hyd hk
 clear hk
 obtain⟨q0,q1,-⟩:=HP2.out
 go_wp2_with fail
 refine(knows_any ρ mb M _ _ SB WB p.second _ H2.out h8).mono ?_
 rintro e w3 ⟨rfl,hb3⟩
 have Hb3:Hid (Below w.heap.size w w3):=Hb2.out.trans (hb3.mono Hb2.out.size)
 have H3':Hid (MdAt w3 ρ mb M sv (.slice ao WB.length cap) SB WB):=H2.out.below hb3
 have HP3:Hid (PlAt w.heap.size p w3):=PlAt.below HP2.out hb3
 clear hb3 H2 HP2 Hb2 q0 q1
 cases hk:knowsF M p.second with
 | true=>
  have HA:Hid (addWM M of_ p=(M,0,3)):=by show _=_;unfold addWM;rw[if_neg Hsn.out,if_neg (by rw[Hpl.out];decide),if_pos (by rw[hk,Hk1.out];rfl)]
  clear hk
  go_wp2
  go_ret2
  rw[HA.out]
  exact⟨rfl,Moved.same H.out Hb3.out⟩
 | false=>
 have y19:w3.cell? ⟨mb,19,none⟩=some (.slice ao WB.length cap):=H3'.out.k 19 _ rfl
 by_cases h4:8<=WB.length
 ·have h4':(8:Int)<=WB.length:=by omega
  have HA:Hid (addWM M of_ p=(M,0,5)):=by show _=_;unfold addWM;rw[if_neg Hsn.out,if_neg (by rw[Hpl.out];decide),if_neg (by rw[hk,Hk1.out];decide),if_pos (by rw[<-H.out.wl];exact h4)]
  clear hk
  go_wp2
  go_ret2
  rw[HA.out]
  exact⟨rfl,Moved.same H.out Hb3.out⟩
 have h4':¬(8:Int)<=WB.length:=by omega
 have HA:Hid (addWM M of_ p=({ M with wns:=M.wns++[newW (M.last+1) of_ p n],last:=M.last+1 },M.last+1,0)):=by show _=_;unfold addWM;rw[if_neg Hsn.out,if_neg (by rw[Hpl.out];decide),if_neg (by rw[hk,Hk1.out];decide),if_neg (by rw[<-H.out.wl];exact h4),Hn.out]
 clear hk
 obtain⟨i0,hi0,hz0,hz1,hz2⟩:=info_parts infoW
 have Hi:Hid (Tryz.prog.info? 95=some i0/\i0.zero=_/\i0.size=1/\i0.bytes=8):=⟨hi0,hz0,hz1,hz2⟩
 clear hi0 hz0 hz1 hz2
 have hw1:IntKind.i64.wrap (M.last+1)=M.last+1:=i64_id _ (by omega) (by omega)
 have y20:w3.cell? ⟨mb,20,none⟩=some (.int .i64 M.last):=H3'.out.k 20 _ rfl
 have yf0:∀o,w3.frozen? ⟨mb,o,none⟩=false:=H3'.out.fz
 have hcm:Chg (fun b=>b=mb) w3 (w3.setCell ⟨mb,20,none⟩ (.int .i64 (M.last+1))):=(Chg.refl (fun b=>b=mb) _).setCell ⟨mb,20,none⟩ (.inl rfl) _
 have HM0:Hid (Chg (fun b=>ρ b≠0) w3 (w3.setCell ⟨mb,20,none⟩ (.int .i64 (M.last+1)))):=hcm.mono (fun y _ e=>by rw[e,H3'.out.rm];decide)
 have H3:Hid (MdAt (w3.setCell ⟨mb,20,none⟩ (.int .i64 (M.last+1))) ρ mb { M with last:=M.last+1 } sv (.slice ao WB.length cap) SB WB):=H3'.out.own hcm (mdV_set 20 _ H3'.out.k (fun _=>rfl) (by omega) rfl) (fun o=>by rw[World.frozen?_setCell];exact yf0 o) rfl rfl rfl rfl
 have HP4:Hid (PlAt w.heap.size p (w3.setCell ⟨mb,20,none⟩ (.int .i64 (M.last+1)))):=PlAt.chg HP3.out hcm (fun e=>hbx e.symm)
 have hs1:mb<(w3.setCell ⟨mb,20,none⟩ (.int .i64 (M.last+1))).heap.size:=H3.out.lt
 clear hcm
 go_wp2
 have HS:Hid (PlS mb w.heap.size (M.last+1) p (w3.setCell ⟨mb,20,none⟩ (.int .i64 (M.last+1)))):=⟨H3.out.k 20 _ rfl,HP4.out⟩
 have hneM:(Value.slice ao WB.length cap).ownBlock≠some mb:=fun e=>by have:=H3.out.rw mb e;rw[H3.out.rm]at this;cases this
 have hneB:(Value.slice ao WB.length cap).ownBlock≠some w.heap.size:=fun e=>by have:=(H.out.wr.lt _ e).2;omega
 clear y19 y20 yf0
 have y19:(w3.setCell ⟨mb,20,none⟩ (.int .i64 (M.last+1))).cell? ⟨mb,19,none⟩=some (.slice ao WB.length cap):=H3.out.k 19 _ rfl
 have yf:∀o,(w3.setCell ⟨mb,20,none⟩ (.int .i64 (M.last+1))).frozen? ⟨mb,o,none⟩=false:=H3.out.fz
 clear H3' HP3 HP4
 generalize w3.setCell ⟨mb,20,none⟩ (.int .i64 (M.last+1))=W0 at *
 refine wp_region_noPanic ?_
 refine wp_region_held_drew (S:=PlS mb w.heap.size (M.last+1) p) (by kernel_rfl) HS.out (fun zH=>?_)
 refine tka 0 ?_
 refine tka 1 ?_
 refine tka 2 ?_
 refine tka 3 ?_
 refine tka 5 ?_
 refine tka 6 ?_
 refine tka 7 ?_
 refine tka 8 ?_
 refine tka 9 ?_
 refine tka 10 ?_
 refine wpAnyH_ready (rs:=[4,11]) (by kernel_rfl) (by simp) ?_
 refine AllReadyH.cons rfl (fun K hK=>?_) (AllReadyH.cons rfl (fun K hK=>?_) AllReadyH.nil)
 focus
  go_simp
  refine hK.out _ _ zH (fun zH=>?_)
  clear hK K
  refine rd1 11 fun K hK=>?_
  go_simp
  refine(newWant_any (M.last+1) of_ p n _ Hn0.out hn).mono ?_
  rintro e w2 ⟨rfl,hw2⟩
  rw[hw2]
  clear hw2
  unfold ptr
  go_simp
  refine hK.out _ _ (PlS.below zH (((Below.refl _ _).alloc (Nat.le_refl _) _).alloc (by simp) _)) (fun zH=>?_)
  clear hK K
  refine rd1 12 fun K hK=>?_
  go_simp
  refine hK.out _ _ (PlS.below zH ((Below.refl _ _).alloc (Nat.le_refl _) _)) (fun zH=>?_)
  clear hK K
 rotate_left
 focus
  go_simp
  refine(newWant_any (M.last+1) of_ p n _ Hn0.out hn).mono ?_
  rintro e w2 ⟨rfl,hw2⟩
  rw[hw2]
  clear hw2
  unfold ptr
  go_simp
  refine hK.out _ _ (PlS.below zH (((Below.refl _ _).alloc (Nat.le_refl _) _).alloc (by simp) _)) (fun zH=>?_)
  clear hK K
  refine wpAnyH_ready (rs:=[4,12]) (by kernel_rfl) (by simp) ?_
  refine AllReadyH.cons rfl (fun K hK=>?_) (AllReadyH.cons rfl (fun K hK=>?_) AllReadyH.nil)
  focus
   go_simp
   refine hK.out _ _ zH (fun zH=>?_)
   clear hK K
   refine rd1 12 fun K hK=>?_
   go_simp
   refine hK.out _ _ (PlS.below zH ((Below.refl _ _).alloc (Nat.le_refl _) _)) (fun zH=>?_)
   clear hK K
  rotate_left
  focus
   go_simp
   refine hK.out _ _ (PlS.below zH ((Below.refl _ _).alloc (Nat.le_refl _) _)) (fun zH=>?_)
   clear hK K
   refine rd1 4 fun K hK=>?_
   have y19c:∀o1 o2 o3,(((W0.alloc o1).alloc o2).alloc o3).cell? ⟨mb,19,none⟩=some (.slice ao WB.length cap):=fun o1 o2 o3=>(World.cell?_alloc_lt _ _ _ (by simp;omega)).trans ((World.cell?_alloc_lt _ _ _ (by simp;omega)).trans ((World.cell?_alloc_lt _ _ _ hs1).trans y19))
   go_simp
   refine hK.out _ _ zH (fun zH=>?_)
   clear hK K
   clear y19c
 all_goals
  refine rd1 13 fun K hK=>?_
  rw[if_pos (by rfl)]
  refine wp_append_at (.tmp 48) (.tmp 56) 85 rfl (mb+1) 95 i0 _ 1 8 Tryz.underlying85 Hi.out.1 Hi.out.2.1 Hi.out.2.2.1 Hi.out.2.2.2 rfl (by decide) (.slice ao WB.length cap) WB.length (WB.map fun p=>ptr p.1) (by rfl) (World.ownsRow.drew (World.ownsRow.alloc (World.ownsRow.alloc (World.ownsRow.alloc H3.out.wr _) _) _)) _ 1 1 [ptr (W0.heap.size+1)] (by rfl) rfl (cells_newAt _ [ptr (W0.heap.size+1)] _ _ (by simp)) ?_ (by unfold maxLen;omega) (by omega) (by simp;omega) ?_
  ·intro u hu
   simp at hu
   subst hu
   rfl
  intro v' w3 hown' hgrow hob
  obtain⟨a3,c3,rfl⟩:=rowA_shape hown'
  have hc3:Chg (fun x=>(Value.slice ao WB.length cap).ownBlock=some x) W0 w3:=Chg.ofGrown (((((World.grownBy_alloc _ _ _).trans (World.grownBy_alloc _ _ _)).trans (World.grownBy_alloc _ _ _)).trans (World.grownBy_drewX _ _)).trans hgrow)
  have z19:w3.cell? ⟨mb,19,none⟩=some (.slice ao WB.length cap):=hc3.cell y19 hneM
  have zS:PlS mb w.heap.size (M.last+1) p w3:=PlS.chg HS.out hc3 hneM hneB
  have zf:∀o,w3.frozen? ⟨mb,o,none⟩=false:=fun o=>(hc3.frozen (p:=⟨mb,o,none⟩) hs1 hneM).trans (yf o)
  have HM:Hid (Moved W0 (w3.setCell ⟨mb,19,none⟩ (.slice a3 (WB.length+1) c3)) ρ mb { M with wns:=M.wns++[newW (M.last+1) of_ p n],last:=M.last+1 }):=Moved.addW H3.out Hids.out hlast _ hgrow hown' hob
  refine hK.out _ _ zS (fun zH=>?_)
  clear hK K hown' hgrow hob hc3 y19 yf
  refine tka 14 ?_
  refine tka 15 ?_
  refine rd1 16 fun K hK=>?_
  go_simp
  have zS':PlS mb w.heap.size (M.last+1) p (w3.setCell ⟨mb,19,none⟩ (.slice a3 (WB.length+1) c3)):=PlS.set19 zS hbx _
  refine hK.out _ _ zS' (fun zH=>?_)
  clear hK K
  refine doN ?_
  have z20:=zS'.1
  generalize hW4:w3.setCell ⟨mb,19,none⟩ (.slice a3 (WB.length+1) c3)=W4 at *
  clear hW4 z19 zf zS zS'
  go_wp2
  go_ret2
  rw[HA.out]
  exact⟨rfl,Moved.before Hb3.out (Moved.then0 HM0.out HM.out)⟩
end Go.Proofs.YtdjhhnolcafkiaaGreat
namespace Go.Proofs.YtdjhhnolcafkiaaGreat
open Go.RowKit
namespace Pk
def rNewW (id of_:Int) (p:Plan):Rw:=⟨id,of_,p,.slice none 0 0,[],0,0⟩
def rAddW (R:Rm) (of_:Int) (p:Plan):Rm × Int × Int:=
 if rsPos R of_=none then(R,0,4)else if plOk p=false then(R,0,2)else if(rKnown R p.source || rKnown R p.second)=true then(R,0,3)else if 8<=R.wns.length then(R,0,5)else({ R with wns:=R.wns++[rNewW (R.ids+1) of_ p],ids:=R.ids+1 },R.ids+1,0)
theorem want_info:(Tryz.prog.info? 99).map (fun i=>(i.zero,i.size,i.bytes))=some (some (.agg #[.int .i64 0,.int .i64 0,.int .i64 0,.int .i64 0,.int .i64 0,.int .i64 0,.int .i64 0,.int .i64 0,.slice none 0 0,.int .i64 0,.int .i64 0]),11,104):=by kernel_rfl
theorem rfix {w W:World}{ρ:Nat->Nat}{rb:Nat}{R:Rm}{sv wv:Value}(h:RdAt w ρ rb R sv wv) (hb:Below w.heap.size w W):∃ρ' sv' wv',RdAt W ρ' rb R sv' wv'/\RMv w ρ W ρ':=⟨ρ,sv,wv,h.below hb,RMv.below hb⟩
end Pk
open Pk
theorem refAddWant_any (ρ:Nat->Nat) (rb:Nat) (R:Rm) (sv wv:Value) (of_:Int) (p:Plan) (w:World) (h:RdAt w ρ rb R sv wv) (hids:0<=R.ids/\R.ids<=1000000000000) (hfr:∀y∈R.wns,y.id.toNat≠(R.ids+1).toNat) :
  Calls Tryz.prog 18 #[.pointer (some ⟨rb,0,none⟩),.int .i64 of_,.agg #[.int .i64 p.source,.int .i64 p.second,.int .i64 p.ty,.int .i64 p.secondTy,.int .i64 p.first,.int .i64 p.secondFirst]] w fun e w'=>e = .returned (.tuple #[.int .i64 (rAddW R of_ p).2.1,.int .i64 (rAddW R of_ p).2.2])/\∃ρ' sv' wv',RdAt w' ρ' rb (rAddW R of_ p).1 sv' wv'/\RMv w ρ w' ρ':=by
 obtain⟨ao,cap,rfl⟩:=rowA_shape h.wr.1
 have H:Hid (RdAt w ρ rb R sv (.slice ao R.wns.length cap)):=h
 have Hfr:Hid (∀y∈R.wns,y.id.toNat≠(R.ids+1).toNat):=hfr
 have hlt:=h.lt
 have hw8:=h.w8
 clear h hfr
 obtain⟨X,hX⟩:∃X,rAddW R of_ p=X:=⟨_,rfl⟩
 have HX:Hid (rAddW R of_ p=X):=hX
 rw[hX]
 clear hX
 have hbx:rb≠w.heap.size:=by omega
 have Hb0:Hid (Below w.heap.size w (w.alloc (.cells #[.int .i64 p.source,.int .i64 p.second,.int .i64 p.ty,.int .i64 p.secondTy,.int .i64 p.first,.int .i64 p.secondFirst] 39))):=(Below.refl _ _).alloc (Nat.le_refl _) _
 have HP0:Hid (PlAt w.heap.size p (w.alloc (.cells #[.int .i64 p.source,.int .i64 p.second,.int .i64 p.ty,.int .i64 p.secondTy,.int .i64 p.first,.int .i64 p.secondFirst] 39))):=⟨cell_new _ _ _ 0,cell_new _ _ _ 1,cell_new _ _ _ 2,cell_new _ _ _ 3,cell_new _ _ _ 4,cell_new _ _ _ 5⟩
 have H0:Hid (RdAt (w.alloc (.cells #[.int .i64 p.source,.int .i64 p.second,.int .i64 p.ty,.int .i64 p.secondTy,.int .i64 p.first,.int .i64 p.secondFirst] 39)) ρ rb R sv (.slice ao R.wns.length cap)):=H.out.below Hb0.out
 go_enter Tryz.func18,Tryz.ntmps18
 go_wp2_with fail
 refine(refSender_any ρ rb R sv _ of_ _ H0.out).mono ?_
 rintro e w1 ⟨rfl,hw1⟩
 rw[hw1]
 clear hw1
 obtain⟨q0,q1,q2,q3,q4,q5⟩:=HP0.out
 generalize w.alloc (.cells #[.int .i64 p.source,.int .i64 p.second,.int .i64 p.ty,.int .i64 p.secondTy,.int .i64 p.first,.int .i64 p.secondFirst] 39)=W1 at *
 cases hp:rsPos R of_ with
 | none=>
  have E:Hid (X=(R,0,4)):=by show _=_;rw[<-HX.out];unfold rAddW;rw[if_pos hp]
  clear hp
  unfold optI
  go_wp2
  go_ret2
  exact⟨by rw[E.out];rfl,by rw[E.out];exact rfix H.out Hb0.out⟩
 | some i=>
 have Hsn:Hid (¬rsPos R of_=none):=fun e=>by rw[hp]at e;cases e
 clear hp
 unfold optI
 have hi0:¬(i:Int)<0:=by omega
 go_wp2_with fail
 refine(refIn_any _ _ _).mono ?_;rintro e w' ⟨rfl,hw'⟩;rw[hw'];clear hw' w'
 obtain⟨b1,hb1⟩:∃b,decide (0<=p.source/\p.source<=4294967295)=b:=⟨_,rfl⟩
 rw[hb1]
 have H1:Hid (decide (0<=p.source/\p.source<=4294967295)=b1):=hb1
 clear hb1
 go_wp2_with fail
 refine(refIn_any _ _ _).mono ?_;rintro e w' ⟨rfl,hw'⟩;rw[hw'];clear hw' w'
 obtain⟨b2,hb1⟩:∃b,decide (0<=p.second/\p.second<=4294967295)=b:=⟨_,rfl⟩
 rw[hb1]
 have H2:Hid (decide (0<=p.second/\p.second<=4294967295)=b2):=hb1
 clear hb1
 go_wp2_with fail
 refine(refIn_any _ _ _).mono ?_;rintro e w' ⟨rfl,hw'⟩;rw[hw'];clear hw' w'
 obtain⟨b3,hb1⟩:∃b,decide (0<=p.ty/\p.ty<=127)=b:=⟨_,rfl⟩
 rw[hb1]
 have H3:Hid (decide (0<=p.ty/\p.ty<=127)=b3):=hb1
 clear hb1
 go_wp2_with fail
 refine(refIn_any _ _ _).mono ?_;rintro e w' ⟨rfl,hw'⟩;rw[hw'];clear hw' w'
 obtain⟨b4,hb1⟩:∃b,decide (0<=p.secondTy/\p.secondTy<=127)=b:=⟨_,rfl⟩
 rw[hb1]
 have H4:Hid (decide (0<=p.secondTy/\p.secondTy<=127)=b4):=hb1
 clear hb1
 go_wp2_with fail
 refine(refIn_any _ _ _).mono ?_;rintro e w' ⟨rfl,hw'⟩;rw[hw'];clear hw' w'
 obtain⟨b5,hb1⟩:∃b,decide (0<=p.first/\p.first<=65535)=b:=⟨_,rfl⟩
 rw[hb1]
 have H5:Hid (decide (0<=p.first/\p.first<=65535)=b5):=hb1
 clear hb1
 go_wp2_with fail
 refine(refIn_any _ _ _).mono ?_;rintro e w' ⟨rfl,hw'⟩;rw[hw'];clear hw' w'
 obtain⟨b6,hb1⟩:∃b,decide (0<=p.secondFirst/\p.secondFirst<=65535)=b:=⟨_,rfl⟩
 rw[hb1]
 have H6:Hid (decide (0<=p.secondFirst/\p.secondFirst<=65535)=b6):=hb1
 clear hb1
 obtain⟨b7,hb1⟩:∃b,decide (p.source≠p.second)=b:=⟨_,rfl⟩
 have H7:Hid (decide (p.source≠p.second)=b7):=hb1
 have Hok:Hid (plOk p=(b1 && b2 && b3 && b4 && b5 && b6 && b7)):=by
  show _=_
  rw[<-H1.out,<-H2.out,<-H3.out,<-H4.out,<-H5.out,<-H6.out,<-H7.out]
  unfold plOk
  rw[Bool.eq_iff_iff]
  simp only[decide_eq_true_eq,Bool.and_eq_true,and_assoc]
 have Hno:Hid ((b1 && b2 && b3 && b4 && b5 && b6 && b7)=false->X=(R,0,2)):=fun e=>by
  rw[<-HX.out];unfold rAddW;rw[if_neg Hsn.out,if_pos (by rw[Hok.out];exact e)]
 clear H1 H2 H3 H4 H5 H6 hb1
 cases b1 with
 | false=>
  go_wp2
  go_ret2
  exact⟨by rw[Hno.out (by simp)];rfl,by rw[Hno.out (by simp)];exact rfix H.out Hb0.out⟩
 | true=>
 cases b2 with
 | false=>
  go_wp2
  go_ret2
  exact⟨by rw[Hno.out (by simp)];rfl,by rw[Hno.out (by simp)];exact rfix H.out Hb0.out⟩
 | true=>
 cases b3 with
 | false=>
  go_wp2
  go_ret2
  exact⟨by rw[Hno.out (by simp)];rfl,by rw[Hno.out (by simp)];exact rfix H.out Hb0.out⟩
 | true=>
 cases b4 with
 | false=>
  go_wp2
  go_ret2
  exact⟨by rw[Hno.out (by simp)];rfl,by rw[Hno.out (by simp)];exact rfix H.out Hb0.out⟩
 | true=>
 cases b5 with
 | false=>
  go_wp2
  go_ret2
  exact⟨by rw[Hno.out (by simp)];rfl,by rw[Hno.out (by simp)];exact rfix H.out Hb0.out⟩
 | true=>
 cases b6 with
 | false=>
  go_wp2
  go_ret2
  exact⟨by rw[Hno.out (by simp)];rfl,by rw[Hno.out (by simp)];exact rfix H.out Hb0.out⟩
 | true=>
 cases b7 with
 | false=>
  have hne:(p.source == p.second)=true:=by have h:=of_decide_eq_false H7.out;simp at h;simp[h]
  go_wp2
  go_ret2
  exact⟨by rw[Hno.out (by simp)];rfl,by rw[Hno.out (by simp)];exact rfix H.out Hb0.out⟩
 | true=>
 have hne:(p.source == p.second)=false:=by have h:=of_decide_eq_true H7.out;simp[h]
 have Hpl:Hid (¬plOk p=false):=by show ¬_;rw[Hok.out];decide
 clear Hno Hok H7
 go_wp2_with fail
 refine(refKnown_any ρ rb R sv _ p.source _ H0.out).mono ?_
 rintro e w2 ⟨rfl,hw2⟩
 rw[hw2]
 clear hw2
 obtain⟨k1,hk1⟩:∃b,rKnown R p.source=b:=⟨_,rfl⟩
 rw[hk1]
 have Hk1:Hid (rKnown R p.source=k1):=hk1
 clear hk1
 go_wp2_with fail
 refine(refKnown_any ρ rb R sv _ p.second _ H0.out).mono ?_
 rintro e w3 ⟨rfl,hw3⟩
 rw[hw3]
 clear hw3
 obtain⟨k2,hk2⟩:∃b,rKnown R p.second=b:=⟨_,rfl⟩
 rw[hk2]
 have Hkn:Hid ((k1 || k2)=true->X=(R,0,3)):=fun e=>by
  rw[<-HX.out];unfold rAddW;rw[if_neg Hsn.out,if_neg Hpl.out,if_pos (by rw[Hk1.out,hk2];exact e)]
 have Hkk:Hid ((k1 || k2)=false->¬(rKnown R p.source || rKnown R p.second)=true):=fun e=>by rw[Hk1.out,hk2,e];decide
 clear hk2 Hk1
 cases k1 with
 | true=>
  go_wp2
  go_ret2
  exact⟨by rw[Hkn.out (by simp)];rfl,by rw[Hkn.out (by simp)];exact rfix H.out Hb0.out⟩
 | false=>
 cases k2 with
 | true=>
  go_wp2
  go_ret2
  exact⟨by rw[Hkn.out (by simp)];rfl,by rw[Hkn.out (by simp)];exact rfix H.out Hb0.out⟩
 | false=>
 have Hk:Hid (¬(rKnown R p.source || rKnown R p.second)=true):=Hkk.out rfl
 clear Hkn Hkk
 have y19:W1.cell? ⟨rb,19,none⟩=some (.slice ao R.wns.length cap):=H0.out.k 19 _ rfl
 by_cases h8:8<=R.wns.length
 ·have h8':(8:Int)<=R.wns.length:=by omega
  have E:Hid (X=(R,0,5)):=by show _=_;rw[<-HX.out];unfold rAddW;rw[if_neg Hsn.out,if_neg Hpl.out,if_neg Hk.out,if_pos h8]
  go_wp2
  go_ret2
  exact⟨by rw[E.out];rfl,by rw[E.out];exact rfix H.out Hb0.out⟩
 have h8':¬(8:Int)<=R.wns.length:=by omega
 have E:Hid (X=({ R with wns:=R.wns++[rNewW (R.ids+1) of_ p],ids:=R.ids+1 },R.ids+1,0)):=by show _=_;rw[<-HX.out];unfold rAddW;rw[if_neg Hsn.out,if_neg Hpl.out,if_neg Hk.out,if_neg h8]
 obtain⟨i0,hi,hz0,hz1,hz2⟩:=info_parts want_info
 have Hi:Hid (Tryz.prog.info? 99=some i0/\i0.zero=some (.agg #[.int .i64 0,.int .i64 0,.int .i64 0,.int .i64 0,.int .i64 0,.int .i64 0,.int .i64 0,.int .i64 0,.slice none 0 0,.int .i64 0,.int .i64 0])/\i0.size=11/\i0.bytes=104):=⟨hi,hz0,hz1,hz2⟩
 clear hi hz0 hz1 hz2
 have hw1:IntKind.i64.wrap (R.ids+1)=R.ids+1:=i64_id _ (by omega) (by omega)
 have y20:W1.cell? ⟨rb,20,none⟩=some (.int .i64 R.ids):=H0.out.k 20 _ rfl
 have yf0:∀o,W1.frozen? ⟨rb,o,none⟩=false:=H0.out.fz
 have hcm:Chg (fun b=>b=rb) W1 (W1.setCell ⟨rb,20,none⟩ (.int .i64 (R.ids+1))):=(Chg.refl (fun b=>b=rb) _).setCell ⟨rb,20,none⟩ (.inl rfl) _
 have H3:Hid (RdAt (W1.setCell ⟨rb,20,none⟩ (.int .i64 (R.ids+1))) ρ rb { R with ids:=R.ids+1 } sv (.slice ao R.wns.length cap)):=H0.out.put 20 _ rfl rfl rfl
 have HM0:Hid (RMv w ρ (W1.setCell ⟨rb,20,none⟩ (.int .i64 (R.ids+1))) ρ):=(RMv.below Hb0.out).trans ⟨fun _ _ e=>e,hcm.mono (fun y _ e=>by rw[e,H0.out.rm];decide)⟩
 have HP4:Hid (PlAt w.heap.size p (W1.setCell ⟨rb,20,none⟩ (.int .i64 (R.ids+1)))):=PlAt.chg HP0.out hcm (fun e=>hbx e.symm)
 clear hcm q0 q1 q2 q3 q4 q5 H0 HP0
 go_wp2
 have HS:Hid (PlS rb w.heap.size (R.ids+1) p (W1.setCell ⟨rb,20,none⟩ (.int .i64 (R.ids+1)))):=⟨H3.out.k 20 _ rfl,HP4.out⟩
 have hneM:(Value.slice ao R.wns.length cap).ownBlock≠some rb:=fun e=>by have:=H3.out.wr.2 rb e;rw[H3.out.rm]at this;cases this
 have hneB:(Value.slice ao R.wns.length cap).ownBlock≠some w.heap.size:=fun e=>by have:=(H.out.wr.1.lt _ e).2;omega
 clear y19 y20 yf0 HP4
 have y19:(W1.setCell ⟨rb,20,none⟩ (.int .i64 (R.ids+1))).cell? ⟨rb,19,none⟩=some (.slice ao R.wns.length cap):=H3.out.k 19 _ rfl
 have yf:∀o,(W1.setCell ⟨rb,20,none⟩ (.int .i64 (R.ids+1))).frozen? ⟨rb,o,none⟩=false:=H3.out.fz
 have hs1:rb<(W1.setCell ⟨rb,20,none⟩ (.int .i64 (R.ids+1))).heap.size:=H3.out.lt
 generalize W1.setCell ⟨rb,20,none⟩ (.int .i64 (R.ids+1))=W0 at *
 refine wp_region_noPanic ?_
 refine wp_region_held_drew (S:=PlS rb w.heap.size (R.ids+1) p) (by kernel_rfl) HS.out (fun zH=>?_)
 refine tka 0 ?_
 refine tka 1 ?_
 refine tka 2 ?_
 refine tka 3 ?_
 refine tka 5 ?_
 refine tka 6 ?_
 refine tka 7 ?_
 refine tka 8 ?_
 refine tka 9 ?_
 refine tka 10 ?_
 refine tka 11 ?_
 refine wpAnyH_ready (rs:=[4,12]) (by kernel_rfl) (by simp) ?_
 refine AllReadyH.cons rfl (fun K hK=>?_) (AllReadyH.cons rfl (fun K hK=>?_) AllReadyH.nil)
 focus
  go_simp
  refine hK.out _ _ zH (fun zH=>?_)
  clear hK K
  refine rd1 12 fun K hK=>?_
  go_simp
  refine hK.out _ _ (PlS.below zH ((Below.refl _ _).alloc (Nat.le_refl _) _)) (fun zH=>?_)
 rotate_left
 focus
  go_simp
  refine hK.out _ _ (PlS.below zH ((Below.refl _ _).alloc (Nat.le_refl _) _)) (fun zH=>?_)
  clear hK K
  refine rd1 4 fun K hK=>?_
  go_simp
  refine hK.out _ _ zH (fun zH=>?_)
 all_goals
  clear hK K
  refine rd1 13 fun K hK=>?_
  rw[if_pos (by rfl)]
  refine wp_append_at (.tmp 96) (.tmp 104) 51 rfl 0 99 i0 _ 11 104 Tryz.underlying51 Hi.out.1 Hi.out.2.1 Hi.out.2.2.1 Hi.out.2.2.2 rfl (by decide) (.slice ao R.wns.length cap) R.wns.length (R.wns.flatMap cRw) (by rfl) (World.ownsRow.drew (World.ownsRow.alloc H3.out.wr.1 _)) _ 1 1 [.int .i64 (R.ids+1),.int .i64 of_,.int .i64 p.source,.int .i64 p.second,.int .i64 p.ty,.int .i64 p.secondTy,.int .i64 p.first,.int .i64 p.secondFirst,.slice none 0 0,.int .i64 0,.int .i64 0] (by rfl) rfl ?_ ?_ (by unfold maxLen;omega) (by omega) (Nat.zero_le _) ?_
  ·exact cells_new _ [.int .i64 (R.ids+1),.int .i64 of_,.int .i64 p.source,.int .i64 p.second,.int .i64 p.ty,.int .i64 p.secondTy,.int .i64 p.first,.int .i64 p.secondFirst,.slice none 0 0,.int .i64 0,.int .i64 0] _
  ·intro u hu
   simp at hu
   rcases hu with rfl|rfl|rfl|rfl|rfl|rfl|rfl|rfl|rfl|rfl<;>rfl
  intro v' w3 hown' hgrow hob
  obtain⟨a3,c3,rfl⟩:=rowA_shape hown'
  have hgr:=Grew.of (ρ:=ρ) (q:=3) (W:=W0) H3.out.wr.2 (Below.drew ((Below.refl _ _).alloc (Nat.le_refl _) _)) hgrow hob (fun b hb=>(hown'.lt b hb).2)
  have hc3:Chg (fun x=>(Value.slice ao R.wns.length cap).ownBlock=some x) W0 w3:=Chg.ofGrown (((World.grownBy_alloc _ _ _).trans (World.grownBy_drewX _ _)).trans hgrow)
  have z19:w3.cell? ⟨rb,19,none⟩=some (.slice ao R.wns.length cap):=hc3.cell y19 hneM
  have zS:PlS rb w.heap.size (R.ids+1) p w3:=PlS.chg HS.out hc3 hneM hneB
  have zf:∀o,w3.frozen? ⟨rb,o,none⟩=false:=fun o=>(hc3.frozen (p:=⟨rb,o,none⟩) hs1 hneM).trans (yf o)
  have HM:=H3.out.addW hgr (rNewW (R.ids+1) of_ p) ⟨rfl,rfl⟩ Hfr.out hown' (by simp only;omega)
  have HA:Hid (RdAt (w3.setCell ⟨rb,19,none⟩ (.slice a3 (R.wns.length+1) c3)) (role (.slice a3 (R.wns.length+1) c3) 3 ρ) rb { R with wns:=R.wns++[rNewW (R.ids+1) of_ p],ids:=R.ids+1 } sv (.slice a3 (R.wns.length+1) c3)/\RMv W0 ρ (w3.setCell ⟨rb,19,none⟩ (.slice a3 (R.wns.length+1) c3)) (role (.slice a3 (R.wns.length+1) c3) 3 ρ)):=HM
  refine hK.out _ _ zS (fun zH=>?_)
  clear hK K hown' hgrow hob hc3 y19 yf hgr HM
  refine tka 14 ?_
  refine tka 15 ?_
  refine rd1 16 fun K hK=>?_
  go_simp
  have zS':PlS rb w.heap.size (R.ids+1) p (w3.setCell ⟨rb,19,none⟩ (.slice a3 (R.wns.length+1) c3)):=PlS.set19 zS hbx _
  refine hK.out _ _ zS' (fun zH=>?_)
  clear hK K
  refine doN ?_
  have z20:=zS'.1
  generalize hW4:w3.setCell ⟨rb,19,none⟩ (.slice a3 (R.wns.length+1) c3)=W4 at *
  clear hW4 z19 zf zS zS'
  go_wp2
  go_ret2
  exact⟨by rw[E.out];rfl,_,_,_,by rw[E.out];exact HA.out.1,HM0.out.trans HA.out.2⟩
end Go.Proofs.YtdjhhnolcafkiaaGreat
namespace Go.Proofs.YtdjhhnolcafkiaaGreat
open Go.RowKit
namespace Pk
def rNews (n now:Int) (c:Nat):List Rg:=(List.range' 1 c).map fun j:Nat=>⟨n+(j:Int),now,0⟩
def rAllG (s:Rs) (k window:Nat) (now:Int):List Rg:=if k<=window then s.gaps++rNews s.newest now (k-1)else s.gaps
def rKeep (n:Int) (k window:Nat) (g:Rg):Bool:=decide (k<=window) && decide (n+(k:Int)-g.n<(window:Int))
def rAhead (R:Rm) (i:Nat) (s:Rs) (k window:Nat) (gv:Value):Rm:=
 { R with s:={ R.s with givenUp:=R.s.givenUp+(((rAllG s k window R.s.now).length-((rAllG s k window R.s.now).filter (rKeep s.newest k window)).length:Nat):Int) },sds:=R.sds.set i ⟨s.src,s.newest+(k:Int),gv,(rAllG s k window R.s.now).filter (rKeep s.newest k window)⟩ }
theorem rNews_succ (n now:Int) (c:Nat):rNews n now (c+1)=rNews n now c++[⟨n+((c+1:Nat):Int),now,0⟩]:=by
 unfold rNews
 rw[List.range'_concat,List.map_append]
 simp only[List.map_cons,List.map_nil]
 rw[show 1+1*c=c+1 by omega]
theorem rNews_len (n now:Int) (c:Nat):(rNews n now c).length=c:=by unfold rNews;rw[List.length_map,List.length_range']
theorem filter_take {α:Type}(p:α->Bool) (l:List α) (q:Nat) (h:q<l.length):(l.take (q+1)).filter p=(l.take q).filter p++if p l[q]=true then[l[q]]else[]:=by
 rw[List.take_succ_eq_append_getElem h,List.filter_append]
 by_cases e:p l[q]=true
 ·rw[if_pos e,List.filter_cons_of_pos e,List.filter_nil]
 ·rw[if_neg e,List.filter_cons_of_neg e,List.filter_nil]
def Two (p q:Addr) (u v:Value) (W:World):Prop:=W.cell? p=some u/\W.cell? q=some v
theorem Two.chg {p q:Addr}{u v:Value}{W W':World}{T:Nat->Prop}(h:Two p q u v W) (hc:Chg T W W') (h1:¬T p.block) (h2:¬T q.block):Two p q u v W':=⟨hc.cell h.1 h1,hc.cell h.2 h2⟩
theorem Two.below {p q:Addr}{u v:Value}{W W':World}(h:Two p q u v W) (hb:Below W.heap.size W W'):Two p q u v W':=h.chg (T:=fun _=>False) (Chg.ofBelow hb) (fun e=>e) (fun e=>e)
theorem flat_one {α:Type}(f:α->List Value) (l:List α) (x:α):(l++[x]).flatMap f=l.flatMap f++f x:=by rw[List.flatMap_append];simp
theorem gap_info:(Tryz.prog.info? 126).map (fun i=>(i.zero,i.size,i.bytes))=some (some (.agg #[.int .i64 0,.int .i64 0,.int .i64 0]),3,24):=by kernel_rfl
def rMidG (R:Rm) (i:Nat) (s1:Rs) (x:Int):Rm:={ R with s:={ R.s with givenUp:=x },sds:=R.sds.set i s1 }
theorem filter_le {α:Type}(p:α->Bool) (l:List α) (q:Nat):((l.take q).filter p).length<=q:=Nat.le_trans (List.length_filter_le _ _) (by rw[List.length_take];omega)
theorem RMid.endS {w W:World}{ρ:Nat->Nat}{rb:Nat}{R R':Rm}{sv wv v:Value}{T:Nat->Prop}{i:Nat}{s':Rs}(h:RdAt w ρ rb R sv wv) (m:RMid w ρ rb R' sv wv T W) (hT:∀b,T b->ρ b=10+i\/ρ b=1\/ρ b=2) (hi:i<R.sds.length) (e1:R'.sds=R.sds.set i s') (e2:R'.wns=R.wns) (hv:s'.gv=v) (hr:W.ownsRow 0 126 3 v s'.gaps.length (s'.gaps.flatMap cRg)) (hb:∀b,v.ownBlock=some b->w.heap.size<=b) :
  RdAt W (role v (10+i) ρ) rb R' sv wv/\RMv w ρ W (role v (10+i) ρ):=by
 have hi4:i<4:=by have:=h.s4;omega
 have hk:∀b,b<w.heap.size->role v (10+i) ρ b=ρ b:=fun b hl=>role_out (fun e=>by have:=hb b e;omega)
 have nT:∀q,q≠10+i->q≠1->q≠2->∀b,T b->ρ b≠q:=fun q a1 a2 a3 b hb e=>by
  rcases hT b hb with e'|e'|e'<;>omega
 refine⟨h.make m.c (fun b hl _=>hk b hl) (fun b hl=>?_) m.k m.fz ⟨m.sr.1,fun b e=>(hk b (h.sr.1.lt b e).2).trans (h.sr.2 b e)⟩ ⟨m.wr.1,fun b e=>(hk b (h.wr.1.lt b e).2).trans (h.wr.2 b e)⟩ (fun j t ht=>?_) (fun j x hx=>.inl ⟨j,x,by rw[<-e2];exact hx,rfl,rfl,rfl,nT _ (by omega) (by omega) (by omega)⟩) (nT 4 (by omega) (by omega) (by omega)) (by rw[e2];exact h.ids) (by rw[e1,List.length_set];exact h.s4) (by rw[e2];exact h.w8),fun b hl e=>(hk b hl).trans e,m.c.mono (fun b _ e=>?_)⟩
 ·have:=m.c.size
  rw[role_out (fun e=>by have:=(hr.lt b e).2;omega)]
  exact h.hi b (by omega)
 ·rw[e1,List.getElem?_set]at ht
  by_cases e:i=j
  ·subst e
   rw[if_pos rfl,if_pos hi,Option.some.injEq]at ht
   subst ht
   rw[hv]
   exact .inr ⟨hr,fun b e=>role_in e⟩
  ·rw[if_neg e]at ht
   exact .inl ⟨t,ht,rfl,rfl,nT _ (by omega) (by omega) (by omega)⟩
 ·rcases hT b e with e'|e'|e'<;>rw[e']<;>omega
end Pk
open Pk
theorem refAhead_any (ρ:Nat->Nat) (rb g cap:Nat) (R:Rm) (wv:Value) (i k cw:Nat) (s:Rs) (w:World) (h:RdAt w ρ rb R (.slice (some ⟨g,0,none⟩) R.sds.length cap) wv) (hs:R.sds[i]? = some s) (hk:1<=k/\k<=32767) (hcw:R.c.window=(cw:Int)) (hcl:1<=cw/\cw<=200) (hn:0<=s.newest/\s.newest<=10000000000000) (hgn:∀x∈s.gaps,0<=x.n/\x.n<=10000000000000) (hgl:s.gaps.length<=1000) (hgu:0<=R.s.givenUp/\R.s.givenUp<=1000000000000000) :
  Calls Tryz.prog 95 #[.pointer (some ⟨rb,0,none⟩),.pointer (some ⟨g,i*3,none⟩),.int .i64 k] w fun e w'=>e = .returned (.tuple #[])/\∃ρ' gv,RdAt w' ρ' rb (rAhead R i s k cw gv) (.slice (some ⟨g,0,none⟩) R.sds.length cap) wv/\RMv w ρ w' ρ':=by
 have H:=hyd h
 have hil:i<R.sds.length:=(List.getElem?_eq_some_iff.1 hs).1
 have Hse:Hid (R.sds[i]=s):=(List.getElem?_eq_some_iff.1 hs).2
 obtain⟨g',cap',hsl,x0,x1,x2,xf,xl,xr⟩:=h.sndAt hs
 simp only[Value.slice.injEq,Option.some.injEq,Addr.mk.injEq,true_and,and_true]at hsl
 obtain⟨rfl,rfl⟩:=hsl
 have hga:=h.ga i s hs
 have hi4:i<4:=by have:=h.s4;omega
 have y1:w.cell? ⟨rb,1,none⟩=some (.int .i64 R.c.window):=h.k 1 _ rfl
 have y7:w.cell? ⟨rb,7,none⟩=some (.int .i64 R.s.now):=h.k 7 _ rfl
 rw[hcw]at y1
 have hrm:=h.rm
 have hrl:=h.lt
 have hgr:g≠rb:=fun e=>by rw[e,hrm]at xr;cases xr
 obtain⟨ga,gc,hgv⟩:=rowA_shape hga.1
 have Hga:Hid (w.ownsRow 0 126 3 (.slice ga s.gaps.length gc) s.gaps.length (s.gaps.flatMap cRg)/\∀b,(Value.slice ga s.gaps.length gc).ownBlock=some b->ρ b=10+i):=by rw[<-hgv];exact hga
 rw[hgv]at x2
 have HCW:=hyd hcw
 have Hgn:=hyd hgn
 have Hrm:=hyd hrm
 have Hxr:=hyd xr
 obtain⟨N,hN⟩:∃N,s.newest=N:=⟨_,rfl⟩
 obtain⟨NW,hNW⟩:∃NW,R.s.now=NW:=⟨_,rfl⟩
 rw[hN]at x1 hn
 rw[hNW]at y7
 have HN:=hyd hN
 have HNW:=hyd hNW
 obtain⟨X,hX⟩:∃X,rAhead R i s k cw=X:=⟨_,rfl⟩
 have HX:=hyd hX
 rw[hX]
 obtain⟨i0,hi,hz0,hz1,hz2⟩:=info_parts gap_info
 have Hi:Hid (Tryz.prog.info? 126=some i0/\i0.zero=some (.agg #[.int .i64 0,.int .i64 0,.int .i64 0])/\i0.size=3/\i0.bytes=24):=⟨hi,hz0,hz1,hz2⟩
 clear h hs hga hgv hgn hX hN hNW hi hz0 hz1 hz2 x0 hrm xr hcw
 go_enter Tryz.func95,Tryz.ntmps95
 go_wp2
 go_loopw [6,7] (fun v s7 wr=>∃j:Nat,j<k/\s7 = .int .i64 ((j+1:Nat):Int)/\(cw<k->j=0)/\wr.ownsRow 0 126 3 v (s.gaps.length+j) ((s.gaps++rNews N NW j).flatMap cRg)/\(∀b,v.ownBlock=some b->ρ b=10+i\/w.heap.size<=b)/\Chg (fun b=>ρ b=10+i) w wr) (fun _ s7 _=>k-(intOf s7).toNat)
 case atStart=>exact⟨0,by omega,rfl,fun _=>rfl,by simpa[rNews]using Hga.out.1,fun b e=>.inl (Hga.out.2 b e),Chg.refl _ _⟩
 case round=>
  obtain⟨j,hj,rfl,hj0,hrow,hbl,hch⟩:=hrel
  obtain⟨va,vc,rfl⟩:=rowA_shape hrow
  have Hrow:=hyd hrow
  have Hbl:=hyd hbl
  have Hch:=hyd hch
  have hnR:¬ρ rb=10+i:=by rw[Hrm.out];omega
  have hnG:¬ρ g=10+i:=by rw[Hxr.out];omega
  have z1:wr.cell? ⟨rb,1,none⟩=some (.int .i64 cw):=hch.cell y1 hnR
  have z7:wr.cell? ⟨rb,7,none⟩=some (.int .i64 NW):=hch.cell y7 hnR
  have u1:wr.cell? ⟨g,i*3+1,none⟩=some (.int .i64 N):=hch.cell x1 hnG
  have hsz:=hch.size
  have Hnn:Hid ((¬ρ rb=10+i)/\¬ρ g=10+i):=⟨hnR,hnG⟩
  clear hrow hbl hch hnR hnG
  by_cases hjk:j+1<k
  ·have hjk':((j+1:Nat):Int)<(k:Int):=by omega
   by_cases hkc:k<=cw
   ·have hkc':(k:Int)<=(cw:Int):=by omega
    have hw1:IntKind.i64.wrap (N+((j:Int)+1))=N+((j:Int)+1):=i64_id _ (by omega) (by omega)
    have HS:Hid (Two ⟨g,i*3+1,none⟩ ⟨rb,7,none⟩ (.int .i64 N) (.int .i64 NW) wr):=⟨u1,z7⟩
    go_wp2
    refine wp_region_noPanic ?_
    refine wp_region_held_drew (S:=Two ⟨g,i*3+1,none⟩ ⟨rb,7,none⟩ (.int .i64 N) (.int .i64 NW)) (by kernel_rfl) HS.out (fun zH=>?_)
    refine tka 0 ?_
    refine tka 1 ?_
    refine tka 2 ?_
    refine tka 3 ?_
    refine tka 4 ?_
    refine tka 5 ?_
    refine tka 6 ?_
    refine tka 7 ?_
    refine tka 8 ?_
    refine tka 9 ?_
    refine tka 10 ?_
    refine tka 11 ?_
    refine tka 12 ?_
    refine rd1 13 fun K hK=>?_
    go_simp
    refine hK.out _ _ (Two.below zH ((Below.refl _ _).alloc (Nat.le_refl _) _)) (fun zH=>?_)
    clear hK K
    refine rd1 14 fun K hK=>?_
    rw[if_pos (by rfl)]
    refine wp_append_at (.tmp 28) (.tmp 41) 59 rfl 0 126 i0 _ 3 24 Tryz.underlying59 Hi.out.1 Hi.out.2.1 Hi.out.2.2.1 Hi.out.2.2.2 rfl (by decide) (.slice va (s.gaps.length+j) vc) (s.gaps.length+j) ((s.gaps++rNews N NW j).flatMap cRg) (by rfl) (World.ownsRow.drew (World.ownsRow.alloc Hrow.out _)) _ 1 1 [.int .i64 (N+((j:Int)+1)),.int .i64 NW,.int .i64 0] (by rfl) rfl ?_ ?_ (by unfold maxLen;omega) (by omega) (Nat.zero_le _) ?_
    ·exact cells_new _ [.int .i64 (N+((j:Int)+1)),.int .i64 NW,.int .i64 0] _
    ·intro u hu
     simp at hu
     rcases hu with rfl|rfl|rfl<;>rfl
    intro v' w3 hown' hgrow hob
    have hb6:Below wr.heap.size wr ((wr.alloc (.cells ([.int .i64 (N+((j:Int)+1)),.int .i64 NW,.int .i64 0]).toArray 126)).drew):=Below.drew ((Below.refl _ _).alloc (Nat.le_refl _) _)
    have hc3:Chg (fun x=>(Value.slice va (s.gaps.length+j) vc).ownBlock=some x) wr w3:=(Chg.ofBelow hb6).trans (Chg.ofGrown hgrow) (fun _ _ e=>e)
    have R1:Hid (w3.ownsRow 0 126 3 v' (s.gaps.length+(j+1)) ((s.gaps++rNews N NW (j+1)).flatMap cRg)):=by
     rw[rNews_succ,<-List.append_assoc,flat_one]
     exact hown'
    have R2:Hid (∀b,v'.ownBlock=some b->ρ b=10+i\/w.heap.size<=b):=fun b e=>by
     rcases hob with o|o
     ·exact Hbl.out b (o▸e)
     ·rw[o,Option.some.injEq]at e
      refine .inr ?_
      rw[<-e]
      exact Nat.le_trans hsz hb6.size
    have R3:Hid (Chg (fun b=>ρ b=10+i) w w3):=Hch.out.trans hc3 (fun b hb e=>by
     rcases Hbl.out b e with o|o
     ·exact o
     ·omega)
    have zS:Two ⟨g,i*3+1,none⟩ ⟨rb,7,none⟩ (.int .i64 N) (.int .i64 NW) w3:=⟨R3.out.cell x1 Hnn.out.2,R3.out.cell y7 Hnn.out.1⟩
    obtain⟨a3,c3,rfl⟩:=rowA_shape hown'
    refine hK.out _ _ zS (fun zH=>?_)
    clear hK K hown' hgrow hob hc3 hb6
    refine tka 15 ?_
    refine doN ?_
    clear zS zH u1 z1 z7
    go_wp2
    go_roundw
    case rel=>exact⟨j+1,by omega,by go_num,fun e=>by omega,R1.out,R2.out,R3.out⟩
    case measure=>simp[intOf];omega
   ·have hkc':decide ((k:Int)<=(cw:Int))=false:=decide_eq_false (by omega)
    have hj1:=hj0 (by omega)
    subst hj1
    have HA:Hid (s.gaps++rNews N NW 0=rAllG s k cw R.s.now):=by
     show _=_
     unfold rAllG
     rw[if_neg hkc]
     simp[rNews]
    have hAl:(s.gaps++rNews N NW 0).length=s.gaps.length+0:=by rw[List.length_append,rNews_len]
    have hAb:∀x∈s.gaps++rNews N NW 0,0<=x.n/\x.n<=10000000100000:=fun x hx=>by
     rcases List.mem_append.1 hx with e|e
     ·have:=Hgn.out x e;omega
     ·unfold rNews at e
      obtain⟨r,hr,rfl⟩:=List.mem_map.1 e
      rw[List.mem_range'_1]at hr
      simp only
      omega
    generalize s.gaps++rNews N NW 0=A at *
    rw[<-hAl]at Hrow Hbl ⊢
    have hAsz:A.length<=40000:=by omega
    have HAb:=hyd hAb
    have RM2:Hid (RMid w ρ rb R (.slice (some ⟨g,0,none⟩) R.sds.length cap) wv (fun b=>ρ b=10+i\/ρ b=1\/ρ b=2) wr):=(H.out.mid (fun b=>ρ b=10+i\/ρ b=1\/ρ b=2)).chg Hrm.out Hch.out (fun b e=>by rw[e];omega) (fun b _ e=>.inl e)
    have hnw:IntKind.i64.wrap (N+(k:Int))=N+(k:Int):=i64_id _ (by omega) (by omega)
    have uf:wr.frozen? ⟨g,i*3+1,none⟩=false:=RM2.out.sr.1.frozenAt _
    have RM3:Hid (RMid w ρ rb { R with sds:=R.sds.set i ⟨s.src,N+(k:Int),s.gv,s.gaps⟩ } (.slice (some ⟨g,0,none⟩) R.sds.length cap) wv (fun b=>ρ b=10+i\/ρ b=1\/ρ b=2) (wr.setCell ⟨g,i*3+1,none⟩ (.int .i64 (N+(k:Int))))):=RM2.out.setS Hrm.out rfl (.inl (.inr (.inr Hxr.out))) hil 1 (by omega) _ _ (by rw[Hse.out];rfl)
    have HbB:Hid (∀b,(Value.slice va A.length vc).ownBlock=some b->b≠g/\b≠rb):=fun b e=>by
     rcases Hbl.out b e with o|o
     ·exact⟨fun e'=>by rw[e',Hxr.out]at o;omega,fun e'=>by rw[e',Hrm.out]at o;omega⟩
     ·exact⟨fun e'=>by omega,fun e'=>by omega⟩
    have HR3:Hid ((wr.setCell ⟨g,i*3+1,none⟩ (.int .i64 (N+(k:Int)))).ownsRow 0 126 3 (.slice va A.length vc) A.length (A.flatMap cRg)):=rowA_chg ((Chg.refl (fun b=>b=g) _).setCell ⟨g,i*3+1,none⟩ (.inl rfl) _) Hrow.out (fun b hb e=>(HbB.out b hb).1 e)
    have hB3:w.heap.size<=(wr.setCell ⟨g,i*3+1,none⟩ (.int .i64 (N+(k:Int)))).heap.size:=by rw[World.size_setCell];exact hsz
    clear hAl hAb Hrow Hbl Hch RM2
    go_wp2
    clear u1 z1 z7 uf
    generalize wr.setCell ⟨g,i*3+1,none⟩ (.int .i64 (N+(k:Int)))=W3 at *
    obtain⟨B,hB⟩:∃B,W3.heap.size=B:=⟨_,rfl⟩
    have HB:=hyd hB
    rw[hB]at hB3
    have HhB:Hid (∀b,B<=b->ρ b=0):=fun b hb=>H.out.hi b (by omega)
    clear hB
    go_loopw [8,9] (fun v s9 wi=>∃q:Nat,q<=A.length/\s9 = .int .i64 q/\wi.ownsRow B 126 3 v ((A.take q).filter (rKeep N k cw)).length (((A.take q).filter (rKeep N k cw)).flatMap cRg)/\RMid w ρ rb (rMidG R i ⟨s.src,N+(k:Int),s.gv,s.gaps⟩ (R.s.givenUp+((q-((A.take q).filter (rKeep N k cw)).length:Nat):Int))) (.slice (some ⟨g,0,none⟩) R.sds.length cap) wv (fun b=>ρ b=10+i\/ρ b=1\/ρ b=2) wi/\Chg (fun b=>b=rb) W3 wi) (fun _ s9 _=>A.length-(intOf s9).toNat)
    case atStart=>exact⟨0,Nat.zero_le _,rfl,World.ownsRow_nil _ _ _ _,by
     rw[show R.s.givenUp+((0-((A.take 0).filter (rKeep N k cw)).length:Nat):Int)=R.s.givenUp by simp]
     exact RM3.out,Chg.refl _ _⟩
    case round=>
     obtain⟨q,hq,rfl,hl,hm,hc⟩:=hrel
     obtain⟨la,lc,rfl⟩:=rowA_shape hl
     have Hl:=hyd hl
     have hfl:=filter_le (rKeep N k cw) A q
     obtain⟨cu,hcu⟩:∃cu:Int,R.s.givenUp+((q-((A.take q).filter (rKeep N k cw)).length:Nat):Int)=cu:=⟨_,rfl⟩
     have HCU:=hyd hcu
     rw[hcu]at hm
     have Hm:=hyd hm
     have Hc:=hyd hc
     have hBi:B<=wr.heap.size:=by rw[<-HB.out];exact hc.size
     have hcb:0<=cu/\cu<=1000000000100000:=by omega
     have v17:wr.cell? ⟨rb,17,none⟩=some (.int .i64 cu):=hm.k 17 _ rfl
     have vf:∀o,wr.frozen? ⟨rb,o,none⟩=false:=hm.fz
     have v1:wr.cell? ⟨rb,1,none⟩=some (.int .i64 R.c.window):=hm.k 1 _ rfl
     rw[HCW.out]at v1
     have hil2:i<(R.sds.set i ⟨s.src,N+(k:Int),s.gv,s.gaps⟩).length:=by rw[List.length_set];exact hil
     have rowC:∀o,o<3->wr.cell? ⟨g,i*3+o,none⟩=(cRs ⟨s.src,N+(k:Int),s.gv,s.gaps⟩)[o]?:=fun o ho=>by
      have h1:=hm.sr.1
      simp only[rMidG,List.length_set]at h1
      rw[h1.cellAt (i*3+o) (by omega),flat_at cRs_len _ i o hil2 ho,List.getElem_set_self]
     have u1:wr.cell? ⟨g,i*3+1,none⟩=some (.int .i64 (N+(k:Int))):=rowC 1 (by omega)
     have u2:wr.cell? ⟨g,i*3+2,none⟩=some s.gv:=rowC 2 (by omega)
     have gf:∀o,wr.frozen? ⟨g,o,none⟩=false:=fun o=>by
      have h1:=hm.sr.1
      simp only[rMidG,List.length_set]at h1
      exact h1.frozenAt o
     have hcw1:IntKind.i64.wrap (cu+1)=cu+1:=i64_id _ (by omega) (by omega)
     clear hl hm hc hcu rowC hil2
     by_cases hlt:q<A.length
     ·have hlt':(q:Int)<A.length:=by omega
      obtain⟨ag,rfl⟩:=rowA_some HR3.out (by omega)
      obtain⟨a0,a1,a2⟩:=gap_at HR3.out rfl q hlt
      have hne:=(HbB.out ag rfl).2
      have hag:ag<B:=by rw[<-HB.out];exact(HR3.out.lt ag rfl).2
      have a0:=Hc.out.cell a0 hne
      have a1:=Hc.out.cell a1 hne
      have a2:=Hc.out.cell a2 hne
      obtain⟨e,hAq⟩:∃e,A[q]=e:=⟨_,rfl⟩
      have heb:=HAb.out e (hAq▸List.getElem_mem hlt)
      rw[hAq]at a0 a1 a2
      obtain⟨en,el,et⟩:=e
      simp only at a0 a1 a2 heb
      have HKE:Hid (rKeep N k cw ⟨en,el,et⟩=false):=by
       show _=_
       unfold rKeep
       rw[decide_eq_false (by omega)]
       rfl
      have Hf:Hid ((A.take (q+1)).filter (rKeep N k cw)=(A.take q).filter (rKeep N k cw)):=by
       show _=_
       rw[filter_take _ _ _ hlt,if_neg (by rw[hAq,HKE.out];decide),List.append_nil]
      have HP:Hid (∀m,RMid w ρ rb (rMidG R i ⟨s.src,N+(k:Int),s.gv,s.gaps⟩ (R.s.givenUp+((q+1-((A.take q).filter (rKeep N k cw)).length:Nat):Int))) (.slice (some ⟨g,0,none⟩) R.sds.length cap) wv (fun b=>ρ b=10+i\/ρ b=1\/ρ b=2) ((wr.drewN m).setCell ⟨rb,17,none⟩ (.int .i64 (cu+1)))):=fun m=>by
       have h1:=(Hm.out.below Hrm.out (below_drewN (Below.refl _ _) m)).put (R':=rMidG R i ⟨s.src,N+(k:Int),s.gv,s.gaps⟩ (cu+1)) Hrm.out (.inr (.inl Hrm.out)) 17 (.int .i64 (cu+1)) rfl rfl rfl
       rw[show R.s.givenUp+((q+1-((A.take q).filter (rKeep N k cw)).length:Nat):Int)=cu+1 by rw[<-HCU.out];have:=filter_le (rKeep N k cw) A q;omega]
       exact h1
      have HcN:Hid (∀m,Chg (fun b=>b=rb) W3 ((wr.drewN m).setCell ⟨rb,17,none⟩ (.int .i64 (cu+1)))):=fun m=>(Hc.out.trans (Chg.ofBelow (T:=fun _=>False) (below_drewN (Below.refl _ _) m)) (fun _ _ e=>e.elim)).setCell ⟨rb,17,none⟩ (.inl rfl) _
      have HlN:Hid (∀m,((wr.drewN m).setCell ⟨rb,17,none⟩ (.int .i64 (cu+1))).ownsRow B 126 3 (.slice la ((A.take q).filter (rKeep N k cw)).length lc) ((A.take q).filter (rKeep N k cw)).length (((A.take q).filter (rKeep N k cw)).flatMap cRg)):=fun m=>by
       have c9:Chg (fun b=>b=rb) wr ((wr.drewN m).setCell ⟨rb,17,none⟩ (.int .i64 (cu+1))):=((Chg.refl (fun b=>b=rb) wr).trans (Chg.ofBelow (T:=fun _=>False) (below_drewN (Below.refl _ _) m)) (fun _ _ e=>e.elim)).setCell ⟨rb,17,none⟩ (.inl rfl) _
       exact rowA_chg c9 Hl.out (fun b hb e=>by have:=(Hl.out.lt b hb).1;omega)
      go_wp2
      go_big_quiet (fail)
      go_wp2
      go_roundw
      case rel=>exact⟨q+1,by omega,by go_num,by rw[Hf.out];exact HlN.out _,by rw[Hf.out];exact HP.out _,HcN.out _⟩
      case measure=>simp[intOf];omega
     ·have hlt':¬(q:Int)<A.length:=by omega
      have hqe:q=A.length:=by omega
      have Hfin:Hid (∀lv:Value,lv = .slice la ((A.take q).filter (rKeep N k cw)).length lc->RdAt (wr.setCell ⟨g,i*3+2,none⟩ lv) (role lv (10+i) ρ) rb (X lv) (.slice (some ⟨g,0,none⟩) R.sds.length cap) wv/\RMv w ρ (wr.setCell ⟨g,i*3+2,none⟩ lv) (role lv (10+i) ρ)):=fun lv hlv=>by
       have hset:=Hm.out.setS (i:=i) (g:=g) (cap:=cap) Hrm.out (by simp only[rMidG,List.length_set]) (.inl (.inr (.inr Hxr.out))) (by simp only[rMidG,List.length_set];exact hil) 2 (by omega) lv ⟨s.src,N+(k:Int),lv,A.filter (rKeep N k cw)⟩ (by simp only[rMidG,List.getElem_set_self];rfl)
       have hr:(wr.setCell ⟨g,i*3+2,none⟩ lv).ownsRow 0 126 3 lv (A.filter (rKeep N k cw)).length ((A.filter (rKeep N k cw)).flatMap cRg):=by
        have h1:=rowA_chg ((Chg.refl (fun b=>b=g) _).setCell ⟨g,i*3+2,none⟩ (.inl rfl) lv) Hl.out (fun b hb e=>by have:=(Hl.out.lt b hb).1;omega)
        rw[List.take_of_length_le (by omega)]at h1 hlv
        rw[hlv]at h1 ⊢
        exact rowN_mono h1 (Nat.zero_le _)
       have hE:({ rMidG R i ⟨s.src,N+(k:Int),s.gv,s.gaps⟩ cu with sds:=(rMidG R i ⟨s.src,N+(k:Int),s.gv,s.gaps⟩ cu).sds.set i ⟨s.src,N+(k:Int),lv,A.filter (rKeep N k cw)⟩ }:Rm)=X lv:=by
        rw[<-HX.out,<-HCU.out,List.take_of_length_le (by omega),hqe]
        unfold rMidG rAhead
        simp only[List.set_set]
        rw[<-HA.out,HN.out]
       rw[hE]at hset
       refine RMid.endS (s':=⟨s.src,N+(k:Int),lv,A.filter (rKeep N k cw)⟩) H.out hset (fun b e=>e) hil (by rw[<-hE];simp only[rMidG,List.set_set]) (by rw[<-hE];rfl) rfl hr (fun b e=>?_)
       have:=(Hl.out.lt b (hlv▸e)).1
       omega
      clear v17 vf v1 u1 hqe
      go_wp2
      refine bodyPost_end (v:=.tuple #[]) (by simp[results,Tryz.results95,go_sem]) rfl ⟨rfl,_,⟨_,(Hfin.out _ rfl).1⟩,(Hfin.out _ rfl).2⟩
  ·have hjk':decide (((j+1:Nat):Int)<(k:Int))=false:=decide_eq_false (by omega)
   have hkc:k<=cw:=by
    rcases Nat.lt_or_ge cw k with e|e
    ·have:=hj0 e;omega
    ·exact e
   have hkc':(k:Int)<=(cw:Int):=by omega
   have HA:Hid (s.gaps++rNews N NW j=rAllG s k cw R.s.now):=by
    show _=_
    unfold rAllG
    rw[if_pos hkc,HN.out,HNW.out,show k-1=j by omega]
   have hAl:(s.gaps++rNews N NW j).length=s.gaps.length+j:=by rw[List.length_append,rNews_len]
   have hAb:∀x∈s.gaps++rNews N NW j,0<=x.n/\x.n<=10000000100000:=fun x hx=>by
    rcases List.mem_append.1 hx with e|e
    ·have:=Hgn.out x e;omega
    ·unfold rNews at e
     obtain⟨r,hr,rfl⟩:=List.mem_map.1 e
     rw[List.mem_range'_1]at hr
     simp only
     omega
   generalize s.gaps++rNews N NW j=A at *
   rw[<-hAl]at Hrow Hbl ⊢
   have hAsz:A.length<=40000:=by omega
   have HAb:=hyd hAb
   have RM2:Hid (RMid w ρ rb R (.slice (some ⟨g,0,none⟩) R.sds.length cap) wv (fun b=>ρ b=10+i\/ρ b=1\/ρ b=2) wr):=(H.out.mid (fun b=>ρ b=10+i\/ρ b=1\/ρ b=2)).chg Hrm.out Hch.out (fun b e=>by rw[e];omega) (fun b _ e=>.inl e)
   have hnw:IntKind.i64.wrap (N+(k:Int))=N+(k:Int):=i64_id _ (by omega) (by omega)
   have uf:wr.frozen? ⟨g,i*3+1,none⟩=false:=RM2.out.sr.1.frozenAt _
   have RM3:Hid (RMid w ρ rb { R with sds:=R.sds.set i ⟨s.src,N+(k:Int),s.gv,s.gaps⟩ } (.slice (some ⟨g,0,none⟩) R.sds.length cap) wv (fun b=>ρ b=10+i\/ρ b=1\/ρ b=2) (wr.setCell ⟨g,i*3+1,none⟩ (.int .i64 (N+(k:Int))))):=RM2.out.setS Hrm.out rfl (.inl (.inr (.inr Hxr.out))) hil 1 (by omega) _ _ (by rw[Hse.out];rfl)
   have HbB:Hid (∀b,(Value.slice va A.length vc).ownBlock=some b->b≠g/\b≠rb):=fun b e=>by
    rcases Hbl.out b e with o|o
    ·exact⟨fun e'=>by rw[e',Hxr.out]at o;omega,fun e'=>by rw[e',Hrm.out]at o;omega⟩
    ·exact⟨fun e'=>by omega,fun e'=>by omega⟩
   have HR3:Hid ((wr.setCell ⟨g,i*3+1,none⟩ (.int .i64 (N+(k:Int)))).ownsRow 0 126 3 (.slice va A.length vc) A.length (A.flatMap cRg)):=rowA_chg ((Chg.refl (fun b=>b=g) _).setCell ⟨g,i*3+1,none⟩ (.inl rfl) _) Hrow.out (fun b hb e=>(HbB.out b hb).1 e)
   have hB3:w.heap.size<=(wr.setCell ⟨g,i*3+1,none⟩ (.int .i64 (N+(k:Int)))).heap.size:=by rw[World.size_setCell];exact hsz
   clear hAl hAb Hrow Hbl Hch RM2
   go_wp2
   clear u1 z1 z7 uf
   generalize wr.setCell ⟨g,i*3+1,none⟩ (.int .i64 (N+(k:Int)))=W3 at *
   obtain⟨B,hB⟩:∃B,W3.heap.size=B:=⟨_,rfl⟩
   have HB:=hyd hB
   rw[hB]at hB3
   have HhB:Hid (∀b,B<=b->ρ b=0):=fun b hb=>H.out.hi b (by omega)
   clear hB
   go_loopw [8,9] (fun v s9 wi=>∃q:Nat,q<=A.length/\s9 = .int .i64 q/\wi.ownsRow B 126 3 v ((A.take q).filter (rKeep N k cw)).length (((A.take q).filter (rKeep N k cw)).flatMap cRg)/\RMid w ρ rb (rMidG R i ⟨s.src,N+(k:Int),s.gv,s.gaps⟩ (R.s.givenUp+((q-((A.take q).filter (rKeep N k cw)).length:Nat):Int))) (.slice (some ⟨g,0,none⟩) R.sds.length cap) wv (fun b=>ρ b=10+i\/ρ b=1\/ρ b=2) wi/\Chg (fun b=>b=rb) W3 wi) (fun _ s9 _=>A.length-(intOf s9).toNat)
   case atStart=>exact⟨0,Nat.zero_le _,rfl,World.ownsRow_nil _ _ _ _,by
    rw[show R.s.givenUp+((0-((A.take 0).filter (rKeep N k cw)).length:Nat):Int)=R.s.givenUp by simp]
    exact RM3.out,Chg.refl _ _⟩
   case round=>
    obtain⟨q,hq,rfl,hl,hm,hc⟩:=hrel
    obtain⟨la,lc,rfl⟩:=rowA_shape hl
    have Hl:=hyd hl
    have hfl:=filter_le (rKeep N k cw) A q
    obtain⟨cu,hcu⟩:∃cu:Int,R.s.givenUp+((q-((A.take q).filter (rKeep N k cw)).length:Nat):Int)=cu:=⟨_,rfl⟩
    have HCU:=hyd hcu
    rw[hcu]at hm
    have Hm:=hyd hm
    have Hc:=hyd hc
    have hBi:B<=wr.heap.size:=by rw[<-HB.out];exact hc.size
    have hcb:0<=cu/\cu<=1000000000100000:=by omega
    have v17:wr.cell? ⟨rb,17,none⟩=some (.int .i64 cu):=hm.k 17 _ rfl
    have vf:∀o,wr.frozen? ⟨rb,o,none⟩=false:=hm.fz
    have v1:wr.cell? ⟨rb,1,none⟩=some (.int .i64 R.c.window):=hm.k 1 _ rfl
    rw[HCW.out]at v1
    have hil2:i<(R.sds.set i ⟨s.src,N+(k:Int),s.gv,s.gaps⟩).length:=by rw[List.length_set];exact hil
    have rowC:∀o,o<3->wr.cell? ⟨g,i*3+o,none⟩=(cRs ⟨s.src,N+(k:Int),s.gv,s.gaps⟩)[o]?:=fun o ho=>by
     have h1:=hm.sr.1
     simp only[rMidG,List.length_set]at h1
     rw[h1.cellAt (i*3+o) (by omega),flat_at cRs_len _ i o hil2 ho,List.getElem_set_self]
    have u1:wr.cell? ⟨g,i*3+1,none⟩=some (.int .i64 (N+(k:Int))):=rowC 1 (by omega)
    have u2:wr.cell? ⟨g,i*3+2,none⟩=some s.gv:=rowC 2 (by omega)
    have gf:∀o,wr.frozen? ⟨g,o,none⟩=false:=fun o=>by
     have h1:=hm.sr.1
     simp only[rMidG,List.length_set]at h1
     exact h1.frozenAt o
    have hcw1:IntKind.i64.wrap (cu+1)=cu+1:=i64_id _ (by omega) (by omega)
    clear hl hm hc hcu rowC hil2
    by_cases hlt:q<A.length
    ·have hlt':(q:Int)<A.length:=by omega
     obtain⟨ag,rfl⟩:=rowA_some HR3.out (by omega)
     obtain⟨a0,a1,a2⟩:=gap_at HR3.out rfl q hlt
     have hne:=(HbB.out ag rfl).2
     have hag:ag<B:=by rw[<-HB.out];exact(HR3.out.lt ag rfl).2
     have a0:=Hc.out.cell a0 hne
     have a1:=Hc.out.cell a1 hne
     have a2:=Hc.out.cell a2 hne
     obtain⟨e,hAq⟩:∃e,A[q]=e:=⟨_,rfl⟩
     have heb:=HAb.out e (hAq▸List.getElem_mem hlt)
     rw[hAq]at a0 a1 a2
     obtain⟨en,el,et⟩:=e
     simp only at a0 a1 a2 heb
     have hw2:IntKind.i64.wrap (N+(k:Int)-en)=N+(k:Int)-en:=i64_id _ (by omega) (by omega)
     by_cases hkp:N+(k:Int)-en<(cw:Int)
     ·have HKE:Hid (rKeep N k cw ⟨en,el,et⟩=true):=by
       show _=_
       unfold rKeep
       rw[decide_eq_true hkc,decide_eq_true hkp]
       rfl
      have Hf:Hid ((A.take (q+1)).filter (rKeep N k cw)=(A.take q).filter (rKeep N k cw)++[⟨en,el,et⟩]):=by
       show _=_
       rw[filter_take _ _ _ hlt,if_pos (by rw[hAq];exact HKE.out),hAq]
      have e0:∀m,(wr.drewN m).cell? ⟨ag,q*3,none⟩=some (.int .i64 en):=fun m=>by rw[World.cell?_drewN];exact a0
      go_wp2
      go_big_quiet (fail)
      go_wp2_with (at_builtin;(
       refine wpList_append_at rfl (.tmp 83) (.tmp 88) 59 rfl B 126 i0 _ 3 24 Tryz.underlying59 Hi.out rfl (by decide) _ ((A.take q).filter (rKeep N k cw)).length (((A.take q).filter (rKeep N k cw)).flatMap cRg) rfl (World.ownsRow.alloc (rowA_chg (Chg.ofBelow (T:=fun _=>False) (below_drewN (Below.refl _ _) _)) Hl.out (fun _ _ e=>e)) _) _ 1 1 [.int .i64 en,.int .i64 el,.int .i64 et] rfl rfl (cells_new _ [.int .i64 en,.int .i64 el,.int .i64 et] _) ?_ (by unfold maxLen;have:=filter_le (rKeep N k cw) A q;omega) (by have:=filter_le (rKeep N k cw) A q;omega) (by simp;omega) ?_
       ·intro u hu;simp at hu;rcases hu with rfl|rfl|rfl<;>rfl
       intro v' w9 hown' hgrow hob
       refine stop_here ?_))
      refine hid_in ?_
      have hb9:Below wr.heap.size wr (((wr.drewN nq).alloc (.cells #[.int .i64 en,.int .i64 el,.int .i64 et] 126))):=(below_drewN (Below.refl _ _) _).alloc (Nat.le_refl _) _
      have c9:Chg (fun x=>(Value.slice la ((A.take q).filter (rKeep N k cw)).length lc).ownBlock=some x) wr w9:=(Chg.ofBelow hb9).trans (Chg.ofGrown hgrow) (fun _ _ e=>e)
      have hlB:∀b,(Value.slice la ((A.take q).filter (rKeep N k cw)).length lc).ownBlock=some b->B<=b:=fun b e=>(Hl.out.lt b e).1
      have L9:Hid (w9.ownsRow B 126 3 v' ((A.take (q+1)).filter (rKeep N k cw)).length (((A.take (q+1)).filter (rKeep N k cw)).flatMap cRg)):=by
       rw[Hf.out,flat_one,List.length_append]
       exact hown'
      have M9:Hid (RMid w ρ rb (rMidG R i ⟨s.src,N+(k:Int),s.gv,s.gaps⟩ (R.s.givenUp+((q+1-((A.take (q+1)).filter (rKeep N k cw)).length:Nat):Int))) (.slice (some ⟨g,0,none⟩) R.sds.length cap) wv (fun b=>ρ b=10+i\/ρ b=1\/ρ b=2) w9):=by
       rw[show R.s.givenUp+((q+1-((A.take (q+1)).filter (rKeep N k cw)).length:Nat):Int)=cu by rw[Hf.out,List.length_append,<-HCU.out];simp only[List.length_cons,List.length_nil];omega]
       exact Hm.out.chg Hrm.out c9 (fun b e=>by have h1:=hlB b e;have h2:=HhB.out b h1;omega) (fun b hb e=>by have h1:=hlB b e;omega)
      have C9:Hid (Chg (fun b=>b=rb) W3 w9):=Hc.out.trans c9 (fun b hb e=>by have h1:=hlB b e;have h2:=HB.out;omega)
      obtain⟨a9,c9',rfl⟩:=rowA_shape L9.out
      clear hown' hgrow hob hb9 c9 hlB a0 a1 a2 e0
      go_wp2
      go_roundw
      case rel=>exact⟨q+1,by omega,by go_num,L9.out,M9.out,C9.out⟩
      case measure=>simp[intOf];omega
     ·have HKE:Hid (rKeep N k cw ⟨en,el,et⟩=false):=by
       show _=_
       unfold rKeep
       rw[decide_eq_false hkp,Bool.and_false]
      have hkd:decide (N+(k:Int)-en<(cw:Int))=false:=decide_eq_false hkp
      clear hkp
      have Hf:Hid ((A.take (q+1)).filter (rKeep N k cw)=(A.take q).filter (rKeep N k cw)):=by
       show _=_
       rw[filter_take _ _ _ hlt,if_neg (by rw[hAq,HKE.out];decide),List.append_nil]
      have HP:Hid (∀m,RMid w ρ rb (rMidG R i ⟨s.src,N+(k:Int),s.gv,s.gaps⟩ (R.s.givenUp+((q+1-((A.take q).filter (rKeep N k cw)).length:Nat):Int))) (.slice (some ⟨g,0,none⟩) R.sds.length cap) wv (fun b=>ρ b=10+i\/ρ b=1\/ρ b=2) ((wr.drewN m).setCell ⟨rb,17,none⟩ (.int .i64 (cu+1)))):=fun m=>by
       have h1:=(Hm.out.below Hrm.out (below_drewN (Below.refl _ _) m)).put (R':=rMidG R i ⟨s.src,N+(k:Int),s.gv,s.gaps⟩ (cu+1)) Hrm.out (.inr (.inl Hrm.out)) 17 (.int .i64 (cu+1)) rfl rfl rfl
       rw[show R.s.givenUp+((q+1-((A.take q).filter (rKeep N k cw)).length:Nat):Int)=cu+1 by rw[<-HCU.out];have:=filter_le (rKeep N k cw) A q;omega]
       exact h1
      have HcN:Hid (∀m,Chg (fun b=>b=rb) W3 ((wr.drewN m).setCell ⟨rb,17,none⟩ (.int .i64 (cu+1)))):=fun m=>(Hc.out.trans (Chg.ofBelow (T:=fun _=>False) (below_drewN (Below.refl _ _) m)) (fun _ _ e=>e.elim)).setCell ⟨rb,17,none⟩ (.inl rfl) _
      have HlN:Hid (∀m,((wr.drewN m).setCell ⟨rb,17,none⟩ (.int .i64 (cu+1))).ownsRow B 126 3 (.slice la ((A.take q).filter (rKeep N k cw)).length lc) ((A.take q).filter (rKeep N k cw)).length (((A.take q).filter (rKeep N k cw)).flatMap cRg)):=fun m=>by
       have c9:Chg (fun b=>b=rb) wr ((wr.drewN m).setCell ⟨rb,17,none⟩ (.int .i64 (cu+1))):=((Chg.refl (fun b=>b=rb) wr).trans (Chg.ofBelow (T:=fun _=>False) (below_drewN (Below.refl _ _) m)) (fun _ _ e=>e.elim)).setCell ⟨rb,17,none⟩ (.inl rfl) _
       exact rowA_chg c9 Hl.out (fun b hb e=>by have:=(Hl.out.lt b hb).1;omega)
      go_wp2
      go_big_quiet (fail)
      go_wp2
      go_roundw
      case rel=>exact⟨q+1,by omega,by go_num,by rw[Hf.out];exact HlN.out _,by rw[Hf.out];exact HP.out _,HcN.out _⟩
      case measure=>simp[intOf];omega
    ·have hlt':¬(q:Int)<A.length:=by omega
     have hqe:q=A.length:=by omega
     have Hfin:Hid (∀lv:Value,lv = .slice la ((A.take q).filter (rKeep N k cw)).length lc->RdAt (wr.setCell ⟨g,i*3+2,none⟩ lv) (role lv (10+i) ρ) rb (X lv) (.slice (some ⟨g,0,none⟩) R.sds.length cap) wv/\RMv w ρ (wr.setCell ⟨g,i*3+2,none⟩ lv) (role lv (10+i) ρ)):=fun lv hlv=>by
      have hset:=Hm.out.setS (i:=i) (g:=g) (cap:=cap) Hrm.out (by simp only[rMidG,List.length_set]) (.inl (.inr (.inr Hxr.out))) (by simp only[rMidG,List.length_set];exact hil) 2 (by omega) lv ⟨s.src,N+(k:Int),lv,A.filter (rKeep N k cw)⟩ (by simp only[rMidG,List.getElem_set_self];rfl)
      have hr:(wr.setCell ⟨g,i*3+2,none⟩ lv).ownsRow 0 126 3 lv (A.filter (rKeep N k cw)).length ((A.filter (rKeep N k cw)).flatMap cRg):=by
       have h1:=rowA_chg ((Chg.refl (fun b=>b=g) _).setCell ⟨g,i*3+2,none⟩ (.inl rfl) lv) Hl.out (fun b hb e=>by have:=(Hl.out.lt b hb).1;omega)
       rw[List.take_of_length_le (by omega)]at h1 hlv
       rw[hlv]at h1 ⊢
       exact rowN_mono h1 (Nat.zero_le _)
      have hE:({ rMidG R i ⟨s.src,N+(k:Int),s.gv,s.gaps⟩ cu with sds:=(rMidG R i ⟨s.src,N+(k:Int),s.gv,s.gaps⟩ cu).sds.set i ⟨s.src,N+(k:Int),lv,A.filter (rKeep N k cw)⟩ }:Rm)=X lv:=by
       rw[<-HX.out,<-HCU.out,List.take_of_length_le (by omega),hqe]
       unfold rMidG rAhead
       simp only[List.set_set]
       rw[<-HA.out,HN.out]
      rw[hE]at hset
      refine RMid.endS (s':=⟨s.src,N+(k:Int),lv,A.filter (rKeep N k cw)⟩) H.out hset (fun b e=>e) hil (by rw[<-hE];simp only[rMidG,List.set_set]) (by rw[<-hE];rfl) rfl hr (fun b e=>?_)
      have:=(Hl.out.lt b (hlv▸e)).1
      omega
     clear v17 vf v1 u1 hqe
     go_wp2
     refine bodyPost_end (v:=.tuple #[]) (by simp[results,Tryz.results95,go_sem]) rfl ⟨rfl,_,⟨_,(Hfin.out _ rfl).1⟩,(Hfin.out _ rfl).2⟩
end Go.Proofs.YtdjhhnolcafkiaaGreat
namespace Go.Proofs.YtdjhhnolcafkiaaGreat
open Go.RowKit
namespace Pk
def rLeft (s:Rs) (n:Int):List Rg:=s.gaps.filter fun x=>decide (x.n≠s.newest-(s.newest-n)%65536)
def rComes (R:Rm) (i:Nat) (s:Rs) (n:Int) (cw:Nat) (gv:Value):Rm × Bool:=
 if s.newest<0 then({ R with sds:=R.sds.set i ⟨s.src,65536+n,s.gv,s.gaps⟩ },true)
 else if 1<=(n-s.newest)%65536/\(n-s.newest)%65536<=32767 then(rAhead R i s ((n-s.newest)%65536).toNat cw gv,true)
 else if(cw:Int)<=(s.newest-n)%65536 then({ R with s:={ R.s with late:=R.s.late+1 } },false)
 else if(rLeft s n).length=s.gaps.length then({ R with s:={ R.s with doubled:=R.s.doubled+1 } },false)
 else({ R with sds:=R.sds.set i ⟨s.src,s.newest,gv,rLeft s n⟩ },true)
theorem RMid.end2 {w W:World}{ρ:Nat->Nat}{rb:Nat}{R R':Rm}{sv wv:Value}{i:Nat}{s s':Rs}(h:RdAt w ρ rb R sv wv) (m:RMid w ρ rb R' sv wv (fun b=>ρ b=2) W) (hs:R.sds[i]? = some s) (e1:R'.sds=R.sds.set i s') (e2:R'.wns=R.wns) (hg:s'.gv=s.gv/\s'.gaps=s.gaps) :
  RdAt W ρ rb R' sv wv/\RMv w ρ W ρ:=by
 have nT:∀q,q≠2->∀b,ρ b=2->ρ b≠q:=fun q a1 b hb e=>a1 (e.symm.trans hb)
 refine⟨h.make m.c (fun _ _ _=>rfl) (fun b hl=>h.hi b (Nat.le_trans m.c.size hl)) m.k m.fz m.sr m.wr (fun j t ht=>?_) (fun j x hx=>.inl ⟨j,x,by rw[<-e2];exact hx,rfl,rfl,rfl,nT _ (by omega)⟩) (nT 4 (by omega)) (by rw[e2];exact h.ids) (by rw[e1,List.length_set];exact h.s4) (by rw[e2];exact h.w8),fun _ _ e=>e,m.c.mono (fun b _ e=>by rw[e];decide)⟩
 rw[e1,List.getElem?_set]at ht
 by_cases e:i=j
 ·subst e
  rw[if_pos rfl,if_pos (List.getElem?_eq_some_iff.1 hs).1,Option.some.injEq]at ht
  subst ht
  exact .inl ⟨s,hs,hg.1.symm,hg.2.symm,nT _ (by omega)⟩
 ·rw[if_neg e]at ht
  exact .inl ⟨t,ht,rfl,rfl,nT _ (by omega)⟩
end Pk
open Pk
theorem refComes_any (ρ:Nat->Nat) (rb g cap:Nat) (R:Rm) (wv:Value) (i cw:Nat) (n:Int) (s:Rs) (w:World) (h:RdAt w ρ rb R (.slice (some ⟨g,0,none⟩) R.sds.length cap) wv) (hs:R.sds[i]? = some s) (hnn:0<=n/\n<=65535) (hcw:R.c.window=(cw:Int)) (hcl:1<=cw/\cw<=200) (hn:-1<=s.newest/\s.newest<=10000000000000) (hgn:∀x∈s.gaps,0<=x.n/\x.n<=10000000000000) (hgl:s.gaps.length<=1000) (hgu:0<=R.s.givenUp/\R.s.givenUp<=1000000000000000) (hla:0<=R.s.late/\R.s.late<=1000000000000000) (hdo:0<=R.s.doubled/\R.s.doubled<=1000000000000000) :
  Calls Tryz.prog 75 #[.pointer (some ⟨rb,0,none⟩),.int .i64 i,.int .i64 n] w fun e w'=>∃gv,e = .returned (.bool (rComes R i s n cw gv).2)/\∃ρ',RdAt w' ρ' rb (rComes R i s n cw gv).1 (.slice (some ⟨g,0,none⟩) R.sds.length cap) wv/\RMv w ρ w' ρ':=by
 have H:=hyd h
 have hil:i<R.sds.length:=(List.getElem?_eq_some_iff.1 hs).1
 have hil':(i:Int)<(R.sds.length:Int):=by omega
 have Hs:=hyd hs
 have Hse:Hid (R.sds[i]=s):=(List.getElem?_eq_some_iff.1 hs).2
 obtain⟨g',cap',hsl,x0,x1,x2,xf,xl,xr⟩:=h.sndAt hs
 simp only[Value.slice.injEq,Option.some.injEq,Addr.mk.injEq,true_and,and_true]at hsl
 obtain⟨rfl,rfl⟩:=hsl
 have hga:=h.ga i s hs
 have hi4:i<4:=by have:=h.s4;omega
 have hs4:=h.s4
 have y18:w.cell? ⟨rb,18,none⟩=some (.slice (some ⟨g,0,none⟩) R.sds.length cap):=h.k 18 _ rfl
 have y1:w.cell? ⟨rb,1,none⟩=some (.int .i64 R.c.window):=h.k 1 _ rfl
 rw[hcw]at y1
 have HCW:=hyd hcw
 have Hrm:Hid (ρ rb=1):=h.rm
 have hrl:=h.lt
 have Hxr:=hyd xr
 obtain⟨ga,gc,hgv⟩:=rowA_shape hga.1
 have Hga:Hid (w.ownsRow 0 126 3 (.slice ga s.gaps.length gc) s.gaps.length (s.gaps.flatMap cRg)):=by rw[<-hgv];exact hga.1
 rw[hgv]at x2
 have Hgn:=hyd hgn
 obtain⟨N,hN⟩:∃N,s.newest=N:=⟨_,rfl⟩
 rw[hN]at x1 hn
 have HN:=hyd hN
 have Hgu:=hyd hgu
 obtain⟨X,hX⟩:∃X,rComes R i s n cw=X:=⟨_,rfl⟩
 have HX:=hyd hX
 rw[hX]
 have hi0:(0:Int)<=(i:Int):=by omega
 clear h hs hga hgv hgn hX hN x0 xr hcw hgu
 go_enter Tryz.func75,Tryz.ntmps75
 by_cases hneg:N<0
 ·have E:Hid (∀gv,X gv=({ R with sds:=R.sds.set i ⟨s.src,65536+n,s.gv,s.gaps⟩ },true)):=fun gv=>by
   rw[<-HX.out];unfold rComes;rw[if_pos (by rw[HN.out];exact hneg)]
  have hw1:IntKind.i64.wrap (65536+n)=65536+n:=i64_id _ (by omega) (by omega)
  have RM:Hid (RMid w ρ rb { R with sds:=R.sds.set i ⟨s.src,65536+n,s.gv,s.gaps⟩ } (.slice (some ⟨g,0,none⟩) R.sds.length cap) wv (fun b=>ρ b=2) (w.setCell ⟨g,i*3+1,none⟩ (.int .i64 (65536+n)))):=(H.out.mid _).setS Hrm.out rfl (.inl Hxr.out) hil 1 (by omega) _ _ (by rw[Hse.out];rfl)
  have HE:Hid (RdAt (w.setCell ⟨g,i*3+1,none⟩ (.int .i64 (65536+n))) ρ rb { R with sds:=R.sds.set i ⟨s.src,65536+n,s.gv,s.gaps⟩ } (.slice (some ⟨g,0,none⟩) R.sds.length cap) wv/\RMv w ρ (w.setCell ⟨g,i*3+1,none⟩ (.int .i64 (65536+n))) ρ):=RMid.end2 H.out RM.out Hs.out rfl rfl ⟨rfl,rfl⟩
  clear RM
  go_wp2
  go_ret
  exact⟨.slice none 0 0,by rw[E.out];rfl,ρ,by rw[E.out];exact HE.out.1,HE.out.2⟩
 ·have hneg':decide (N<0)=false:=decide_eq_false hneg
  have hw1:IntKind.i64.wrap (n-N)=n-N:=i64_id _ (by omega) (by omega)
  have hw2:IntKind.i64.wrap (N-n)=N-n:=i64_id _ (by omega) (by omega)
  have Hneg:Hid (0<=s.newest):=by show _<=_;rw[HN.out];omega
  go_wp2_with fail
  refine(refRound_any _ _).mono ?_
  rintro e w1 ⟨rfl,hw1'⟩
  rw[hw1']
  clear hw1'
  obtain⟨kn,hkn⟩:∃kn:Nat,(n-N)%65536=(kn:Int):=⟨((n-N)%65536).toNat,by omega⟩
  have Hkn:=hyd hkn
  have hkl:kn<65536:=by omega
  rw[hkn]
  clear hkn
  by_cases hk1:1<=kn
  focus
   have hk1':(1:Int)<=(kn:Int):=by omega
   by_cases hk2:kn<=32767
   ·have hk2':(kn:Int)<=32767:=by omega
    have E:Hid (∀gv,X gv=(rAhead R i s kn cw gv,true)):=fun gv=>by
     rw[<-HX.out];unfold rComes;rw[if_neg (by have:=Hneg.out;omega),HN.out,Hkn.out,if_pos ⟨hk1',hk2'⟩];rfl
    go_wp2_with fail
    refine(refAhead_any ρ rb g cap R wv i kn cw s _ H.out Hs.out ⟨hk1,hk2⟩ HCW.out hcl (by rw[HN.out];omega) Hgn.out hgl Hgu.out).mono ?_
    rintro e w2 ⟨rfl,ρ',gv,hR,hM⟩
    have HR:=hyd hR
    have HM:=hyd hM
    clear hR hM
    go_wp2
    go_ret
    exact⟨gv,by rw[E.out];rfl,ρ',by rw[E.out];exact HR.out,HM.out⟩
   focus
    have hk2':decide ((kn:Int)<=32767)=false:=decide_eq_false (by omega)
  rotate_left
  focus
   have hk1':decide ((1:Int)<=(kn:Int))=false:=decide_eq_false (by omega)
  all_goals
   have Hnk:Hid (¬(1<=(n-s.newest)%65536/\(n-s.newest)%65536<=32767)):=by rw[HN.out,Hkn.out];exact fun e=>by omega
   go_wp2_with fail
   refine(refRound_any _ _).mono ?_
   rintro e w1 ⟨rfl,hw1'⟩
   rw[hw1']
   clear hw1'
   obtain⟨jn,hjn⟩:∃jn:Nat,(N-n)%65536=(jn:Int):=⟨((N-n)%65536).toNat,by omega⟩
   have Hjn:=hyd hjn
   have hjl:jn<65536:=by omega
   rw[hjn]
   clear hjn
   by_cases hlate:cw<=jn
   ·have hlate':(cw:Int)<=(jn:Int):=by omega
    have E:Hid (∀gv,X gv=({ R with s:={ R.s with late:=R.s.late+1 } },false)):=fun gv=>by
     rw[<-HX.out];unfold rComes;rw[if_neg (by have:=Hneg.out;omega),if_neg Hnk.out,HN.out,Hjn.out,if_pos hlate']
    have y10:w.cell? ⟨rb,10,none⟩=some (.int .i64 R.s.late):=H.out.k 10 _ rfl
    have yf:=H.out.fz
    have hwl:IntKind.i64.wrap (R.s.late+1)=R.s.late+1:=i64_id _ (by omega) (by omega)
    have HE:Hid (RdAt (w.setCell ⟨rb,10,none⟩ (.int .i64 (R.s.late+1))) ρ rb { R with s:={ R.s with late:=R.s.late+1 } } (.slice (some ⟨g,0,none⟩) R.sds.length cap) wv):=H.out.put 10 _ rfl rfl rfl
    have HM:Hid (RMv w ρ (w.setCell ⟨rb,10,none⟩ (.int .i64 (R.s.late+1))) ρ):=⟨fun _ _ e=>e,(Chg.refl _ _).setCell ⟨rb,10,none⟩ (.inl (by show ρ rb≠0;rw[Hrm.out];decide)) _⟩
    go_wp2
    go_ret
    exact⟨.slice none 0 0,by rw[E.out];rfl,ρ,by rw[E.out];exact HE.out,HM.out⟩
   ·have hlate':decide ((cw:Int)<=(jn:Int))=false:=decide_eq_false (by omega)
    have Hlate:Hid ((s.newest-n)%65536<(cw:Int)):=by show _<_;rw[HN.out,Hjn.out];omega
    have hjc:(jn:Int)<(cw:Int):=by omega
    have hjc2:jn<cw:=by omega
    have hjc3:decide (cw<=jn)=false:=decide_eq_false (by omega)
    have HL:Hid (rLeft s n=s.gaps.filter fun x=>decide (x.n≠N-(jn:Int))):=by show _=_;unfold rLeft;rw[HN.out,Hjn.out]
    have hw3:IntKind.i64.wrap (N-(jn:Int))=N-(jn:Int):=i64_id _ (by omega) (by omega)
    obtain⟨i0,hi,hz0,hz1,hz2⟩:=info_parts gap_info
    have Hi:Hid (Tryz.prog.info? 126=some i0/\i0.zero=some (.agg #[.int .i64 0,.int .i64 0,.int .i64 0])/\i0.size=3/\i0.bytes=24):=⟨hi,hz0,hz1,hz2⟩
    clear hi hz0 hz1 hz2 hlate
    go_wp2
    go_loopw [10,11] (fun v s11 wr=>∃q:Nat,q<=s.gaps.length/\s11 = .int .i64 q/\wr.ownsRow w.heap.size 126 3 v ((s.gaps.take q).filter fun x=>decide (x.n≠N-(jn:Int))).length (((s.gaps.take q).filter fun x=>decide (x.n≠N-(jn:Int))).flatMap cRg)/\Below w.heap.size w wr) (fun _ s11 _=>s.gaps.length-(intOf s11).toNat)
    case atStart=>exact⟨0,Nat.zero_le _,rfl,World.ownsRow_nil _ _ _ _,Below.refl _ _⟩
    case round=>
     obtain⟨q,hq,rfl,hl,hb⟩:=hrel
     obtain⟨la,lc,rfl⟩:=rowA_shape hl
     have Hl:=hyd hl
     have Hb:=hyd hb
     have hsz:=hb.size
     have hfl:=filter_le (fun x:Rg=>decide (x.n≠N-(jn:Int))) s.gaps q
     have u1:wr.cell? ⟨g,i*3+1,none⟩=some (.int .i64 N):=(hb.cell (p:=⟨g,i*3+1,none⟩) xl).trans x1
     have u2:wr.cell? ⟨g,i*3+2,none⟩=some (.slice ga s.gaps.length gc):=(hb.cell (p:=⟨g,i*3+2,none⟩) xl).trans x2
     clear hl hb
     by_cases hlt:q<s.gaps.length
     ·have hlt':(q:Int)<s.gaps.length:=by omega
      obtain⟨gg,rfl⟩:=rowA_some Hga.out (by omega)
      obtain⟨a0,a1,a2⟩:=gap_at Hga.out rfl q hlt
      have hgg:=(Hga.out.lt gg rfl).2
      have a0:=(Hb.out.cell (p:=⟨gg,q*3,none⟩) hgg).trans a0
      have a1:=(Hb.out.cell (p:=⟨gg,q*3+1,none⟩) hgg).trans a1
      have a2:=(Hb.out.cell (p:=⟨gg,q*3+2,none⟩) hgg).trans a2
      obtain⟨e,hAq⟩:∃e,s.gaps[q]=e:=⟨_,rfl⟩
      rw[hAq]at a0 a1 a2
      obtain⟨en,el,et⟩:=e
      simp only at a0 a1 a2
      by_cases hne:en=N-(jn:Int)
      ·have Hf:Hid (((s.gaps.take (q+1)).filter fun x=>decide (x.n≠N-(jn:Int)))=(s.gaps.take q).filter fun x=>decide (x.n≠N-(jn:Int))):=by
        show _=_
        rw[filter_take _ _ _ hlt,if_neg (by rw[hAq];simp[hne]),List.append_nil]
       have hneb:(en != N-(jn:Int))=false:=by simp[hne]
       have Hn2:Hid (∀m,Below w.heap.size w (wr.drewN m)):=fun m=>below_drewN Hb.out m
       have Hl2:Hid (∀m,(wr.drewN m).ownsRow w.heap.size 126 3 (.slice la ((s.gaps.take q).filter fun x=>decide (x.n≠N-(jn:Int))).length lc) ((s.gaps.take q).filter fun x=>decide (x.n≠N-(jn:Int))).length (((s.gaps.take q).filter fun x=>decide (x.n≠N-(jn:Int))).flatMap cRg)):=fun m=>rowA_chg (Chg.ofBelow (T:=fun _=>False) (below_drewN (Below.refl _ _) m)) Hl.out (fun _ _ e=>e)
       clear hne hAq
       go_wp2
       go_big_quiet (fail)
       go_wp2
       go_roundw
       case rel=>exact⟨q+1,by omega,by go_num,by rw[Hf.out];exact Hl2.out _,Hn2.out _⟩
       case measure=>simp[intOf];omega
      ·have Hf:Hid (((s.gaps.take (q+1)).filter fun x=>decide (x.n≠N-(jn:Int)))=((s.gaps.take q).filter fun x=>decide (x.n≠N-(jn:Int)))++[⟨en,el,et⟩]):=by
        show _=_
        rw[filter_take _ _ _ hlt,if_pos (by rw[hAq];simp[hne]),hAq]
       have hneb:(en != N-(jn:Int))=true:=by simp[hne]
       clear hne hAq
       go_wp2
       go_big_quiet (fail)
       go_wp2_with (at_builtin;(
        refine wpList_append_at rfl (.tmp 92) (.tmp 100) 59 rfl w.heap.size 126 i0 _ 3 24 Tryz.underlying59 Hi.out rfl (by decide) _ ((s.gaps.take q).filter fun x=>decide (x.n≠N-(jn:Int))).length (((s.gaps.take q).filter fun x=>decide (x.n≠N-(jn:Int))).flatMap cRg) rfl (World.ownsRow.alloc (rowA_chg (Chg.ofBelow (T:=fun _=>False) (below_drewN (Below.refl _ _) _)) Hl.out (fun _ _ e=>e)) _) _ 1 1 [.int .i64 en,.int .i64 el,.int .i64 et] rfl rfl (cells_new _ [.int .i64 en,.int .i64 el,.int .i64 et] _) ?_ (by unfold maxLen;omega) (by omega) (by simp;omega) ?_
        ·intro u hu;simp at hu;rcases hu with rfl|rfl|rfl<;>rfl
        intro v' w9 hown' hgrow hob
        refine stop_here ?_))
       refine hid_in ?_
       have L9:Hid (w9.ownsRow w.heap.size 126 3 v' ((s.gaps.take (q+1)).filter fun x=>decide (x.n≠N-(jn:Int))).length (((s.gaps.take (q+1)).filter fun x=>decide (x.n≠N-(jn:Int))).flatMap cRg)):=by
        rw[Hf.out,flat_one,List.length_append]
        exact hown'
       have B9:Hid (Below w.heap.size w w9):=((below_drewN Hb.out nq).alloc (by simpa using hsz) _).grown hgrow (by simp;omega) (fun b e=>(Hl.out.lt b e).1)
       obtain⟨a9,c9',rfl⟩:=rowA_shape L9.out
       clear hown' hgrow hob a0 a1 a2 u1 u2
       go_wp2
       go_roundw
       case rel=>exact⟨q+1,by omega,by go_num,L9.out,B9.out⟩
       case measure=>simp[intOf];omega
     ·have hlt':¬(q:Int)<s.gaps.length:=by omega
      have hqe:s.gaps.take q=s.gaps:=List.take_of_length_le (by omega)
      rw[hqe]at Hl hfl ⊢
      rw[<-HL.out]at Hl hfl ⊢
      clear hqe
      have HW:Hid (RdAt wr ρ rb R (.slice (some ⟨g,0,none⟩) R.sds.length cap) wv):=H.out.below Hb.out
      have v12:wr.cell? ⟨rb,11,none⟩=some (.int .i64 R.s.doubled):=HW.out.k 11 _ rfl
      have vf:=HW.out.fz
      have hwd:IntKind.i64.wrap (R.s.doubled+1)=R.s.doubled+1:=i64_id _ (by omega) (by omega)
      by_cases hsame:(rLeft s n).length=s.gaps.length
      ·have E:Hid (∀gv,X gv=({ R with s:={ R.s with doubled:=R.s.doubled+1 } },false)):=fun gv=>by
        rw[<-HX.out];unfold rComes;rw[if_neg (by have:=Hneg.out;omega),if_neg Hnk.out,if_neg (by have:=Hlate.out;omega),if_pos hsame]
       have hsb:(((rLeft s n).length:Int) == (s.gaps.length:Int))=true:=by simp[hsame]
       have HE:Hid (RdAt (wr.setCell ⟨rb,11,none⟩ (.int .i64 (R.s.doubled+1))) ρ rb { R with s:={ R.s with doubled:=R.s.doubled+1 } } (.slice (some ⟨g,0,none⟩) R.sds.length cap) wv):=HW.out.put 11 _ rfl rfl rfl
       have HM:Hid (RMv w ρ (wr.setCell ⟨rb,11,none⟩ (.int .i64 (R.s.doubled+1))) ρ):=(RMv.below Hb.out).trans ⟨fun _ _ e=>e,(Chg.refl _ _).setCell ⟨rb,11,none⟩ (.inl (by show ρ rb≠0;rw[Hrm.out];decide)) _⟩
       clear hsame
       go_wp2
       go_ret
       exact⟨.slice none 0 0,by rw[E.out];rfl,ρ,by rw[E.out];exact HE.out,HM.out⟩
      ·have E:Hid (∀gv,X gv=({ R with sds:=R.sds.set i ⟨s.src,s.newest,gv,rLeft s n⟩ },true)):=fun gv=>by
        rw[<-HX.out];unfold rComes;rw[if_neg (by have:=Hneg.out;omega),if_neg Hnk.out,if_neg (by have:=Hlate.out;omega),if_neg hsame]
       have hsb:(((rLeft s n).length:Int) == (s.gaps.length:Int))=false:=by simp;omega
       have gf:∀o,wr.frozen? ⟨g,o,none⟩=false:=fun o=>HW.out.sr.1.frozenAt o
       have HE:Hid (RdAt (wr.setCell ⟨g,i*3+2,none⟩ (.slice la (rLeft s n).length lc)) (role (.slice la (rLeft s n).length lc) (10+i) ρ) rb { R with sds:=R.sds.set i ⟨s.src,s.newest,.slice la (rLeft s n).length lc,rLeft s n⟩ } (.slice (some ⟨g,0,none⟩) R.sds.length cap) wv/\RMv w ρ (wr.setCell ⟨g,i*3+2,none⟩ (.slice la (rLeft s n).length lc)) (role (.slice la (rLeft s n).length lc) (10+i) ρ)):=by
        have hset:=((H.out.mid (fun b=>ρ b=10+i\/ρ b=1\/ρ b=2)).below Hrm.out Hb.out).setS (i:=i) (g:=g) (cap:=cap) Hrm.out rfl (.inl (.inr (.inr Hxr.out))) hil 2 (by omega) (.slice la (rLeft s n).length lc) ⟨s.src,s.newest,.slice la (rLeft s n).length lc,rLeft s n⟩ (by rw[Hse.out];rfl)
        refine RMid.endS (s':=⟨s.src,s.newest,.slice la (rLeft s n).length lc,rLeft s n⟩) H.out hset (fun b e=>e) hil rfl rfl rfl ?_ (fun b e=>(Hl.out.lt b e).1)
        exact rowN_mono (rowA_chg ((Chg.refl (fun b=>b=g) _).setCell ⟨g,i*3+2,none⟩ (.inl rfl) _) Hl.out (fun b hb e=>by have:=(Hl.out.lt b hb).1;omega)) (Nat.zero_le _)
       clear hsame
       go_wp2
       go_ret
       exact⟨.slice la (rLeft s n).length lc,by rw[E.out];rfl,_,by rw[E.out];exact HE.out.1,HE.out.2⟩
end Go.Proofs.YtdjhhnolcafkiaaGreat
namespace Go.Proofs.YtdjhhnolcafkiaaGreat
open Go.RowKit
namespace Pk
section
variable {w W : World} {ρ ρ' : Nat -> Nat} {rb : Nat} {R R' : Rm} {sv wv : Value} {T : Nat -> Prop}
theorem RMid.setW (h:RMid w ρ rb R sv wv T W) (hrm:ρ rb=1){g cap i:Nat}(hwv:wv = .slice (some ⟨g,0,none⟩) R.wns.length cap) (hT:T g\/w.heap.size<=g) (hi:i<R.wns.length) (j:Nat) (hj:j<11) (u:Value) (x':Rw) (hx:cRw x'=(cRw R.wns[i]).set j u):RMid w ρ rb { R with wns:=R.wns.set i x' } sv wv T (W.setCell ⟨g,i*11+j,none⟩ u):=by
 subst hwv
 have hg3:ρ g=3:=h.wr.2 g rfl
 have hc:Chg (fun b=>b=g) W (W.setCell ⟨g,i*11+j,none⟩ u):=(Chg.refl (fun b=>b=g) _).setCell ⟨g,i*11+j,none⟩ (.inl rfl) _
 have hst:=(h.wr.1.stored (i*11+j) u).1
 refine⟨h.c.trans hc (fun b hb e=>?_),fun q v hv=>hc.cell (h.k q v hv) (fun e=>by rw[<-e,hrm]at hg3;cases hg3),fun o=>by rw[World.frozen?_setCell];exact h.fz o,h.sr.keep hc (fun b e=>by rw[e,hg3];decide) (fun _ _ e=>e),⟨?_,h.wr.2⟩⟩
 ·rcases hT with hT|hT
  ·rw[e];exact hT
  ·rw[e]at hb;exact absurd hb (by omega)
 ·simp only[List.length_set]
  rw[<-flat_set cRw_len x' u j hj R.wns i hi hx]
  exact hst
theorem RMid.endW {i:Nat}{x x':Rw}(h:RdAt w ρ rb R sv wv) (m:RMid w ρ rb R' sv wv T W) (hT:∀b,T b->ρ b=1000+x.id.toNat\/ρ b=1\/ρ b=3) (hx:R.wns[i]? = some x) (hid:x'.id=x.id) (e1:R'.wns=R.wns.set i x') (e2:R'.sds=R.sds) (hρ:∀b,b<w.heap.size->ρ' b=ρ b) (hh:∀b,W.heap.size<=b->ρ' b=0) (hr:RowR W ρ' (1000+x.id.toNat) 152 12 x'.av x'.all.length (x'.all.flatMap cRe)) (hcon:∀e∈x'.all,IsC (fun b=>ρ' b=4) W e.cv e.x.cl) :
  RdAt W ρ' rb R' sv wv/\RMv w ρ W ρ':=by
 have hil:=(List.getElem?_eq_some_iff.1 hx).1
 have nT:∀q,q≠1000+x.id.toNat->q≠1->q≠3->∀b,T b->ρ b≠q:=fun q a1 a2 a3 b hb e=>by
  rcases hT b hb with e'|e'|e'<;>omega
 have hat:∀j y,R'.wns[j]? = some y->(j=i/\y=x')\/(j≠i/\R.wns[j]? = some y):=fun j y hy=>by
  rw[e1,List.getElem?_set]at hy
  by_cases e:i=j
  ·rw[if_pos e,if_pos hil,Option.some.injEq]at hy
   exact .inl ⟨e.symm,hy.symm⟩
  ·rw[if_neg e]at hy
   exact .inr ⟨fun e'=>e e'.symm,hy⟩
 refine⟨h.make m.c (fun b hl _=>hρ b hl) hh m.k m.fz ⟨m.sr.1,fun b e=>(hρ b (h.sr.1.lt b e).2).trans (h.sr.2 b e)⟩ ⟨m.wr.1,fun b e=>(hρ b (h.wr.1.lt b e).2).trans (h.wr.2 b e)⟩ (fun j s hs=>.inl ⟨s,by rw[<-e2];exact hs,rfl,rfl,?_⟩) (fun j y hy=>?_) (nT 4 (by omega) (by omega) (by omega)) (fun j k y z hjk hy hz=>?_) (by rw[e2];exact h.s4) (by rw[e1,List.length_set];exact h.w8),fun b hl e=>(hρ b hl).trans e,m.c.mono (fun b _ e=>?_)⟩
 ·have hj:j<4:=by have:=h.s4;have:=(List.getElem?_eq_some_iff.1 hs).1;rw[e2]at this;omega
  exact nT _ (by omega) (by omega) (by omega)
 ·rcases hat j y hy with⟨-,rfl⟩|⟨hne,e⟩
  ·rw[hid]
   exact .inr ⟨hr,hcon⟩
  ·exact .inl ⟨j,y,e,rfl,rfl,rfl,nT _ (by have:=h.ids j i y x hne e hx;omega) (by omega) (by omega)⟩
 ·rcases hat j y hy with⟨rfl,rfl⟩|⟨hne,e⟩
  ·rcases hat k z hz with⟨rfl,rfl⟩|⟨hne',e'⟩
   ·exact absurd rfl hjk
   ·rw[hid]
    exact h.ids _ _ x z hjk hx e'
  ·rcases hat k z hz with⟨rfl,rfl⟩|⟨hne',e'⟩
   ·rw[hid]
    exact h.ids _ _ y x hjk e hx
   ·exact h.ids j k y z hjk e e'
 ·rcases hT b e with e'|e'|e'<;>rw[e']<;>omega
end
structure PxAt (s:Nat) (W:World) (x:PP) (cv:Value):Prop where
 k:∀j u,(cellsP x cv)[j]? = some u->W.cell? ⟨s,j,none⟩=some u
 f:∀o,W.frozen? ⟨s,o,none⟩=false
theorem PxAt.lt {s:Nat}{W:World}{x:PP}{cv:Value}(h:PxAt s W x cv):s<W.heap.size:=lt_of_cell (h.k 0 _ rfl)
theorem PxAt.chg {s:Nat}{W W':World}{x:PP}{cv:Value}{T:Nat->Prop}(h:PxAt s W x cv) (hc:Chg T W W') (hT:¬T s):PxAt s W' x cv:=
 ⟨fun j u hu=>hc.cell (h.k j u hu) hT,fun o=>(hc.frozen (p:=⟨s,o,none⟩) h.lt hT).trans (h.f o)⟩
theorem PxAt.below {s:Nat}{W W':World}{x:PP}{cv:Value}(h:PxAt s W x cv) (hb:Below W.heap.size W W'):PxAt s W' x cv:=h.chg (T:=fun _=>False) (Chg.ofBelow hb) (fun e=>e)
theorem PxAt.set {s:Nat}{W:World}{x x':PP}{cv:Value}(h:PxAt s W x cv) (j:Nat) (u:Value) (hj:cellsP x' cv=(cellsP x cv).set j u):PxAt s (W.setCell ⟨s,j,none⟩ u) x' cv:=by
 refine⟨fun i v hv=>?_,fun o=>by rw[World.frozen?_setCell];exact h.f o⟩
 rw[hj,List.getElem?_set]at hv
 by_cases e:j=i
 ·subst e
  rw[if_pos rfl]at hv
  split at hv
  ·rename_i hl
   simp only[Option.some.injEq]at hv
   rw[<-hv]
   exact World.cell?_setCell_same _ _ _ (h.k j _ (List.getElem?_eq_getElem hl))
  ·cases hv
 ·rw[if_neg e]at hv
  rw[World.cell?_setCell_other _ _ _ _ (fun e'=>e (by injection e'))]
  exact h.k i v hv
theorem PxAt.new (W:World) (x:PP) (cv:Value) (t:TypeId):PxAt W.heap.size (W.alloc (.cells (cellsP x cv).toArray t)) x cv:=
 ⟨fun j u hu=>by rw[cell_new,<-hu,List.getElem?_toArray],fun o=>frozen_new _ _ _ o⟩
def tellX (x:PP):ByteArray × Int:=tellR x.mrk x.ex x.ty x.nu x.ti x.so x.pr x.pa x.cl x.en x.py
end Pk
end Go.Proofs.YtdjhhnolcafkiaaGreat
