import Derived.Test.YtdjhhnolcafkiaaGreatG01
import Derived.Deep.RegionHeld3
import Derived.Test.YtdjhhnolcafkiaaGreatG02
set_option linter.unusedVariables false
set_option linter.unusedSimpArgs false
set_option maxHeartbeats 40000000
set_option maxRecDepth 20000
namespace Go.Proofs.YtdjhhnolcafkiaaGreat
open Go.RowKit
namespace Pk
def rep (n:Nat) (cs:List Value):List Value:=(List.replicate n cs).flatten
theorem rep_length (n:Nat) (cs:List Value):(rep n cs).length=n*cs.length:=by
 unfold rep
 induction n with
 | zero=>simp
 | succ n ih=>rw[List.replicate_succ,List.flatten_cons,List.length_append,ih,Nat.succ_mul];omega
theorem rep_add (n m:Nat) (cs:List Value):rep (n+m) cs=rep n cs++rep m cs:=by
 unfold rep
 rw[<-List.replicate_append_replicate,List.flatten_append]
theorem rep_take (n k:Nat) (cs:List Value) (h:k<=n):(rep n cs).take (k*cs.length)=rep k cs:=by
 obtain⟨m,rfl⟩:∃m,n=k+m:=⟨n-k,by omega⟩
 rw[rep_add,List.take_left' (rep_length k cs)]
theorem rep_at (n:Nat) (cs:List Value):∀k j,k<n->j<cs.length->(rep n cs)[k*cs.length+j]? = cs[j]?:=by
 induction n with
 | zero=>intro k j h;omega
 | succ n ih=>
  intro k j hk hj
  rw[show rep (n+1) cs=cs++rep n cs by unfold rep;rw[List.replicate_succ,List.flatten_cons]]
  cases k with
  | zero=>rw[Nat.zero_mul,Nat.zero_add,List.getElem?_append_left hj]
  | succ k=>
   rw[List.getElem?_append_right (by rw[Nat.succ_mul];omega),show(k+1)*cs.length+j-cs.length=k*cs.length+j by rw[Nat.succ_mul];omega]
   exact ih k j (by omega) hj
def MkN (W:World) (base e:Nat) (v:Value) (n:Nat) (cs:List Value):Prop:=W.ownsRow base e cs.length v n (rep n cs)
theorem MkN.shape {W:World}{base e n:Nat}{v:Value}{cs:List Value}(h:MkN W base e v n cs):∃ao cap,v = .slice ao n cap:=by
 obtain⟨_,h2|⟨g,cap,cur,rfl,_⟩⟩:=h
 ·exact⟨none,0,by rw[h2.1,h2.2]⟩
 ·exact⟨_,_,rfl⟩
theorem MkN.cell {W:World}{base e n cap:Nat}{ao:Option Addr}{cs:List Value}(h:MkN W base e (.slice ao n cap) n cs) (k:Nat) (hk:k<n) :
  ∃b,ao=some ⟨b,0,none⟩/\base<=b/\b<W.heap.size/\∀j,j<cs.length->W.cell? ⟨b,k*cs.length+j,none⟩=cs[j]?:=by
 have h':=h
 obtain⟨h1,h2|⟨g,cap',cur,e',hb,hg,r⟩⟩:=h
 ·obtain⟨_,h0⟩:=h2;omega
 ·simp only[Value.slice.injEq]at e'
  obtain⟨rfl,_,rfl⟩:=e'
  refine⟨g,rfl,hb,(World.ownsRow.lt h' g rfl).2,fun j hj=>?_⟩
  rw[World.ownsRow.cellAt h' (k*cs.length+j) (by have:=Nat.mul_le_mul_right cs.length (show k+1<=n from hk);rw[Nat.succ_mul]at this;omega),rep_at n cs k j hk hj]
theorem MkN.chg {T:Nat->Prop}{a b:World}{base e n:Nat}{v:Value}{cs:List Value}(h:MkN a base e v n cs) (hc:Chg T a b) (hn:∀x,v.ownBlock=some x->¬T x):MkN b base e v n cs:=by
 have hl:=World.ownsRow.lt h
 obtain⟨h1,h2|⟨g,cap,cur,rfl,hb,hh,r⟩⟩:=h
 ·exact⟨h1,.inl h2⟩
 ·exact⟨h1,.inr ⟨g,cap,cur,rfl,hb,(hc.block g (hl g rfl).2 (hn g rfl)).trans hh,r⟩⟩
theorem append_like (w:World) (base:Nat) (t e ty:TypeId) (ht:Tryz.prog.underlying t=some (.slice e)) (i:TypeInfo) (z:Value) (bytes:Nat) (hi:Tryz.prog.info? e=some i) (hz:i.zero=some z) (cs:List Value) (hsize:i.size=cs.length) (hby:i.bytes=bytes) (hbb:bytes<=100) (hzs:z.cells.size=cs.length) (hpos:0<cs.length)
  (h1:∀u∈cs,u.oneCell'=true) (v:Value) (n j:Nat) (hown:MkN w base e v n cs) (ad:Addr) (c:Nat) (hnews:∀k u,(rep j cs)[k]? = some u->w.cell? (ad.add k)=some u)
  (hn:n+j<=10000) (hbase:base<=w.heap.size) :
  ∃v' w',(Builtin.append_ #[t,t] ty #[v,.slice (some ad) j c]).run Tryz.prog w = .ok v' w'/\MkN w' base e v' (n+j) cs/\(∀u k,k<=n+j->MkN w base e u k cs->MkN w' base e u k cs)/\w.grownBy w' v.ownBlock/\
   (v'.ownBlock=v.ownBlock\/v'.ownBlock=some w.heap.size):=by
 have hone:∀u∈rep j cs,u.oneCell'=true:=fun u hu=>by
  unfold rep at hu
  obtain⟨l,hl,hul⟩:=List.mem_flatten.1 hu
  rw[List.mem_replicate]at hl
  rw[hl.2]at hul
  exact h1 u hul
 have hnb:(n+j)*bytes<=10000*100:=Nat.mul_le_mul hn hbb
 obtain⟨v',w',hr,h2,h3,h4,h5⟩:=run_append_own_at (P:=Tryz.prog) w base t ty e i z cs.length bytes ht hi hz hsize hby hzs hpos v n (rep n cs) hown ad j c (rep j cs)
  (rep_length j cs) hnews hone (by unfold maxLen;omega) (by omega) hbase
 have h2':MkN w' base e v' (n+j) cs:=by
  unfold MkN
  rw[rep_add]
  exact h2
 refine⟨v',w',hr,h2',?_,h3,h5⟩
 intro u k hk hu
 by_cases hb:u.ownBlock=none\/u.ownBlock≠v.ownBlock
 ·exact World.ownsRow.kept hu h3 hb
 ·have hb1:u.ownBlock=v.ownBlock:=by
   rcases Decidable.em (u.ownBlock=v.ownBlock)with h|h
   ·exact h
   ·exact absurd (.inr h) hb
  have hb2:u.ownBlock≠none:=fun e=>hb (.inl e)
  obtain⟨hu1,hu2|⟨g,cap,cur,rfl,hbg,hg,hnc,hcm,hcs,hct⟩⟩:=hu
  ·rw[hu2.1]at hb2;exact absurd rfl hb2
  ·have hvg:v.ownBlock=some g:=hb1.symm
   have hglt:g<w.heap.size:=(World.ownsRow.lt hown g hvg).2
   obtain⟨_,hv2|⟨g',capv,curv,rfl,hbv,hgv,hncv,hcmv,hcsv,hctv⟩⟩:=hown
   ·rw[hv2.1]at hvg;cases hvg
   ·have eg:g'=g:=by simpa[Value.ownBlock]using hvg
    subst eg
    rw[hg]at hgv
    simp only[Option.some.injEq,Obj.cells.injEq,and_true]at hgv
    obtain⟨rfl,_⟩:=hgv
    have hcap:cap=capv:=by
     have:cap*cs.length=capv*cs.length:=by rw[<-hcs,<-hcsv]
     exact Nat.eq_of_mul_eq_mul_right hpos this
    rcases h5 with h5|h5
    ·obtain⟨_,hw2|⟨g2,cap2,cur2,rfl,hb2',hg2,hnc2,hcm2,hcs2,hct2⟩⟩:=h2'
     ·rw[hw2.1]at h5;cases h5
     ·have eg2:g2=g':=by simpa[Value.ownBlock]using h5
      subst eg2
      by_cases hroom:n+j<=capv
      ·have hr2:=run_append_room (P:=Tryz.prog) w t ty e i ht hi g2 n capv cur hg ad j c (rep j cs) (by rw[hsize,rep_length]) hnews hone hroom (by rw[hsize,rep_length,hcsv,<-Nat.add_mul];exact Nat.mul_le_mul_right _ hroom)
       rw[hr]at hr2
       simp only[Result.ok.injEq,Value.slice.injEq]at hr2
       have hcc:cap2=capv:=hr2.1.2.2
       refine⟨hu1,.inr ⟨g2,cap,cur2,rfl,hbg,hg2,hnc,hcm,by rw[hcs2,hcc,hcap],?_⟩⟩
       have:=congrArg (List.take (k*cs.length)) hct2
       rw[List.take_take,Nat.min_eq_left (Nat.mul_le_mul_right _ hk)]at this
       rw[this,rep_take _ _ _ hk]
      ·exfalso
       have hr2:=run_append_grow (P:=Tryz.prog) w t ty e i z ht hi hz ⟨g2,0,none⟩ n capv (rep n cs) (by rw[hsize,rep_length]) (World.ownsRow.cells (e:=e) (size:=cs.length) (base:=base) (v:=.slice (some ⟨g2,0,none⟩) n capv) (n:=n) ⟨rep_length n cs,.inr ⟨g2,capv,cur,rfl,hbv,hg,hncv,hcmv,hcsv,hctv⟩⟩ rfl) ad j c (rep j cs) (by rw[hsize,rep_length]) hnews (by omega) (by omega) (by rw[hby];exact growslice_fits (by omega) (by omega))
       rw[hr]at hr2
       simp only[Result.ok.injEq,Value.slice.injEq,Option.some.injEq,Addr.mk.injEq]at hr2
       omega
    ·by_cases hroom:n+j<=capv
     ·exfalso
      have hr2:=run_append_room (P:=Tryz.prog) w t ty e i ht hi g' n capv cur hg ad j c (rep j cs) (by rw[hsize,rep_length]) hnews hone hroom (by rw[hsize,rep_length,hcsv,<-Nat.add_mul];exact Nat.mul_le_mul_right _ hroom)
      rw[hr]at hr2
      simp only[Result.ok.injEq]at hr2
      rw[hr2.1]at h5
      simp[Value.ownBlock]at h5
      omega
     ·have hr2:=run_append_grow (P:=Tryz.prog) w t ty e i z ht hi hz ⟨g',0,none⟩ n capv (rep n cs) (by rw[hsize,rep_length]) (World.ownsRow.cells (e:=e) (size:=cs.length) (base:=base) (v:=.slice (some ⟨g',0,none⟩) n capv) (n:=n) ⟨rep_length n cs,.inr ⟨g',capv,cur,rfl,hbv,hg,hncv,hcmv,hcsv,hctv⟩⟩ rfl) ad j c (rep j cs) (by rw[hsize,rep_length]) hnews (by omega) (by omega) (by rw[hby];exact growslice_fits (by omega) (by omega))
      rw[hr]at hr2
      simp only[Result.ok.injEq]at hr2
      rw[hr2.2]
      exact World.ownsRow.alloc (World.ownsRow.drew ⟨hu1,.inr ⟨g',cap,cur,rfl,hbg,hg,hnc,hcm,hcs,hct⟩⟩) _
structure Pr (W:World) (g:Nat) (ρ:Nat->Nat) (ra rm:Nat) (te tm:TypeId) (cells:Value->List Value) (lv mv:Value) (L M:List Value):Prop where
 rl:W.ownsRow (g+1) te 1 lv L.length L
 rk:W.ownsRow (g+1) tm 1 mv M.length M
 fl:∀b,lv.ownBlock=some b->ρ b=ra
 fm:∀b,mv.ownBlock=some b->ρ b=rm
 len:L.length=M.length
 ent:∀(i:Nat) (u m:Value),L[i]? = some u->M[i]? = some m->∃n ao cap,u = .slice ao n cap/\n<=10000/\∀k,k<n->∃b,ao=some ⟨b,0,none⟩/\b<W.heap.size/\ρ b=8/\∀j,j<(cells m).length->W.cell? ⟨b,k*(cells m).length+j,none⟩=(cells m)[j]?
theorem Pr.chg {W W':World}{g:Nat}{ρ:Nat->Nat}{T:Nat->Prop}{ra rm:Nat}{te tm:TypeId}{cells:Value->List Value}{lv mv:Value}{L M:List Value}(h:Pr W g ρ ra rm te tm cells lv mv L M) (hc:Chg T W W')
  (h1:∀b,T b->ρ b≠ra) (h2:∀b,T b->ρ b≠rm) (h3:∀b,T b->ρ b≠8):Pr W' g ρ ra rm te tm cells lv mv L M:=by
 refine⟨hc.row h.rl (fun x hx e=>h1 x e (h.fl x hx)),hc.row h.rk (fun x hx e=>h2 x e (h.fm x hx)),h.fl,h.fm,h.len,?_⟩
 intro i u m hu hm
 obtain⟨n,ao,cap,rfl,hn,hk⟩:=h.ent i u m hu hm
 refine⟨n,ao,cap,rfl,hn,fun k hkn=>?_⟩
 obtain⟨b,rfl,b0,b1,b2⟩:=hk k hkn
 refine⟨b,rfl,Nat.lt_of_lt_of_le b0 hc.size,b1,fun j hj=>?_⟩
 rw[<-b2 j hj]
 exact World.cell?_of_block (hc.block b b0 (fun e=>h3 b e b1))
theorem Pr.roles {W:World}{g:Nat}{ρ ρ':Nat->Nat}{ra rm:Nat}{te tm:TypeId}{cells:Value->List Value}{lv mv:Value}{L M:List Value}(h:Pr W g ρ ra rm te tm cells lv mv L M)
  (hr:∀b,b<W.heap.size->ρ b≠0->ρ' b=ρ b) (h1:ra≠0) (h2:rm≠0):Pr W g ρ' ra rm te tm cells lv mv L M:=by
 refine⟨h.rl,h.rk,fun b hb=>(hr b (h.rl.lt b hb).2 (by rw[h.fl b hb];exact h1)).trans (h.fl b hb),fun b hb=>(hr b (h.rk.lt b hb).2 (by rw[h.fm b hb];exact h2)).trans (h.fm b hb),h.len,?_⟩
 intro i u m hu hm
 obtain⟨n,ao,cap,rfl,hn,hk⟩:=h.ent i u m hu hm
 refine⟨n,ao,cap,rfl,hn,fun k hkn=>?_⟩
 obtain⟨b,rfl,b0,b1,b2⟩:=hk k hkn
 exact⟨b,rfl,b0,(hr b b0 (by rw[b1];decide)).trans b1,b2⟩
theorem Pr.taken {W W1 W2:World}{g:Nat}{ρ ρ':Nat->Nat}{ra rm:Nat}{te tm e:TypeId}{cells:Value->List Value}{lv mv lv' mv' v0 v1 v2 v3 m:Value}{L M:List Value}{n:Nat}
  (h:Pr W g ρ ra rm te tm cells lv mv L M) (hra:ra≠8) (hrm:rm≠8) (h0a:ra≠0) (h0m:rm≠0) (ham:ra≠rm)
  (H1:W1.ownsRow (g+1) te 1 lv' (L.length+4) (L++[v0,v1,v2,v3])) (X1:Chg (fun b=>lv.ownBlock=some b\/ρ b=1) W W1) (D1:lv'.ownBlock=lv.ownBlock\/∀b,lv'.ownBlock=some b->W.heap.size<=b)
  (H2:W2.ownsRow (g+1) tm 1 mv' (M.length+4) (M++[m,m,m,m])) (X2:Chg (fun b=>mv.ownBlock=some b\/ρ b=1) W1 W2) (D2:mv'.ownBlock=mv.ownBlock\/∀b,mv'.ownBlock=some b->W1.heap.size<=b)
  (hr1:ra≠1) (_hr2:rm≠1) (hρ1:∀b,ρ b=1->b<W.heap.size)
  (C0:MkN W (g+1) e v0 n (cells m)) (C1:MkN W (g+1) e v1 (n+1) (cells m)) (C2:MkN W (g+1) e v2 (n+2) (cells m)) (C3:MkN W (g+1) e v3 (n+3) (cells m)) (hn:n+3<=10000)
  (hv:∀b,v0.ownBlock=some b\/v1.ownBlock=some b\/v2.ownBlock=some b\/v3.ownBlock=some b->ρ b=0/\ρ' b=8)
  (hρ:∀b,b<W.heap.size->ρ b≠0->ρ' b=ρ b) (hρa:∀b,W.heap.size<=b->lv'.ownBlock=some b->ρ' b=ra) (hρm:∀b,W1.heap.size<=b->mv'.ownBlock=some b->ρ' b=rm) :
  Pr W2 g ρ' ra rm te tm cells lv' mv' (L++[v0,v1,v2,v3]) (M++[m,m,m,m]):=by
 have s1:=X1.size
 have k1:∀b,lv'.ownBlock=some b->lv.ownBlock=some b\/W.heap.size<=b:=fun b hb=>by
  rcases D1 with h|h
  ·exact .inl (h▸hb)
  ·exact .inr (h b hb)
 have k2:∀b,mv'.ownBlock=some b->mv.ownBlock=some b\/W1.heap.size<=b:=fun b hb=>by
  rcases D2 with h|h
  ·exact .inl (h▸hb)
  ·exact .inr (h b hb)
 have far:∀b o u,ρ b≠ra->ρ b≠rm->ρ b≠1->W.cell? ⟨b,o,none⟩=some u->W2.cell? ⟨b,o,none⟩=some u:=fun b o u g1 g2 g3 hu=>
  X2.cell (X1.cell hu (fun e=>e.elim (fun e=>g1 (h.fl b e)) g3)) (fun e=>e.elim (fun e=>g2 (h.fm b e)) g3)
 have new:∀(u:Value) (k:Nat),MkN W (g+1) e u k (cells m)->k<=10000->(∀b,u.ownBlock=some b->ρ b=0/\ρ' b=8)->
   ∃n ao cap,u = .slice ao n cap/\n<=10000/\∀k,k<n->∃b,ao=some ⟨b,0,none⟩/\b<W2.heap.size/\ρ' b=8/\∀j,j<(cells m).length->W2.cell? ⟨b,k*(cells m).length+j,none⟩=(cells m)[j]?:=by
  intro u k hM hk hu
  obtain⟨ao,cap,rfl⟩:=hM.shape
  refine⟨k,ao,cap,rfl,hk,fun i hi=>?_⟩
  obtain⟨b,rfl,_,hb2,hc⟩:=hM.cell i hi
  obtain⟨z1,z2⟩:=hu b rfl
  refine⟨b,rfl,Nat.lt_of_lt_of_le (Nat.lt_of_lt_of_le hb2 s1) X2.size,z2,fun j hj=>?_⟩
  obtain⟨c,hcj⟩:∃c,(cells m)[j]? = some c:=⟨_,List.getElem?_eq_getElem hj⟩
  rw[hcj]
  exact far b _ _ (by rw[z1];exact fun e=>h0a e.symm) (by rw[z1];exact fun e=>h0m e.symm) (by rw[z1];decide) ((hc j hj).trans hcj)
 refine⟨?_,?_,?_,?_,?_,?_⟩
 ·rw[List.length_append]
  refine X2.row H1 ?_
  intro x hx
  rintro(e|e)
  ·rcases k1 x hx with h'|h'
   ·exact ham ((h.fl x h').symm.trans (h.fm x e))
   ·have:=(h.rk.lt x e).2;omega
  ·rcases k1 x hx with h'|h'
   ·rw[h.fl x h']at e;exact hr1 e
   ·have:=hρ1 x e;omega
 ·rw[List.length_append]
  exact H2
 ·intro b hb
  rcases k1 b hb with h'|h'
  ·exact(hρ b (h.rl.lt b h').2 (by rw[h.fl b h'];exact h0a)).trans (h.fl b h')
  ·exact hρa b h' hb
 ·intro b hb
  rcases k2 b hb with h'|h'
  ·exact(hρ b (h.rk.lt b h').2 (by rw[h.fm b h'];exact h0m)).trans (h.fm b h')
  ·exact hρm b h' hb
 ·rw[List.length_append,List.length_append,h.len]
  rfl
 ·intro i u x hu hx
  by_cases hi:i<L.length
  ·rw[List.getElem?_append_left hi]at hu
   rw[List.getElem?_append_left (by rw[<-h.len];exact hi)]at hx
   obtain⟨n',ao,cap,rfl,hn',hk⟩:=h.ent i u x hu hx
   refine⟨n',ao,cap,rfl,hn',fun k hkn=>?_⟩
   obtain⟨b,rfl,b0,b1,b2⟩:=hk k hkn
   refine⟨b,rfl,Nat.lt_of_lt_of_le (Nat.lt_of_lt_of_le b0 s1) X2.size,(hρ b b0 (by rw[b1];decide)).trans b1,fun j hj=>?_⟩
   obtain⟨c,hcj⟩:∃c,(cells x)[j]? = some c:=⟨_,List.getElem?_eq_getElem hj⟩
   rw[hcj]
   exact far b _ _ (by rw[b1];exact fun e=>hra e.symm) (by rw[b1];exact fun e=>hrm e.symm) (by rw[b1];decide) ((b2 j hj).trans hcj)
  ·rw[List.getElem?_append_right (by omega)]at hu
   rw[List.getElem?_append_right (by rw[<-h.len];omega),<-h.len]at hx
   have hj:i-L.length<4:=by
    have:=(List.getElem?_eq_some_iff.1 hu).1
    simpa using this
   obtain⟨j,hjj⟩:∃j,i-L.length=j:=⟨_,rfl⟩
   rw[hjj]at hu hj hx
   match j,hj,hu,hx with
   | 0,_,hu,hx=>simp at hu hx;subst hu hx;exact new _ n C0 (by omega) (fun b hb=>hv b (.inl hb))
   | 1,_,hu,hx=>simp at hu hx;subst hu hx;exact new _ (n+1) C1 (by omega) (fun b hb=>hv b (.inr (.inl hb)))
   | 2,_,hu,hx=>simp at hu hx;subst hu hx;exact new _ (n+2) C2 (by omega) (fun b hb=>hv b (.inr (.inr (.inl hb))))
   | 3,_,hu,hx=>simp at hu hx;subst hu hx;exact new _ (n+3) C3 (by omega) (fun b hb=>hv b (.inr (.inr (.inr hb))))
structure BkN (W:World) (g:Nat) (ρ:Nat->Nat) (tv tk nv nk av ak:Value) (TL TM NL NM AL AM:List Value) (nx:Int):Prop where
 c0:W.cell? ⟨g,0,none⟩=some tv
 c1:W.cell? ⟨g,1,none⟩=some tk
 c2:W.cell? ⟨g,2,none⟩=some nv
 c3:W.cell? ⟨g,3,none⟩=some nk
 c4:W.cell? ⟨g,4,none⟩=some av
 c5:W.cell? ⟨g,5,none⟩=some ak
 c6:W.cell? ⟨g,6,none⟩=some (.int .i64 nx)
 fz:∀o,W.frozen? ⟨g,o,none⟩=false
 rg:∀b,ρ b=1↔b=g
 hi:∀b,W.heap.size<=b->ρ b=0
 tp:Pr W g ρ 2 3 32 9 (fun m=>[m]) tv tk TL TM
 np:Pr W g ρ 4 5 34 3 (fun m=>[m]) nv nk NL NM
 ap:Pr W g ρ 6 7 77 3 (fun m=>[m,m,.slice none 0 0]) av ak AL AM
theorem BkN.lt {W:World}{g:Nat}{ρ:Nat->Nat}{tv tk nv nk av ak:Value}{TL TM NL NM AL AM:List Value}{nx:Int}(h:BkN W g ρ tv tk nv nk av ak TL TM NL NM AL AM nx):g<W.heap.size:=lt_of_cell h.c0
theorem BkN.chg {W W':World}{g:Nat}{ρ:Nat->Nat}{T:Nat->Prop}{tv tk nv nk av ak:Value}{TL TM NL NM AL AM:List Value}{nx:Int}(h:BkN W g ρ tv tk nv nk av ak TL TM NL NM AL AM nx) (hc:Chg T W W') (hT:∀b,T b->ρ b=0) :
  BkN W' g ρ tv tk nv nk av ak TL TM NL NM AL AM nx:=by
 have hng:¬T g:=fun e=>by have:=hT g e;rw[(h.rg g).2 rfl]at this;cases this
 have q:∀r,r≠0->∀b,T b->ρ b≠r:=fun r hr b hb e=>hr (e.symm.trans (hT b hb))
 exact⟨hc.cell h.c0 hng,hc.cell h.c1 hng,hc.cell h.c2 hng,hc.cell h.c3 hng,hc.cell h.c4 hng,hc.cell h.c5 hng,hc.cell h.c6 hng,fun o=>(hc.frozen (p:=⟨g,o,none⟩) h.lt hng).trans (h.fz o),h.rg,fun b hb=>h.hi b (Nat.le_trans hc.size hb),
  h.tp.chg hc (q 2 (by decide)) (q 3 (by decide)) (q 8 (by decide)),h.np.chg hc (q 4 (by decide)) (q 5 (by decide)) (q 8 (by decide)),h.ap.chg hc (q 6 (by decide)) (q 7 (by decide)) (q 8 (by decide))⟩
theorem BkN.set6 {W:World}{g:Nat}{ρ:Nat->Nat}{tv tk nv nk av ak:Value}{TL TM NL NM AL AM:List Value}{nx:Int}(h:BkN W g ρ tv tk nv nk av ak TL TM NL NM AL AM nx) (ny:Int) :
  BkN (W.setCell ⟨g,6,none⟩ (.int .i64 ny)) g ρ tv tk nv nk av ak TL TM NL NM AL AM ny:=by
 have o:∀i u,i≠6->W.cell? ⟨g,i,none⟩=some u->(W.setCell ⟨g,6,none⟩ (.int .i64 ny)).cell? ⟨g,i,none⟩=some u:=fun i u hi hu=>(World.cell?_setCell_other _ ⟨g,6,none⟩ ⟨g,i,none⟩ _ (fun e=>hi (by injection e with _ e2 _;exact e2.symm))).trans hu
 have hc:Chg (fun b=>ρ b=1) W (W.setCell ⟨g,6,none⟩ (.int .i64 ny)):=(Chg.refl _ _).setCell ⟨g,6,none⟩ (.inl ((h.rg g).2 rfl)) _
 have q:∀r,r≠1->∀b,ρ b=1->ρ b≠r:=fun r hr b hb e=>hr (e.symm.trans hb)
 exact⟨o _ _ (by omega) h.c0,o _ _ (by omega) h.c1,o _ _ (by omega) h.c2,o _ _ (by omega) h.c3,o _ _ (by omega) h.c4,o _ _ (by omega) h.c5,World.cell?_setCell_same _ _ _ h.c6,fun o=>by rw[World.frozen?_setCell];exact h.fz o,h.rg,fun b hb=>h.hi b (by simpa using hb),
  h.tp.chg hc (q 2 (by decide)) (q 3 (by decide)) (q 8 (by decide)),h.np.chg hc (q 4 (by decide)) (q 5 (by decide)) (q 8 (by decide)),h.ap.chg hc (q 6 (by decide)) (q 7 (by decide)) (q 8 (by decide))⟩
theorem BkN.roles {W:World}{g:Nat}{ρ ρ':Nat->Nat}{tv tk nv nk av ak:Value}{TL TM NL NM AL AM:List Value}{nx:Int}(h:BkN W g ρ tv tk nv nk av ak TL TM NL NM AL AM nx)
  (hr:∀b,b<W.heap.size->ρ b≠0->ρ' b=ρ b) (h1:∀b,ρ' b=1->ρ b=1) (h2:∀b,W.heap.size<=b->ρ' b=0):BkN W g ρ' tv tk nv nk av ak TL TM NL NM AL AM nx:=
 ⟨h.c0,h.c1,h.c2,h.c3,h.c4,h.c5,h.c6,h.fz,fun b=>⟨fun e=>(h.rg b).1 (h1 b e),fun e=>by subst e;exact(hr b h.lt (by rw[(h.rg b).2 rfl];decide)).trans ((h.rg b).2 rfl)⟩,h2,
  h.tp.roles hr (by decide) (by decide),h.np.roles hr (by decide) (by decide),h.ap.roles hr (by decide) (by decide)⟩
def roleOf (w:World) (ρ:Nat->Nat) (ra rm:Nat) (lv mv v0 v1 v2 v3:Value) (b:Nat):Nat:=
 if lv.ownBlock=some b then ra else if mv.ownBlock=some b then rm
 else if v0.ownBlock=some b\/v1.ownBlock=some b\/v2.ownBlock=some b\/v3.ownBlock=some b then 8
 else if b<w.heap.size then ρ b else 0
theorem role_facts {w W W1 W2:World}{g:Nat}{ρ:Nat->Nat}{ra rm:Nat}{te tm e:TypeId}{cells:Value->List Value}{lv mv lv' mv' v0 v1 v2 v3 m:Value}{L M:List Value}{n:Nat}
  (h:Pr W g ρ ra rm te tm cells lv mv L M) (hw:w.heap.size<=W.heap.size) (hi:∀b,w.heap.size<=b->ρ b=0) (hra:1<ra) (hrm:1<rm)
  (H1:W1.ownsRow (g+1) te 1 lv' (L.length+4) (L++[v0,v1,v2,v3])) (s1:W.heap.size<=W1.heap.size) (D1:lv'.ownBlock=lv.ownBlock\/∀b,lv'.ownBlock=some b->W.heap.size<=b)
  (H2:W2.ownsRow (g+1) tm 1 mv' (M.length+4) (M++[m,m,m,m])) (s2:W1.heap.size<=W2.heap.size) (D2:mv'.ownBlock=mv.ownBlock\/∀b,mv'.ownBlock=some b->W1.heap.size<=b)
  (C0:MkN W (g+1) e v0 n (cells m)) (C1:MkN W (g+1) e v1 (n+1) (cells m)) (C2:MkN W (g+1) e v2 (n+2) (cells m)) (C3:MkN W (g+1) e v3 (n+3) (cells m))
  (hv0:∀b,v0.ownBlock=some b->ρ b=0) (E1:v1.ownBlock=v0.ownBlock\/∀b,v1.ownBlock=some b->w.heap.size<=b) (E2:v2.ownBlock=v0.ownBlock\/∀b,v2.ownBlock=some b->w.heap.size<=b) (E3:v3.ownBlock=v0.ownBlock\/∀b,v3.ownBlock=some b->w.heap.size<=b) (hg:∀b,ρ b=1↔b=g) (hgw:g<w.heap.size) :
  (∀b,v0.ownBlock=some b\/v1.ownBlock=some b\/v2.ownBlock=some b\/v3.ownBlock=some b->ρ b=0/\roleOf w ρ ra rm lv' mv' v0 v1 v2 v3 b=8)/\
  (∀b,b<W.heap.size->ρ b≠0->roleOf w ρ ra rm lv' mv' v0 v1 v2 v3 b=ρ b)/\
  (∀b,W.heap.size<=b->lv'.ownBlock=some b->roleOf w ρ ra rm lv' mv' v0 v1 v2 v3 b=ra)/\(∀b,W1.heap.size<=b->mv'.ownBlock=some b->roleOf w ρ ra rm lv' mv' v0 v1 v2 v3 b=rm)/\
  (∀b,roleOf w ρ ra rm lv' mv' v0 v1 v2 v3 b=1↔b=g)/\(∀b,W2.heap.size<=b->roleOf w ρ ra rm lv' mv' v0 v1 v2 v3 b=0)/\
  (∀b,b<w.heap.size->v0.ownBlock≠some b->ρ b=0->roleOf w ρ ra rm lv' mv' v0 v1 v2 v3 b=0):=by
 have k1:∀b,lv'.ownBlock=some b->(lv.ownBlock=some b/\ρ b=ra)\/W.heap.size<=b:=fun b hb=>by
  rcases D1 with h'|h'
  ·exact .inl ⟨h'▸hb,h.fl b (h'▸hb)⟩
  ·exact .inr (h' b hb)
 have k2:∀b,mv'.ownBlock=some b->(mv.ownBlock=some b/\ρ b=rm)\/W1.heap.size<=b:=fun b hb=>by
  rcases D2 with h'|h'
  ·exact .inl ⟨h'▸hb,h.fm b (h'▸hb)⟩
  ·exact .inr (h' b hb)
 have kv:∀b,v0.ownBlock=some b\/v1.ownBlock=some b\/v2.ownBlock=some b\/v3.ownBlock=some b->ρ b=0/\b<W.heap.size/\g+1<=b/\(v0.ownBlock=some b\/w.heap.size<=b):=by
  have one:∀u:Value,(u.ownBlock=v0.ownBlock\/∀b,u.ownBlock=some b->w.heap.size<=b)->∀b,u.ownBlock=some b->ρ b=0/\(v0.ownBlock=some b\/w.heap.size<=b):=fun u hu b hb=>by
   rcases hu with h'|h'
   ·exact⟨hv0 b (h'▸hb),.inl (h'▸hb)⟩
   ·exact⟨hi b (h' b hb),.inr (h' b hb)⟩
  rintro b (hb|hb|hb|hb)
  ·exact⟨hv0 b hb,(World.ownsRow.lt C0 b hb).2,(World.ownsRow.lt C0 b hb).1,.inl hb⟩
  ·exact⟨(one v1 E1 b hb).1,(World.ownsRow.lt C1 b hb).2,(World.ownsRow.lt C1 b hb).1,(one v1 E1 b hb).2⟩
  ·exact⟨(one v2 E2 b hb).1,(World.ownsRow.lt C2 b hb).2,(World.ownsRow.lt C2 b hb).1,(one v2 E2 b hb).2⟩
  ·exact⟨(one v3 E3 b hb).1,(World.ownsRow.lt C3 b hb).2,(World.ownsRow.lt C3 b hb).1,(one v3 E3 b hb).2⟩
 have n1:∀b,ρ b=0->b<W.heap.size->lv'.ownBlock≠some b:=fun b h0 hb e=>by
  rcases k1 b e with h'|h'
  ·omega
  ·omega
 have n2:∀b,ρ b=0->b<W1.heap.size->mv'.ownBlock≠some b:=fun b h0 hb e=>by
  rcases k2 b e with h'|h'
  ·omega
  ·omega
 refine⟨?_,?_,?_,?_,?_,?_,?_⟩
 ·intro b hb
  obtain⟨z1,z2,_⟩:=kv b hb
  refine⟨z1,?_⟩
  unfold roleOf
  rw[if_neg (n1 b z1 z2),if_neg (n2 b z1 (by omega)),if_pos hb]
 ·intro b hb hne
  unfold roleOf
  by_cases e1:lv'.ownBlock=some b
  ·rw[if_pos e1]
   rcases k1 b e1 with h'|h'
   ·exact h'.2.symm
   ·omega
  ·rw[if_neg e1]
   by_cases e2:mv'.ownBlock=some b
   ·rw[if_pos e2]
    rcases k2 b e2 with h'|h'
    ·exact h'.2.symm
    ·omega
   ·rw[if_neg e2,if_neg (fun e=>hne (kv b e).1)]
    by_cases e3:b<w.heap.size
    ·rw[if_pos e3]
    ·exact absurd (hi b (by omega)) hne
 ·intro b _ hb
  unfold roleOf
  rw[if_pos hb]
 ·intro b hb1 hb
  unfold roleOf
  rw[if_neg (fun e=>by have:=(H1.lt b e).2;omega),if_pos hb]
 ·intro b
  constructor
  ·intro e
   unfold roleOf at e
   split at e
   ·omega
   ·split at e
    ·omega
    ·split at e
     ·cases e
     ·split at e
      ·exact(hg b).1 e
      ·cases e
  ·intro e
   subst e
   unfold roleOf
   rw[if_neg (fun e=>by have:=(H1.lt b e).1;omega),if_neg (fun e=>by have:=(H2.lt b e).1;omega),if_neg (fun e=>by have:=(kv b e).2.2.1;omega),if_pos hgw]
   exact(hg b).2 rfl
 ·intro b hb
  unfold roleOf
  rw[if_neg (fun e=>by have:=(H1.lt b e).2;omega),if_neg (fun e=>by have:=(H2.lt b e).2;omega),if_neg (fun e=>by have:=(kv b e).2.1;omega),if_neg (by omega)]
 ·intro b hb hne h0
  unfold roleOf
  rw[if_neg (n1 b h0 (by omega)),if_neg (n2 b h0 (by omega)),if_neg (fun e=>by rcases(kv b e).2.2.2 with h'|h';exact hne h';omega),if_pos hb]
  exact h0
theorem rep_one (n:Nat) (x:Value):rep n [x]=List.replicate n x:=by
 unfold rep
 induction n with
 | zero=>rfl
 | succ n ih=>rw[List.replicate_succ,List.flatten_cons,ih,List.replicate_succ];rfl
theorem Mk.mkN {W:World}{base n:Nat}{v:Value}{m:Int}(h:Mk W base v n m):MkN W base 3 v n [.int .i64 m]:=by
 unfold MkN
 rw[rep_one]
 exact h
theorem takenN {ρ:Nat->Nat}{w wr w3 w4 w5:World}{g n:Nat}{tv tk nv nk av ak v v1 v2 v3 v4 v5:Value}{TL TM NL NM AL AM:List Value}{nx m:Int}
  (_hB:BkN wr g ρ tv tk nv nk av ak TL TM NL NM AL AM nx) (hB3:BkN w3 g ρ tv tk nv nk av ak TL TM NL NM AL AM nx) (hi:∀b,w.heap.size<=b->ρ b=0) (hgw:g<w.heap.size) (hww:w.heap.size<=wr.heap.size) (hw3:wr.heap.size<=w3.heap.size) (hv:∀b,v.ownBlock=some b->ρ b=0)
  (C0:Mk w3 (g+1) v n m) (C1:Mk w3 (g+1) v1 (n+1) m) (C2:Mk w3 (g+1) v2 (n+2) m) (C3:Mk w3 (g+1) v3 (n+3) m) (hn:n<=9000)
  (D1:v1.ownBlock=v.ownBlock\/∀b,v1.ownBlock=some b->wr.heap.size<=b) (D2:v2.ownBlock=v.ownBlock\/∀b,v2.ownBlock=some b->wr.heap.size<=b) (D3:v3.ownBlock=v.ownBlock\/∀b,v3.ownBlock=some b->wr.heap.size<=b)
  (H4:w4.ownsRow (g+1) 34 1 v4 (NL.length+4) (NL++[v,v1,v2,v3])) (X4:Chg (fun b=>nv.ownBlock=some b) w3 w4) (D4:v4.ownBlock=nv.ownBlock\/∀b,v4.ownBlock=some b->w3.heap.size<=b)
  (H5:w5.ownsRow (g+1) 3 1 v5 (NM.length+4) (NM++[.int .i64 m,.int .i64 m,.int .i64 m,.int .i64 m])) (X5:Chg (fun b=>nk.ownBlock=some b) (w4.setCell ⟨g,2,none⟩ v4) w5)
  (D5:v5.ownBlock=nk.ownBlock\/∀b,v5.ownBlock=some b->w4.heap.size<=b) :
  BkN (w5.setCell ⟨g,3,none⟩ v5) g (roleOf w ρ 4 5 v4 v5 v v1 v2 v3) tv tk v4 v5 av ak TL TM (NL++[v,v1,v2,v3]) (NM++[.int .i64 m,.int .i64 m,.int .i64 m,.int .i64 m]) AL AM nx/\
   (∀b,b<w.heap.size->ρ b≠0->roleOf w ρ 4 5 v4 v5 v v1 v2 v3 b=ρ b)/\(∀b,b<w.heap.size->v.ownBlock≠some b->ρ b=0->roleOf w ρ 4 5 v4 v5 v v1 v2 v3 b=0):=by
 have h1g:=(hB3.rg g).2 rfl
 have hng:¬nv.ownBlock=some g:=fun e=>by have:=(hB3.np.rl.lt g e).1;omega
 have hmg:¬nk.ownBlock=some g:=fun e=>by have:=(hB3.np.rk.lt g e).1;omega
 have X1:Chg (fun b=>nv.ownBlock=some b\/ρ b=1) w3 (w4.setCell ⟨g,2,none⟩ v4):=(X4.mono (fun _ _ e=>.inl e)).setCell ⟨g,2,none⟩ (.inl (.inr h1g)) _
 have X2:Chg (fun b=>nk.ownBlock=some b\/ρ b=1) (w4.setCell ⟨g,2,none⟩ v4) (w5.setCell ⟨g,3,none⟩ v5):=(X5.mono (fun _ _ e=>.inl e)).setCell ⟨g,3,none⟩ (.inl (.inr h1g)) _
 have H1:(w4.setCell ⟨g,2,none⟩ v4).ownsRow (g+1) 34 1 v4 (NL.length+4) (NL++[v,v1,v2,v3]):=ownsRow_setCell_below H4 (Nat.lt_succ_self g) _
 have H2:(w5.setCell ⟨g,3,none⟩ v5).ownsRow (g+1) 3 1 v5 (NM.length+4) (NM++[.int .i64 m,.int .i64 m,.int .i64 m,.int .i64 m]):=ownsRow_setCell_below H5 (Nat.lt_succ_self g) _
 have D2':v5.ownBlock=nk.ownBlock\/∀b,v5.ownBlock=some b->(w4.setCell ⟨g,2,none⟩ v4).heap.size<=b:=D5.imp id (fun h b hb=>by simpa using h b hb)
 have up:∀(u:Value),(u.ownBlock=v.ownBlock\/∀b,u.ownBlock=some b->wr.heap.size<=b)->(u.ownBlock=v.ownBlock\/∀b,u.ownBlock=some b->w.heap.size<=b):=fun u h=>h.imp id (fun h b hb=>Nat.le_trans hww (h b hb))
 obtain⟨f1,f2,f3,f4,f5,f6,f7⟩:=role_facts (m:=.int .i64 m) hB3.np (Nat.le_trans hww hw3) hi (by decide) (by decide) H1 X1.size D4 H2 X2.size D2' C0.mkN C1.mkN C2.mkN C3.mkN hv (up v1 D1) (up v2 D2) (up v3 D3) hB3.rg hgw
 have q:∀r s,r≠1->r≠s->∀(x:Value),(∀b,x.ownBlock=some b->ρ b=s)->∀b,(x.ownBlock=some b\/ρ b=1)->ρ b≠r:=fun r s h1 h2 x hx b hb e=>by
  rcases hb with hb|hb
  ·exact h2 (e.symm.trans (hx b hb))
  ·exact h1 (e.symm.trans hb)
 have q1:∀r,r≠1->r≠4->∀b,(nv.ownBlock=some b\/ρ b=1)->ρ b≠r:=fun r a b=>q r 4 a b nv hB3.np.fl
 have q2:∀r,r≠1->r≠5->∀b,(nk.ownBlock=some b\/ρ b=1)->ρ b≠r:=fun r a b=>q r 5 a b nk hB3.np.fm
 have hsz:w3.heap.size<=(w5.setCell ⟨g,3,none⟩ v5).heap.size:=Nat.le_trans X1.size X2.size
 have keep:∀b,b<(w5.setCell ⟨g,3,none⟩ v5).heap.size->ρ b≠0->roleOf w ρ 4 5 v4 v5 v v1 v2 v3 b=ρ b:=fun b _ hne=>f2 b (by
  rcases Nat.lt_or_ge b w3.heap.size with h|h
  ·exact h
  ·exact absurd (hB3.hi b h) hne) hne
 have own:∀o u,o≠2->o≠3->w3.cell? ⟨g,o,none⟩=some u->(w5.setCell ⟨g,3,none⟩ v5).cell? ⟨g,o,none⟩=some u:=fun o u h2 h3 h4=>by
  rw[World.cell?_setCell_other _ ⟨g,3,none⟩ ⟨g,o,none⟩ _ (fun e=>h3 (by injection e with _ e2 _;exact e2.symm))]
  refine X5.cell ?_ hmg
  rw[World.cell?_setCell_other _ ⟨g,2,none⟩ ⟨g,o,none⟩ _ (fun e=>h2 (by injection e with _ e2 _;exact e2.symm))]
  exact X4.cell h4 hng
 have c3:(w4.setCell ⟨g,2,none⟩ v4).cell? ⟨g,3,none⟩=some nk:=(World.cell?_setCell_other _ ⟨g,2,none⟩ ⟨g,3,none⟩ _ (by simp)).trans (X4.cell hB3.c3 hng)
 refine⟨⟨own 0 _ (by omega) (by omega) hB3.c0,own 1 _ (by omega) (by omega) hB3.c1,?_,World.cell?_setCell_same _ _ _ (X5.cell c3 hmg),own 4 _ (by omega) (by omega) hB3.c4,own 5 _ (by omega) (by omega) hB3.c5,own 6 _ (by omega) (by omega) hB3.c6,?_,f5,f6,?_,?_,?_⟩,?_,f7⟩
 ·rw[World.cell?_setCell_other _ ⟨g,3,none⟩ ⟨g,2,none⟩ _ (by simp)]
  exact X5.cell (World.cell?_setCell_same _ _ _ (X4.cell hB3.c2 hng)) hmg
 ·intro o
  rw[World.frozen?_setCell,X5.frozen (p:=⟨g,o,none⟩) (by have:=hB3.lt;have:=X4.size;simp;omega) hmg,World.frozen?_setCell,X4.frozen (p:=⟨g,o,none⟩) hB3.lt hng]
  exact hB3.fz o
 ·exact((hB3.tp.chg X1 (q1 2 (by decide) (by decide)) (q1 3 (by decide) (by decide)) (q1 8 (by decide) (by decide))).chg X2 (q2 2 (by decide) (by decide)) (q2 3 (by decide) (by decide)) (q2 8 (by decide) (by decide))).roles keep (by decide) (by decide)
 ·exact hB3.np.taken (by decide) (by decide) (by decide) (by decide) (by decide) H1 X1 D4 H2 X2 D2' (by decide) (by decide) (fun b hb=>by rw[(hB3.rg b).1 hb];exact hB3.lt) C0.mkN C1.mkN C2.mkN C3.mkN (by omega) f1 f2 f3 f4
 ·exact((hB3.ap.chg X1 (q1 6 (by decide) (by decide)) (q1 7 (by decide) (by decide)) (q1 8 (by decide) (by decide))).chg X2 (q2 6 (by decide) (by decide)) (q2 7 (by decide) (by decide)) (q2 8 (by decide) (by decide))).roles keep (by decide) (by decide)
 ·exact fun b hb hne=>f2 b (by omega) hne
theorem Mk.ofN {W:World}{base n:Nat}{v:Value}{m:Int}(h:MkN W base 3 v n [.int .i64 m]):Mk W base v n m:=by
 unfold MkN at h
 rw[rep_one]at h
 exact h
theorem wpList_append_marksN {ops:Array Oper}{rest:List Oper}{o:Oper}{a:Act}{w:World}{Q:Exit->Act->World->Prop}(hgd:o.guard=none) (s x:Operand)
  (ho:o.op = .call { callee:=.builtin .append,args:=#[s,x],argTypes:=#[34,34] })
  (base:Nat) (i:TypeInfo) (hi:Tryz.prog.info? 3=some i/\i.zero=some (.int .i64 0)/\i.size=1/\i.bytes=8)
  (v:Value) (n j:Nat) (m:Int) (hs:a.eval s=v) (hown:Mk w base v n m) (ad:Addr) (c:Nat) (hx:a.eval x = .slice (some ad) j c) (hnews:∀k u,(List.replicate j (Value.int .i64 m))[k]? = some u->w.cell? (ad.add k)=some u)
  (hn:n+j<=10000) (hbase:base<=w.heap.size)
  (h:∀v' w',Mk w' base v' (n+j) m->(∀u k,k<=n+j->Mk w base u k m->Mk w' base u k m)->w.grownBy w' v.ownBlock->(v'.ownBlock=v.ownBlock\/v'.ownBlock=some w.heap.size)->wpList Tryz.prog ops Q rest (a.put o.dst v') w') :
  wpList Tryz.prog ops Q (o::rest) a w:=by
 refine wpList_plain hgd fun K hK=>?_
 obtain⟨v',w',hr,h2,h3,h4,h5⟩:=append_like w base 34 3 o.type Tryz.underlying34 i (.int .i64 0) 8 hi.1 hi.2.1 [.int .i64 m] hi.2.2.1 hi.2.2.2 (by decide) rfl Nat.one_pos (by intro u hu;simp at hu;subst hu;rfl) v n j hown.mkN ad c (by rw[rep_one];exact hnews) hn hbase
 unfold Oper.wp execOp
 simp only[ho,resolve,invoke,builtin,Sem.run_bind,Sem.run_pure,Result.andThen_ok,List.map_toArray,List.map_cons,List.map_nil,hs,hx,hr]
 exact hK _ _ (h v' w' (Mk.ofN h2) (fun u k hk hu=>Mk.ofN (h3 u k hk hu.mkN)) h4 h5)
end Pk
open Pk
theorem ownsN_any (g:Nat) (ρ:Nat->Nat) (tv tk nv nk av ak:Value) (TL TM NL NM AL AM:List Value) (nx:Int) (v:Value) (l:List Int) (w:World) (hB:BkN w g ρ tv tk nv nk av ak TL TM NL NM AL AM nx) (hown:OwnInts w (g+1) v l) (hf:∀b,v.ownBlock=some b->ρ b=0)
  (hl:l.length<=6400) (hN:NL.length<=1000000000) (hx0:0<=nx) (hx1:nx<=1000000000) :
  Calls Tryz.prog 28 #[.pointer (some ⟨g,0,none⟩),v] w fun e w'=>e = .returned (.tuple #[])/\∃ρ' nv' nk' NL',NL'.length=4/\
   BkN w' g ρ' tv tk nv' nk' av ak TL TM (NL++NL') (NM++[.int .i64 (-(nx+1)),.int .i64 (-(nx+1)),.int .i64 (-(nx+1)),.int .i64 (-(nx+1))]) AL AM (nx+1)/\(∀b,b<w.heap.size->ρ b≠0->ρ' b=ρ b)/\(∀b,b<w.heap.size->v.ownBlock≠some b->ρ b=0->ρ' b=0)/\
   Chg (fun b=>b=g\/nv.ownBlock=some b\/nk.ownBlock=some b\/v.ownBlock=some b) w w':=by
 have hinfo:(Tryz.prog.info? 3).map (fun i=>(i.zero,i.size,i.bytes))=some (some (.int .i64 0),1,8):=by kernel_rfl
 obtain⟨i0,hi,hz0,hz1,hz2⟩:=info_parts hinfo
 have Hi:Hid (Tryz.prog.info? 3=some i0/\i0.zero=some (.int .i64 0)/\i0.size=1/\i0.bytes=8):=⟨hi,hz0,hz1,hz2⟩
 have hinfo2:(Tryz.prog.info? 34).map (fun i=>(i.zero,i.size,i.bytes))=some (some (.slice none 0 0),1,24):=by kernel_rfl
 obtain⟨i2,hj,hy0,hy1,hy2⟩:=info_parts hinfo2
 have Hj:Hid (Tryz.prog.info? 34=some i2/\i2.zero=some (.slice none 0 0)/\i2.size=1/\i2.bytes=24):=⟨hj,hy0,hy1,hy2⟩
 clear hi hz0 hz1 hz2 hinfo hj hy0 hy1 hy2 hinfo2
 obtain⟨n,hnl⟩:∃n,l.length=n:=⟨_,rfl⟩
 obtain⟨ao,cap,hv⟩:=hown.shape
 have hrow0:w.ownsRow (g+1) 3 1 v l.length (l.map (Value.int .i64)):=hown
 rw[hnl]at hv hl hrow0
 subst hv
 have Hrow0:Hid (w.ownsRow (g+1) 3 1 (.slice ao n cap) n (l.map (Value.int .i64))):=hrow0
 clear hrow0 hnl hown
 obtain⟨an,cn,rfl⟩:=row_shape hB.np.rl
 obtain⟨am,cm,rfl⟩:=row_shape hB.np.rk
 have HB:Hid (BkN w g ρ tv tk (.slice an NL.length cn) (.slice am NM.length cm) av ak TL TM NL NM AL AM nx):=hB
 have Hhi:Hid (∀b,w.heap.size<=b->ρ b=0):=hB.hi
 have Hgw:Hid (g<w.heap.size):=hB.lt
 have c6:=hB.c6
 have fz:=hB.fz
 obtain⟨m,hm⟩:∃m,m = -(nx+1):=⟨_,rfl⟩
 have hm':-(nx+1)=m:=hm.symm
 have Hm:Hid (m = -(nx+1)):=hm
 clear hm hB
 go_enter Tryz.func28,Tryz.ntmps28
 go_wp2
 go_loopw [5] (fun i wr=>∃(k:Nat) (ys:List Value),k<=n/\i = .int .i64 k/\wr.ownsRow (g+1) 3 1 (.slice ao n cap) n ys/\(∀j,j<k->ys[j]? = some (.int .i64 m))/\BkN wr g ρ tv tk (.slice an NL.length cn) (.slice am NM.length cm) av ak TL TM NL NM AL AM (nx+1)/\Chg (fun b=>b=g\/(Value.slice an NL.length cn).ownBlock=some b\/(Value.slice am NM.length cm).ownBlock=some b\/(Value.slice ao n cap).ownBlock=some b) w wr) (fun i _=>n-(intOf i).toNat)
 case atStart=>exact⟨0,l.map (Value.int .i64),Nat.zero_le _,rfl,ownsRow_setCell_below Hrow0.out (Nat.lt_succ_self g) _,fun j hj=>by omega,HB.out.set6 _,(Chg.refl _ _).setCell _ (.inl (.inl rfl)) _⟩
 case round=>
  obtain⟨k,ys,hk,rfl,hrow,hys,hBk,hchg⟩:=hrel
  by_cases hlt:k<n
  ·obtain⟨gl,hao⟩:∃gl,ao=some ⟨gl,0,none⟩:=by
    rcases hrow.2 with⟨_,h0⟩|⟨gl,_,_,e,_⟩
    ·omega
    ·simp only[Value.slice.injEq]at e
     exact⟨gl,e.1⟩
   subst hao
   have hyl:ys.length=n:=by have:=hrow.1;omega
   obtain⟨y,hy⟩:∃y,ys[k]? = some y:=⟨_,List.getElem?_eq_getElem (by omega)⟩
   have hcell:wr.cell? ⟨gl,k,none⟩=some y:=(hrow.cellAt k (by omega)).trans hy
   have hfr:∀j,wr.frozen? ⟨gl,j,none⟩=false:=fun j=>hrow.frozenAt j
   have hlt':(k:Int)<n:=by omega
   have Hst:Hid (_/\_):=hrow.stored k (.int .i64 m)
   have Hys:Hid (∀j,j<k->ys[j]? = some (.int .i64 m)):=hys
   have HBk:Hid (BkN wr g ρ tv tk (.slice an NL.length cn) (.slice am NM.length cm) av ak TL TM NL NM AL AM (nx+1)):=hBk
   have hgl:gl≠g:=by have:=(hrow.lt gl rfl).1;omega
   have Hgl:Hid (ρ gl=0):=hf gl rfl
   clear hrow hys hBk hf c6 fz
   go_wp2
   go_roundw
   case rel=>
    refine⟨k+1,ys.set k (.int .i64 m),by omega,by go_num,Hst.out.1,?_,HBk.out.chg (T:=fun b=>b=gl) ⟨rfl,rfl,rfl,by simp,fun x _ hn=>heap_setCell_other _ _ x _ (fun e=>hn e)⟩ (fun b hb=>by rw[hb];exact Hgl.out),hchg.setCell ⟨gl,k,none⟩ (.inl (.inr (.inr (.inr rfl)))) _⟩
    intro j hj
    by_cases hjk:j=k
    ·subst hjk
     rw[List.getElem?_set_self (by omega)]
    ·rw[List.getElem?_set_ne (by omega)]
     exact Hys.out j (by omega)
   case measure=>simp[intOf];omega
  ·have hkl:k=n:=by omega
   have hM:Mk wr (g+1) (.slice ao n cap) n m:=by
    have e:ys=List.replicate n (.int .i64 m):=by
     apply List.ext_getElem?
     intro j
     by_cases hj:j<n
     ·rw[hys j (by omega)];simp[hj]
     ·rw[List.getElem?_eq_none (by have:=hrow.1;omega),List.getElem?_eq_none (by simp;omega)]
    rw[e]at hrow
    exact hrow
   have HM:Hid (Mk wr (g+1) (.slice ao n cap) n m):=hM
   have HBk:Hid (BkN wr g ρ tv tk (.slice an NL.length cn) (.slice am NM.length cm) av ak TL TM NL NM AL AM (nx+1)):=hBk
   have Hchg:Hid (Chg (fun b=>b=g\/(Value.slice an NL.length cn).ownBlock=some b\/(Value.slice am NM.length cm).ownBlock=some b\/(Value.slice ao n cap).ownBlock=some b) w wr):=hchg
   have hlt':¬(k:Int)<n:=by omega
   have hglt:=hBk.lt
   clear hM hBk hchg hrow hys c6 fz
   have HV:Hid (∀b,(Value.slice ao n cap).ownBlock=some b->ρ b=0):=hf
   clear hf Hrow0 hlt HB
   go_wp2_with (at_builtin;(
    refine wpList_append_marksN rfl (.tmp 31) (.tmp 33) rfl (g+1) i0 Hi.out (.slice ao n cap) n 1 m rfl (World.ownsRow.alloc HM.out _) _ 1 rfl (cells_new _ [.int .i64 m] _) (by omega) (by simp;omega) ?_
    intro v1 w1 h1 k1 g1 b1
    refine stop_here ?_))
   obtain⟨a1,p1,rfl⟩:=h1.shape
   have A1:Hid (Mk w1 (g+1) (.slice a1 (n+1) p1) (n+1) m):=h1
   have A0:Hid (Mk w1 (g+1) (.slice ao n cap) n m):=k1 _ _ (by omega) (World.ownsRow.alloc HM.out _)
   have X1:Hid (Chg (fun b=>(Value.slice ao n cap).ownBlock=some b) wr w1):=((Chg.refl _ _).alloc _).trans (Chg.ofGrown g1) (fun _ _ e=>e)
   have D1:Hid ((Value.slice a1 (n+1) p1).ownBlock=(Value.slice ao n cap).ownBlock\/∀b,(Value.slice a1 (n+1) p1).ownBlock=some b->wr.heap.size<=b):=b1.imp id (fun e b hb=>by rw[e]at hb;simp at hb;omega)
   have s1:g+1<=w1.heap.size:=Nat.le_trans (Nat.succ_le_of_lt hglt) X1.out.size
   clear h1 k1 g1 b1
   refine hid_in ?_
   go_wp2_with (at_builtin;(
    refine wpList_append_marksN rfl (.tmp 35) (.tmp 38) rfl (g+1) i0 Hi.out (.slice ao n cap) n 2 m rfl (World.ownsRow.alloc A0.out _) _ 2 rfl (cells_new _ [.int .i64 m,.int .i64 m] _) (by omega) (by simp;omega) ?_
    intro v2 w2 h2 k2 g2 b2
    refine stop_here ?_))
   obtain⟨a2,p2,rfl⟩:=h2.shape
   have B2:Hid (Mk w2 (g+1) (.slice a2 (n+2) p2) (n+2) m):=h2
   have B1:Hid (Mk w2 (g+1) (.slice a1 (n+1) p1) (n+1) m):=k2 _ _ (by omega) (World.ownsRow.alloc A1.out _)
   have B0:Hid (Mk w2 (g+1) (.slice ao n cap) n m):=k2 _ _ (by omega) (World.ownsRow.alloc A0.out _)
   have X2:Hid (Chg (fun b=>(Value.slice ao n cap).ownBlock=some b) wr w2):=(X1.out.alloc _).trans (Chg.ofGrown g2) (fun _ _ e=>e)
   have D2:Hid ((Value.slice a2 (n+2) p2).ownBlock=(Value.slice ao n cap).ownBlock\/∀b,(Value.slice a2 (n+2) p2).ownBlock=some b->wr.heap.size<=b):=b2.imp id (fun e b hb=>by rw[e]at hb;have:=X1.out.size;simp at hb;omega)
   have s2:g+1<=w2.heap.size:=Nat.le_trans (Nat.succ_le_of_lt hglt) X2.out.size
   clear h2 k2 g2 b2 A0 A1 X1
   refine hid_in ?_
   go_wp2_with (at_builtin;(
    refine wpList_append_marksN rfl (.tmp 40) (.tmp 44) rfl (g+1) i0 Hi.out (.slice ao n cap) n 3 m rfl (World.ownsRow.alloc B0.out _) _ 3 rfl (cells_new _ [.int .i64 m,.int .i64 m,.int .i64 m] _) (by omega) (by simp;omega) ?_
    intro v3 w3 h3 k3 g3 b3
    refine stop_here ?_))
   obtain⟨a3,p3,rfl⟩:=h3.shape
   have C3:Hid (Mk w3 (g+1) (.slice a3 (n+3) p3) (n+3) m):=h3
   have C2:Hid (Mk w3 (g+1) (.slice a2 (n+2) p2) (n+2) m):=k3 _ _ (by omega) (World.ownsRow.alloc B2.out _)
   have C1:Hid (Mk w3 (g+1) (.slice a1 (n+1) p1) (n+1) m):=k3 _ _ (by omega) (World.ownsRow.alloc B1.out _)
   have C0:Hid (Mk w3 (g+1) (.slice ao n cap) n m):=k3 _ _ (by omega) (World.ownsRow.alloc B0.out _)
   have X3:Hid (Chg (fun b=>(Value.slice ao n cap).ownBlock=some b) wr w3):=(X2.out.alloc _).trans (Chg.ofGrown g3) (fun _ _ e=>e)
   have D3:Hid ((Value.slice a3 (n+3) p3).ownBlock=(Value.slice ao n cap).ownBlock\/∀b,(Value.slice a3 (n+3) p3).ownBlock=some b->wr.heap.size<=b):=b3.imp id (fun e b hb=>by rw[e]at hb;have:=X2.out.size;simp at hb;omega)
   have s3:g+1<=w3.heap.size:=Nat.le_trans (Nat.succ_le_of_lt hglt) X3.out.size
   have BK3:Hid (BkN w3 g ρ tv tk (.slice an NL.length cn) (.slice am NM.length cm) av ak TL TM NL NM AL AM (nx+1)):=HBk.out.chg X3.out HV.out
   have c2:=BK3.out.c2
   clear h3 k3 g3 b3 B0 B1 B2 X2
   refine hid_in ?_
   go_wp2_with (at_builtin;(
    refine wpList_append_own_at _ rfl (.tmp 50) (.tmp 55) 33 rfl (g+1) 34 i2 (.slice none 0 0) 1 24 Tryz.underlying33 Hj.out.1 Hj.out.2.1 Hj.out.2.2.1 Hj.out.2.2.2 rfl (by decide) (.slice an NL.length cn) NL.length NL rfl (World.ownsRow.alloc BK3.out.np.rl _) _ 4 4 [.slice ao n cap,.slice a1 (n+1) p1,.slice a2 (n+2) p2,.slice a3 (n+3) p3] rfl rfl (cells_new _ [.slice ao n cap,.slice a1 (n+1) p1,.slice a2 (n+2) p2,.slice a3 (n+3) p3] _) ?_ ?_ ?_ ?_ ?_
    ·intro u hu
     simp only[List.mem_cons,List.not_mem_nil,or_false]at hu
     rcases hu with rfl|rfl|rfl|rfl<;>rfl
    ·unfold maxLen;omega
    ·omega
    ·simp;omega
    intro v4 w4 h4 g4 _ b4
    refine stop_here ?_))
   obtain⟨a4,p4,rfl⟩:=row_shape h4
   have H4:Hid (w4.ownsRow (g+1) 34 1 (.slice a4 (NL.length+4) p4) (NL.length+4) (NL++[.slice ao n cap,.slice a1 (n+1) p1,.slice a2 (n+2) p2,.slice a3 (n+3) p3])):=h4
   have X4:Hid (Chg (fun b=>(Value.slice an NL.length cn).ownBlock=some b) w3 w4):=((Chg.refl _ _).alloc _).trans (Chg.ofGrown g4) (fun _ _ e=>e)
   have D4:Hid ((Value.slice a4 (NL.length+4) p4).ownBlock=(Value.slice an NL.length cn).ownBlock\/∀b,(Value.slice a4 (NL.length+4) p4).ownBlock=some b->w3.heap.size<=b):=b4.imp id (fun e b hb=>by rw[e]at hb;simp at hb;omega)
   have hng:¬(Value.slice an NL.length cn).ownBlock=some g:=fun e=>by have:=(BK3.out.np.rl.lt g e).1;omega
   have d2:=X4.out.cell BK3.out.c2 hng
   have d3:=X4.out.cell BK3.out.c3 hng
   have f4:∀o,w4.frozen? ⟨g,o,none⟩=false:=fun o=>(X4.out.frozen (p:=⟨g,o,none⟩) (show g<w3.heap.size by omega) hng).trans (BK3.out.fz o)
   have s4:g+1<=w4.heap.size:=Nat.le_trans s3 X4.out.size
   have RM:Hid ((w4.setCell ⟨g,2,none⟩ (.slice a4 (NL.length+4) p4)).ownsRow (g+1) 3 1 (.slice am NM.length cm) NM.length NM):=ownsRow_setCell_below (X4.out.row BK3.out.np.rk (fun x hx e=>by have a:=BK3.out.np.fm x hx;have b:=BK3.out.np.fl x e;omega)) (Nat.lt_succ_self g) _
   have hML:NM.length<=1000000000:=by rw[<-BK3.out.np.len];exact hN
   clear h4 g4 b4 hng c2
   refine hid_in ?_
   go_wp2_with (at_builtin;(
    refine wpList_append_own_at _ rfl (.tmp 63) (.tmp 68) 34 rfl (g+1) 3 i0 (.int .i64 0) 1 8 Tryz.underlying34 Hi.out.1 Hi.out.2.1 Hi.out.2.2.1 Hi.out.2.2.2 rfl (by decide) (.slice am NM.length cm) NM.length NM rfl (World.ownsRow.alloc RM.out _) _ 4 4 [.int .i64 m,.int .i64 m,.int .i64 m,.int .i64 m] rfl rfl (cells_newAt _ [.int .i64 m,.int .i64 m,.int .i64 m,.int .i64 m] _ _ (by simp)) ?_ ?_ ?_ ?_ ?_
    ·intro u hu;simp at hu;subst hu;rfl
    ·unfold maxLen;omega
    ·omega
    ·simp;omega
    intro v5 w5 h5 g5 _ b5
    refine stop_here ?_))
   obtain⟨a5,p5,rfl⟩:=row_shape h5
   have H5:Hid (w5.ownsRow (g+1) 3 1 (.slice a5 (NM.length+4) p5) (NM.length+4) (NM++[.int .i64 m,.int .i64 m,.int .i64 m,.int .i64 m])):=h5
   have X5:Hid (Chg (fun b=>(Value.slice am NM.length cm).ownBlock=some b) (w4.setCell ⟨g,2,none⟩ (.slice a4 (NL.length+4) p4)) w5):=((Chg.refl _ _).alloc _).trans (Chg.ofGrown g5) (fun _ _ e=>e)
   have D5:Hid ((Value.slice a5 (NM.length+4) p5).ownBlock=(Value.slice am NM.length cm).ownBlock\/∀b,(Value.slice a5 (NM.length+4) p5).ownBlock=some b->w4.heap.size<=b):=b5.imp id (fun e b hb=>by rw[e]at hb;simp at hb;omega)
   have hmg:¬(Value.slice am NM.length cm).ownBlock=some g:=fun e=>by have:=(BK3.out.np.rk.lt g e).1;omega
   have e3:=X5.out.cell (p:=⟨g,3,none⟩) ((World.cell?_setCell_other _ ⟨g,2,none⟩ ⟨g,3,none⟩ _ (by simp)).trans d3) hmg
   have f5:∀o,w5.frozen? ⟨g,o,none⟩=false:=fun o=>(X5.out.frozen (p:=⟨g,o,none⟩) (by simp;omega) hmg).trans ((World.frozen?_setCell _ _ _ _).trans (f4 o))
   clear h5 g5 b5 hmg
   refine hid_in ?_
   go_wp2
   obtain⟨z1,z2,z3⟩:=takenN HBk.out BK3.out Hhi.out Hgw.out Hchg.out.size X3.out.size HV.out C0.out C1.out C2.out C3.out (by omega) D1.out D2.out D3.out H4.out X4.out D4.out H5.out X5.out D5.out
   refine bodyPost_end (v:=.tuple #[]) (by simp[results,Tryz.results28,go_sem]) rfl ⟨rfl,_,.slice a4 (NL.length+4) p4,.slice a5 (NM.length+4) p5,[.slice ao n cap,.slice a1 (n+1) p1,.slice a2 (n+2) p2,.slice a3 (n+3) p3],rfl,?_,z2,z3,?_⟩
   ·rw[<-Hm.out]
    exact z1
   ·refine(((Hchg.out.trans X3.out ?_).trans X4.out ?_).setCell ⟨g,2,none⟩ (.inl (.inl rfl)) _ |>.trans X5.out ?_).setCell ⟨g,3,none⟩ (.inl (.inl rfl)) _
    ·exact fun _ _ e=>.inr (.inr (.inr e))
    ·exact fun _ _ e=>.inr (.inl e)
    ·exact fun _ _ e=>.inr (.inr (.inl e))
end Go.Proofs.YtdjhhnolcafkiaaGreat
namespace Go.Proofs.YtdjhhnolcafkiaaGreat
open Go.RowKit
namespace Pk
theorem takenA {ρ:Nat->Nat}{w wr w3 w4 w5:World}{g n:Nat}{tv tk nv nk av ak v v1 v2 v3 v4 v5:Value}{TL TM NL NM AL AM:List Value}{nx m:Int}
  (_hB:BkN wr g ρ tv tk nv nk av ak TL TM NL NM AL AM nx) (hB3:BkN w3 g ρ tv tk nv nk av ak TL TM NL NM AL AM nx) (hi:∀b,w.heap.size<=b->ρ b=0) (hgw:g<w.heap.size) (hww:w.heap.size<=wr.heap.size) (hw3:wr.heap.size<=w3.heap.size) (hv:∀b,v.ownBlock=some b->ρ b=0)
  (C0:MkN w3 (g+1) 43 v n [.int .i64 m,.int .i64 m,.slice none 0 0]) (C1:MkN w3 (g+1) 43 v1 (n+1) [.int .i64 m,.int .i64 m,.slice none 0 0]) (C2:MkN w3 (g+1) 43 v2 (n+2) [.int .i64 m,.int .i64 m,.slice none 0 0]) (C3:MkN w3 (g+1) 43 v3 (n+3) [.int .i64 m,.int .i64 m,.slice none 0 0]) (hn:n<=9000)
  (D1:v1.ownBlock=v.ownBlock\/∀b,v1.ownBlock=some b->wr.heap.size<=b) (D2:v2.ownBlock=v.ownBlock\/∀b,v2.ownBlock=some b->wr.heap.size<=b) (D3:v3.ownBlock=v.ownBlock\/∀b,v3.ownBlock=some b->wr.heap.size<=b)
  (H4:w4.ownsRow (g+1) 77 1 v4 (AL.length+4) (AL++[v,v1,v2,v3])) (X4:Chg (fun b=>av.ownBlock=some b) w3 w4) (D4:v4.ownBlock=av.ownBlock\/∀b,v4.ownBlock=some b->w3.heap.size<=b)
  (H5:w5.ownsRow (g+1) 3 1 v5 (AM.length+4) (AM++[.int .i64 m,.int .i64 m,.int .i64 m,.int .i64 m])) (X5:Chg (fun b=>ak.ownBlock=some b) (w4.setCell ⟨g,4,none⟩ v4) w5)
  (D5:v5.ownBlock=ak.ownBlock\/∀b,v5.ownBlock=some b->w4.heap.size<=b) :
  BkN (w5.setCell ⟨g,5,none⟩ v5) g (roleOf w ρ 6 7 v4 v5 v v1 v2 v3) tv tk nv nk v4 v5 TL TM NL NM (AL++[v,v1,v2,v3]) (AM++[.int .i64 m,.int .i64 m,.int .i64 m,.int .i64 m]) nx/\
   (∀b,b<w.heap.size->ρ b≠0->roleOf w ρ 6 7 v4 v5 v v1 v2 v3 b=ρ b)/\(∀b,b<w.heap.size->v.ownBlock≠some b->ρ b=0->roleOf w ρ 6 7 v4 v5 v v1 v2 v3 b=0):=by
 have h1g:=(hB3.rg g).2 rfl
 have hng:¬av.ownBlock=some g:=fun e=>by have:=(hB3.ap.rl.lt g e).1;omega
 have hmg:¬ak.ownBlock=some g:=fun e=>by have:=(hB3.ap.rk.lt g e).1;omega
 have X1:Chg (fun b=>av.ownBlock=some b\/ρ b=1) w3 (w4.setCell ⟨g,4,none⟩ v4):=(X4.mono (fun _ _ e=>.inl e)).setCell ⟨g,4,none⟩ (.inl (.inr h1g)) _
 have X2:Chg (fun b=>ak.ownBlock=some b\/ρ b=1) (w4.setCell ⟨g,4,none⟩ v4) (w5.setCell ⟨g,5,none⟩ v5):=(X5.mono (fun _ _ e=>.inl e)).setCell ⟨g,5,none⟩ (.inl (.inr h1g)) _
 have H1:(w4.setCell ⟨g,4,none⟩ v4).ownsRow (g+1) 77 1 v4 (AL.length+4) (AL++[v,v1,v2,v3]):=ownsRow_setCell_below H4 (Nat.lt_succ_self g) _
 have H2:(w5.setCell ⟨g,5,none⟩ v5).ownsRow (g+1) 3 1 v5 (AM.length+4) (AM++[.int .i64 m,.int .i64 m,.int .i64 m,.int .i64 m]):=ownsRow_setCell_below H5 (Nat.lt_succ_self g) _
 have D2':v5.ownBlock=ak.ownBlock\/∀b,v5.ownBlock=some b->(w4.setCell ⟨g,4,none⟩ v4).heap.size<=b:=D5.imp id (fun h b hb=>by simpa using h b hb)
 have up:∀(u:Value),(u.ownBlock=v.ownBlock\/∀b,u.ownBlock=some b->wr.heap.size<=b)->(u.ownBlock=v.ownBlock\/∀b,u.ownBlock=some b->w.heap.size<=b):=fun u h=>h.imp id (fun h b hb=>Nat.le_trans hww (h b hb))
 obtain⟨f1,f2,f3,f4,f5,f6,f7⟩:=role_facts (m:=.int .i64 m) hB3.ap (Nat.le_trans hww hw3) hi (by decide) (by decide) H1 X1.size D4 H2 X2.size D2' C0 C1 C2 C3 hv (up v1 D1) (up v2 D2) (up v3 D3) hB3.rg hgw
 have q:∀r s,r≠1->r≠s->∀(x:Value),(∀b,x.ownBlock=some b->ρ b=s)->∀b,(x.ownBlock=some b\/ρ b=1)->ρ b≠r:=fun r s h1 h2 x hx b hb e=>by
  rcases hb with hb|hb
  ·exact h2 (e.symm.trans (hx b hb))
  ·exact h1 (e.symm.trans hb)
 have q1:∀r,r≠1->r≠6->∀b,(av.ownBlock=some b\/ρ b=1)->ρ b≠r:=fun r a b=>q r 6 a b av hB3.ap.fl
 have q2:∀r,r≠1->r≠7->∀b,(ak.ownBlock=some b\/ρ b=1)->ρ b≠r:=fun r a b=>q r 7 a b ak hB3.ap.fm
 have hsz:w3.heap.size<=(w5.setCell ⟨g,5,none⟩ v5).heap.size:=Nat.le_trans X1.size X2.size
 have keep:∀b,b<(w5.setCell ⟨g,5,none⟩ v5).heap.size->ρ b≠0->roleOf w ρ 6 7 v4 v5 v v1 v2 v3 b=ρ b:=fun b _ hne=>f2 b (by
  rcases Nat.lt_or_ge b w3.heap.size with h|h
  ·exact h
  ·exact absurd (hB3.hi b h) hne) hne
 have own:∀o u,o≠4->o≠5->w3.cell? ⟨g,o,none⟩=some u->(w5.setCell ⟨g,5,none⟩ v5).cell? ⟨g,o,none⟩=some u:=fun o u h2 h3 h4=>by
  rw[World.cell?_setCell_other _ ⟨g,5,none⟩ ⟨g,o,none⟩ _ (fun e=>h3 (by injection e with _ e2 _;exact e2.symm))]
  refine X5.cell ?_ hmg
  rw[World.cell?_setCell_other _ ⟨g,4,none⟩ ⟨g,o,none⟩ _ (fun e=>h2 (by injection e with _ e2 _;exact e2.symm))]
  exact X4.cell h4 hng
 have c3:(w4.setCell ⟨g,4,none⟩ v4).cell? ⟨g,5,none⟩=some ak:=(World.cell?_setCell_other _ ⟨g,4,none⟩ ⟨g,5,none⟩ _ (by simp)).trans (X4.cell hB3.c5 hng)
 refine⟨⟨own 0 _ (by omega) (by omega) hB3.c0,own 1 _ (by omega) (by omega) hB3.c1,own 2 _ (by omega) (by omega) hB3.c2,own 3 _ (by omega) (by omega) hB3.c3,?_,World.cell?_setCell_same _ _ _ (X5.cell c3 hmg),own 6 _ (by omega) (by omega) hB3.c6,?_,f5,f6,?_,?_,?_⟩,?_,f7⟩
 ·rw[World.cell?_setCell_other _ ⟨g,5,none⟩ ⟨g,4,none⟩ _ (by simp)]
  exact X5.cell (World.cell?_setCell_same _ _ _ (X4.cell hB3.c4 hng)) hmg
 ·intro o
  rw[World.frozen?_setCell,X5.frozen (p:=⟨g,o,none⟩) (by have:=hB3.lt;have:=X4.size;simp;omega) hmg,World.frozen?_setCell,X4.frozen (p:=⟨g,o,none⟩) hB3.lt hng]
  exact hB3.fz o
 ·exact((hB3.tp.chg X1 (q1 2 (by decide) (by decide)) (q1 3 (by decide) (by decide)) (q1 8 (by decide) (by decide))).chg X2 (q2 2 (by decide) (by decide)) (q2 3 (by decide) (by decide)) (q2 8 (by decide) (by decide))).roles keep (by decide) (by decide)
 ·exact((hB3.np.chg X1 (q1 4 (by decide) (by decide)) (q1 5 (by decide) (by decide)) (q1 8 (by decide) (by decide))).chg X2 (q2 4 (by decide) (by decide)) (q2 5 (by decide) (by decide)) (q2 8 (by decide) (by decide))).roles keep (by decide) (by decide)
 ·exact hB3.ap.taken (by decide) (by decide) (by decide) (by decide) (by decide) H1 X1 D4 H2 X2 D2' (by decide) (by decide) (fun b hb=>by rw[(hB3.rg b).1 hb];exact hB3.lt) C0 C1 C2 C3 (by omega) f1 f2 f3 f4
 ·exact fun b hb hne=>f2 b (by omega) hne
theorem wpList_append_asks {ops:Array Oper}{rest:List Oper}{o:Oper}{a:Act}{w:World}{Q:Exit->Act->World->Prop}(hgd:o.guard=none) (s x:Operand)
  (ho:o.op = .call { callee:=.builtin .append,args:=#[s,x],argTypes:=#[77,77] })
  (base:Nat) (i:TypeInfo) (hi:Tryz.prog.info? 43=some i/\i.zero=some (.agg #[.int .i64 0,.int .i64 0,.slice none 0 0])/\i.size=3/\i.bytes=40)
  (v:Value) (n j:Nat) (m:Int) (hs:a.eval s=v) (hown:MkN w base 43 v n [.int .i64 m,.int .i64 m,.slice none 0 0]) (ad:Addr) (c:Nat) (hx:a.eval x = .slice (some ad) j c) (hnews:∀k u,(rep j [.int .i64 m,.int .i64 m,.slice none 0 0])[k]? = some u->w.cell? (ad.add k)=some u)
  (hn:n+j<=10000) (hbase:base<=w.heap.size)
  (h:∀v' w',MkN w' base 43 v' (n+j) [.int .i64 m,.int .i64 m,.slice none 0 0]->(∀u k,k<=n+j->MkN w base 43 u k [.int .i64 m,.int .i64 m,.slice none 0 0]->MkN w' base 43 u k [.int .i64 m,.int .i64 m,.slice none 0 0])->w.grownBy w' v.ownBlock->(v'.ownBlock=v.ownBlock\/v'.ownBlock=some w.heap.size)->wpList Tryz.prog ops Q rest (a.put o.dst v') w') :
  wpList Tryz.prog ops Q (o::rest) a w:=by
 refine wpList_plain hgd fun K hK=>?_
 obtain⟨v',w',hr,h2,h3,h4,h5⟩:=append_like w base 77 43 o.type Tryz.underlying77 i (.agg #[.int .i64 0,.int .i64 0,.slice none 0 0]) 40 hi.1 hi.2.1 [.int .i64 m,.int .i64 m,.slice none 0 0] hi.2.2.1 hi.2.2.2 (by decide) rfl (by simp) (by intro u hu;simp at hu;rcases hu with rfl|rfl<;>rfl) v n j hown ad c hnews hn hbase
 unfold Oper.wp execOp
 simp only[ho,resolve,invoke,builtin,Sem.run_bind,Sem.run_pure,Result.andThen_ok,List.map_toArray,List.map_cons,List.map_nil,hs,hx,hr]
 exact hK _ _ (h v' w' h2 h3 h4 h5)
structure Mid (F:Nat->Prop) (w:World) (g:Nat) (ρ:Nat->Nat) (tv tk av ak:Value) (TL TM AL AM:List Value) (NN:Nat) (nx:Int) (ao:Option Addr) (cap:Nat) (xs:List Ask1) (i:Nat) (wr:World) (ρ':Nat->Nat) (nv nk:Value) (NL:List Value) (NS:List Int):Prop where
 bk:BkN wr g ρ' tv tk nv nk av ak TL TM NL (NS.map (Value.int .i64)) AL AM (nx+i)
 len:NL.length=NN+4*i
 rho:∀b,b<w.heap.size->ρ b≠0->ρ' b=ρ b
 row:wr.ownsRow (g+1) 43 3 (.slice ao xs.length cap) xs.length (flatA xs)
 rest:∀(j:Nat) (x:Ask1),i<=j->xs[j]? = some x->OwnInts wr (g+1) x.v x.l/\∀b,x.v.ownBlock=some b->ρ' b=0/\b<w.heap.size
 lst:∀b,(Value.slice ao xs.length cap).ownBlock=some b->ρ' b=0/\b<w.heap.size
 chg:Chg (fun b=>g<=b/\¬F b) w wr
 far:∀b,F b->ρ' b=0
theorem Mid.next {F:Nat->Prop}{w wr w':World}{g:Nat}{ρ ρ' ρ2:Nat->Nat}{tv tk av ak nv nk nv2 nk2:Value}{TL TM AL AM NL NL2:List Value}{NS:List Int}{NN:Nat}{nx:Int}{ao:Option Addr}{cap i:Nat}{xs:List Ask1}{x:Ask1}
  (h:Mid F w g ρ tv tk av ak TL TM AL AM NN nx ao cap xs i wr ρ' nv nk NL NS) (hFx:∀b,F b->b<w.heap.size/\x.v.ownBlock≠some b) (hx:xs[i]? = some x) (hA:∀(i j:Nat) (x y:Ask1),i≠j->xs[i]? = some x->xs[j]? = some y->∀b,x.v.ownBlock=some b->y.v.ownBlock≠some b)
  (hO:∀(i:Nat) (x:Ask1),xs[i]? = some x->∀b,x.v.ownBlock=some b->(Value.slice ao xs.length cap).ownBlock≠some b) (_hgw:g<w.heap.size)
  (hl:NL2.length=4) (hB:BkN w' g ρ2 tv tk nv2 nk2 av ak TL TM (NL++NL2) (NS.map (Value.int .i64)++[.int .i64 (-(nx+i+1)),.int .i64 (-(nx+i+1)),.int .i64 (-(nx+i+1)),.int .i64 (-(nx+i+1))]) AL AM (nx+i+1))
  (r1:∀b,b<wr.heap.size->ρ' b≠0->ρ2 b=ρ' b) (r2:∀b,b<wr.heap.size->x.v.ownBlock≠some b->ρ' b=0->ρ2 b=0)
  (hc:Chg (fun b=>b=g\/nv.ownBlock=some b\/nk.ownBlock=some b\/x.v.ownBlock=some b) wr w') :
  Mid F w g ρ tv tk av ak TL TM AL AM NN nx ao cap xs (i+1) w' ρ2 nv2 nk2 (NL++NL2) (NS++[-(nx+i+1),-(nx+i+1),-(nx+i+1),-(nx+i+1)]):=by
 have sz:=h.chg.size
 have z:∀b,ρ' b=0->x.v.ownBlock≠some b->¬(b=g\/nv.ownBlock=some b\/nk.ownBlock=some b\/x.v.ownBlock=some b):=fun b h0 hne=>by
  rintro(e|e|e|e)
  ·rw[(h.bk.rg b).2 e]at h0;cases h0
  ·rw[h.bk.np.fl b e]at h0;cases h0
  ·rw[h.bk.np.fm b e]at h0;cases h0
  ·exact hne e
 refine⟨?_,?_,fun b hb hne=>?_,?_,?_,?_,?_,?_⟩
 ·rw[List.map_append,Int.natCast_add,Int.natCast_one,<-Int.add_assoc]
  exact hB
 ·rw[List.length_append,hl,h.len];omega
 ·have e:=h.rho b hb hne
  rw[r1 b (by omega) (by rw[e];exact hne),e]
 ·refine rowA_chg hc h.row (fun b hb=>z b (h.lst b hb).1 (fun e=>hO i x hx b e hb))
 ·intro j y hj hy
  obtain⟨o1,o2⟩:=h.rest j y (by omega) hy
  have ne:∀b,y.v.ownBlock=some b->x.v.ownBlock≠some b:=fun b hb e=>hA i j x y (by omega) hx hy b e hb
  refine⟨hc.row o1 (fun b hb=>z b (o2 b hb).1 (ne b hb)),fun b hb=>⟨r2 b (by have:=(o2 b hb).2;omega) (ne b hb) (o2 b hb).1,(o2 b hb).2⟩⟩
 ·intro b hb
  have hb2:=h.lst b hb
  exact⟨r2 b (by omega) (fun e=>hO i x hx b e hb) hb2.1,hb2.2⟩
 ·refine h.chg.trans hc (fun b hb e0=>⟨?_,fun hF=>z b (h.far b hF) (hFx b hF).2 e0⟩)
  rcases e0 with e|e|e|e
  ·omega
  ·have:=(h.bk.np.rl.lt b e).1;omega
  ·have:=(h.bk.np.rk.lt b e).1;omega
  ·have:=(World.ownsRow.lt (h.rest i x (Nat.le_refl _) hx).1 b e).1;omega
 ·intro b hF
  exact r2 b (by have:=(hFx b hF).1;omega) (hFx b hF).2 (h.far b hF)
theorem wrapI64s (n:Int) (h0:-9223372036854775808<=n) (h1:n<9223372036854775808):IntKind.i64.wrap n=n:=by
 simp[IntKind.wrap,IntKind.bits,IntKind.signed];omega
theorem wp_append_at {w:World}{o:Oper}{a:Act}{K:Act->World->Prop}{Q:Exit->Act->World->Prop}(s x:Operand) (t:TypeId)
  (ho:o.op = .call { callee:=.builtin .append,args:=#[s,x],argTypes:=#[t,t] })
  (base:Nat) (e:TypeId) (i:TypeInfo) (z:Value) (size bytes:Nat) (ht:Tryz.prog.underlying t=some (.slice e)) (hi:Tryz.prog.info? e=some i) (hz:i.zero=some z)
  (hsize:i.size=size) (hby:i.bytes=bytes) (hzs:z.cells.size=size) (hsz:0<size)
  (v:Value) (n:Nat) (xs:List Value) (hs:a.eval s=v) (hown:w.ownsRow base e size v n xs)
  (ad:Addr) (m c:Nat) (news:List Value) (hx:a.eval x = .slice (some ad) m c) (hl:news.length=m*size) (hnews:∀j u,news[j]? = some u->w.cell? (ad.add j)=some u) (h1:∀u∈news,u.oneCell'=true)
  (h63:n+m<=maxLen) (hbytes:(n+m)*bytes<=140737488355328) (hbase:base<=w.heap.size)
  (h:∀v' w',w'.ownsRow base e size v' (n+m) (xs++news)->w.grownBy w' v.ownBlock->(v'.ownBlock=v.ownBlock\/v'.ownBlock=some w.heap.size)->K (a.put o.dst v') w'):o.wp Tryz.prog a w K Q:=by
 obtain⟨v',w',hr,h2,h3,_,h5⟩:=run_append_own_at (P:=Tryz.prog) w base t o.type e i z size bytes ht hi hz hsize hby hzs hsz v n xs hown ad m c news hl hnews h1 h63 hbytes hbase
 unfold Oper.wp execOp
 simp only[ho,resolve,invoke,builtin,Sem.run_bind,Sem.run_pure,Result.andThen_ok,List.map_toArray,List.map_cons,List.map_nil,hs,hx,hr]
 exact h v' w' h2 h3 h5
theorem set_three (ys:List Value) (k:Nat) (a b c:Value) (h:k*3+3<=ys.length):(((ys.set (k*3) a).set (k*3+1) b).set (k*3+2) c).take ((k+1)*3)=ys.take (k*3)++[a,b,c]:=by
 apply List.ext_getElem?
 intro j
 rw[show(k+1)*3=k*3+3 by omega,List.getElem?_take]
 by_cases h1:j<k*3
 ·rw[if_pos (by omega),List.getElem?_set_ne (by omega),List.getElem?_set_ne (by omega),List.getElem?_set_ne (by omega),List.getElem?_append_left (by rw[List.length_take];omega),List.getElem?_take,if_pos h1]
 ·rw[List.getElem?_append_right (by rw[List.length_take];omega),List.length_take,Nat.min_eq_left (by omega)]
  obtain⟨d,rfl⟩:∃d,j=k*3+d:=⟨j-k*3,by omega⟩
  rw[show k*3+d-k*3=d by omega]
  match d with
  | 0=>rw[if_pos (by omega),List.getElem?_set_ne (by omega),List.getElem?_set_ne (by omega),Nat.add_zero,List.getElem?_set_self (by omega)];rfl
  | 1=>rw[if_pos (by omega),List.getElem?_set_ne (by omega),List.getElem?_set_self (by rw[List.length_set];omega)];rfl
  | 2=>rw[if_pos (by omega),List.getElem?_set_self (by rw[List.length_set,List.length_set];omega)];rfl
  | d+3=>rw[if_neg (by omega)];rfl
end Pk
open Pk
theorem ownsA_any (F:Nat->Prop) (g:Nat) (ρ:Nat->Nat) (tv tk nv nk av ak:Value) (TL TM NL AL:List Value) (NS AS:List Int) (nx:Int) (lv:Value) (xs:List Ask1) (w:World) (hB:BkN w g ρ tv tk nv nk av ak TL TM NL (NS.map (Value.int .i64)) AL (AS.map (Value.int .i64)) nx) (hA:OwnAsks w (g+1) lv xs)
  (hf:∀b,lv.ownBlock=some b->ρ b=0) (hfx:∀(i:Nat) (x:Ask1),xs[i]? = some x->∀b,x.v.ownBlock=some b->ρ b=0)
  (hF:∀b,F b->ρ b=0/\b<w.heap.size/\lv.ownBlock≠some b/\∀(i:Nat) (x:Ask1),xs[i]? = some x->x.v.ownBlock≠some b)
  (hl:xs.length<=400) (hN:NL.length<=900000000) (hAL:AL.length<=900000000) (hx0:0<=nx) (hx1:nx<=900000000) :
  Calls Tryz.prog 60 #[.pointer (some ⟨g,0,none⟩),lv] w fun e w'=>e = .returned (.tuple #[])/\∃(ρ':Nat->Nat) (nv' nk' av' ak':Value) (NL':List Value) (NS':List Int) (AL':List Value) (AS':List Int),BkN w' g ρ' tv tk nv' nk' av' ak' TL TM NL' (NS'.map (Value.int .i64)) AL' (AS'.map (Value.int .i64)) (nx+xs.length+1)/\
   NL'.length=NL.length+4*xs.length/\AL'.length=AL.length+4/\(∀b,b<w.heap.size->ρ b≠0->ρ' b=ρ b)/\Chg (fun b=>g<=b/\¬F b) w w'/\(∀b,F b->ρ' b=0):=by
 obtain⟨ao,cap,rfl⟩:=rowA_shape hA.row
 have hgw:=hB.lt
 have HF:=hyd hF
 have HFg:Hid (¬F g):=fun e=>by have:=(hF g e).1;rw[(hB.rg g).2 rfl]at this;cases this
 clear hF
 have HA:=hyd hA
 have M0:Hid (Mid F w g ρ tv tk av ak TL TM AL (AS.map (Value.int .i64)) NL.length nx ao cap xs 0 w ρ nv nk NL NS):=
  ⟨by simpa using hB,by omega,fun _ _ _=>rfl,hA.row,fun j x _ hx=>⟨(hA.each j x hx).1,fun b hb=>⟨hfx j x hx b hb,(World.ownsRow.lt (hA.each j x hx).1 b hb).2⟩⟩,fun b hb=>⟨hf b hb,(World.ownsRow.lt hA.row b hb).2⟩,Chg.refl _ _,fun b hb=>(HF.out b hb).1⟩
 obtain⟨n,hn⟩:∃n,xs.length=n:=⟨_,rfl⟩
 have Hn:=hyd hn
 rw[hn]at hl
 clear hA hB hf hfx
 rw[hn]
 clear hn
 go_enter Tryz.func60,Tryz.ntmps60
 go_wp2
 go_loopw [4] (fun s4 wr=>∃(i:Nat) (ρ':Nat->Nat) (nv' nk':Value) (NL':List Value) (NS':List Int),i<=n/\s4 = .int .i64 i/\Mid F w g ρ tv tk av ak TL TM AL (AS.map (Value.int .i64)) NL.length nx ao cap xs i wr ρ' nv' nk' NL' NS') (fun s4 _=>n-(intOf s4).toNat)
 case atStart=>exact⟨0,_,_,_,_,_,Nat.zero_le _,rfl,M0.out⟩
 case round=>
  obtain⟨i,ρ1,nv1,nk1,NL1,NS1,hi,rfl,hM⟩:=hrel
  have HM:=hyd hM
  by_cases hlt:i<n
  ·have hlt':(i:Int)<n:=by omega
   have hix:i<xs.length:=by rw[Hn.out];exact hlt
   obtain⟨gl,rfl⟩:=rowA_some hM.row (by omega)
   have hc:=(World.ownsRow.cellAt hM.row (i*3+2) (by omega)).trans (flatA_at xs i hix)
   have hxi:xs[i]? = some xs[i]:=List.getElem?_eq_getElem hix
   obtain⟨x,hx⟩:∃x,xs[i]=x:=⟨_,rfl⟩
   rw[hx]at hc hxi
   have Hxi:=hyd hxi
   obtain⟨ax,cx,hxv⟩:=(hM.rest i x (Nat.le_refl _) hxi).1.shape
   rw[hxv]at hc
   have Hxv:=hyd hxv
   clear hM hx hxi hxv
   go_wp2_with fail
   have hbd:=(HA.out.each i x Hxi.out).2
   obtain⟨o1,o2⟩:=HM.out.rest i x (Nat.le_refl _) Hxi.out
   rw[Hxv.out]at o1 o2
   refine(ownsN_any g ρ1 tv tk nv1 nk1 av ak TL TM NL1 (NS1.map (Value.int .i64)) AL (AS.map (Value.int .i64)) (nx+i) _ x.l _ HM.out.bk o1 (fun b hb=>(o2 b hb).1) hbd (by rw[HM.out.len];omega) (by omega) (by omega)).mono ?_
   rintro e w2 ⟨rfl,ρ2,nv2,nk2,NL2,hl2,hB2,q1,q2,hc2⟩
   have HM2:Hid (Mid F w g ρ tv tk av ak TL TM AL (AS.map (Value.int .i64)) NL.length nx _ cap xs (i+1) w2 ρ2 nv2 nk2 (NL1++NL2) _):=
    HM.out.next (fun b hb=>⟨(HF.out b hb).2.1,(HF.out b hb).2.2.2 i x Hxi.out⟩) Hxi.out HA.out.apart HA.out.out hgw hl2 hB2 q1 (by rw[Hxv.out];exact q2) (by rw[Hxv.out];exact hc2)
   clear hB2 hc2 q1 q2 o1 o2 hc
   go_wp2
   go_roundw
   case rel=>exact⟨i+1,ρ2,nv2,nk2,_,_,by omega,by go_num,HM2.out⟩
   case measure=>simp[intOf];omega
  ·have hin:i=n:=by omega
   subst hin
   have hlt':¬(i:Int)<i:=by omega
   have hc6:=hM.bk.c6
   have hfz:=hM.bk.fz
   have H6:Hid (((World.setCell _ ⟨g,6,none⟩ (.int .i64 (nx+i+1))).drew).cell? ⟨g,6,none⟩=some (.int .i64 (nx+i+1))):=World.cell?_setCell_same _ _ _ hc6
   have HB1:Hid (BkN (World.setCell _ ⟨g,6,none⟩ (.int .i64 (nx+i+1))) g ρ1 tv tk nv1 nk1 av ak TL TM NL1 (NS1.map (Value.int .i64)) AL (AS.map (Value.int .i64)) (nx+i+1)):=hM.bk.set6 _
   clear hM
   go_wp2
   refine wp_region_noPanic ?_
   refine wp_region_held_drew (S:=fun W=>W.cell? ⟨g,6,none⟩=some (.int .i64 (nx+i+1))) (by kernel_rfl) H6.out (fun zH=>?_)
   refine tka 0 ?_
   refine tka 1 ?_
   refine tka 2 ?_
   refine tka 3 ?_
   refine tka 4 ?_
   refine tka 5 ?_
   refine tka 6 ?_
   refine tka 7 ?_
   refine tka 8 ?_
   refine tka 9 ?_
   refine tka 10 ?_
   refine rd1 11 fun K hK=>?_
   go_simp
   refine hK.out _ _ ((World.cell?_alloc_lt _ _ _ (lt_of_cell zH)).trans zH) (fun zH=>?_)
   clear hK K
   refine rd1 12 fun K hK=>?_
   go_simp
   refine hK.out _ _ ((World.cell?_alloc_lt _ _ _ (lt_of_cell H6.out)).trans H6.out) (fun zH=>?_)
   clear hK K zH
   refine doN ?_
   obtain⟨m,hm⟩:∃m,m = -(nx+i+1):=⟨_,rfl⟩
   have Hm:=hyd hm
   have hwn:IntKind.i64.wrap (-(nx+i+1)) = -(nx+i+1):=wrapI64s _ (by omega) (by omega)
   try rw[hwn]
   rw[<-hm]
   clear hm H6 hwn
   have hR0:=HM.out.row
   have hL0:=HM.out.lst
   rw[Hn.out]at hR0 hL0
   have hC0:=HM.out.chg
   have Hfar:Hid (∀b,F b->ρ1 b=0):=HM.out.far
   have HFl:Hid (∀b,(Value.slice ao i cap).ownBlock=some b->¬F b):=fun b hb hF=>(HF.out b hF).2.2.1 (by rw[Hn.out];exact hb)
   have Hbw:Hid (w.heap.size<=wr.heap.size):=hC0.size
   have Hrho:Hid (∀b,b<w.heap.size->ρ b≠0->ρ1 b=ρ b):=HM.out.rho
   have Hlen:Hid (NL1.length=NL.length+4*i):=HM.out.len
   have Hlst:=hyd hL0
   have HB2:Hid (∀t,BkN ((wr.setCell ⟨g,6,none⟩ (.int .i64 (nx+i+1))).alloc (.cells #[.int .i64 m,.int .i64 m,.slice none 0 0] t)).drew g ρ1 tv tk nv1 nk1 av ak TL TM NL1 (NS1.map (Value.int .i64)) AL (AS.map (Value.int .i64)) (nx+i+1)):=fun t=>HB1.out.chg (T:=fun _=>False) ((Chg.refl _ _).alloc _).drew (fun _ h=>h.elim)
   have HC2:Hid (∀t,Chg (fun b=>g<=b/\¬F b) w ((wr.setCell ⟨g,6,none⟩ (.int .i64 (nx+i+1))).alloc (.cells #[.int .i64 m,.int .i64 m,.slice none 0 0] t)).drew):=fun t=>((hC0.setCell ⟨g,6,none⟩ (.inl ⟨Nat.le_refl _,HFg.out⟩) _).alloc _).drew
   have HR2:Hid (∀t,(((wr.setCell ⟨g,6,none⟩ (.int .i64 (nx+i+1))).alloc (.cells #[.int .i64 m,.int .i64 m,.slice none 0 0] t)).drew).ownsRow (g+1) 43 3 (.slice ao i cap) i (flatA xs)):=fun t=>World.ownsRow.drew (World.ownsRow.alloc (ownsRow_setCell_below hR0 (Nat.lt_succ_self g) _) _)
   have HX2:Hid (∀t,(((wr.setCell ⟨g,6,none⟩ (.int .i64 (nx+i+1))).alloc (.cells #[.int .i64 m,.int .i64 m,.slice none 0 0] t)).drew).cell? ⟨wr.heap.size,0,none⟩=some (.int .i64 m)/\(((wr.setCell ⟨g,6,none⟩ (.int .i64 (nx+i+1))).alloc (.cells #[.int .i64 m,.int .i64 m,.slice none 0 0] t)).drew).cell? ⟨wr.heap.size,1,none⟩=some (.int .i64 m)/\(((wr.setCell ⟨g,6,none⟩ (.int .i64 (nx+i+1))).alloc (.cells #[.int .i64 m,.int .i64 m,.slice none 0 0] t)).drew).cell? ⟨wr.heap.size,2,none⟩=some (.slice none 0 0)):=fun t=>by
    refine⟨?_,?_,?_⟩<;>first|(simp[go_sem];done)|go_simp
   clear hR0 hL0 hC0 HB1 HM hc6 hfz
   go_wp2
   obtain⟨B,hBe⟩:∃B,B=wr.heap.size:=⟨_,rfl⟩
   have HBe:Hid (w.heap.size<=B):=by show _<=_;rw[hBe];exact Hbw.out
   rw[<-hBe]at HX2 ⊢
   clear hBe
   go_loopw [6] (fun s6 W=>∃(k:Nat) (ys:List Value),k<=i/\s6 = .int .i64 k/\W.ownsRow (g+1) 43 3 (.slice ao i cap) i ys/\ys.take (k*3)=rep k [.int .i64 m,.int .i64 m,.slice none 0 0]/\BkN W g ρ1 tv tk nv1 nk1 av ak TL TM NL1 (NS1.map (Value.int .i64)) AL (AS.map (Value.int .i64)) (nx+i+1)/\(W.cell? ⟨B,0,none⟩=some (.int .i64 m)/\W.cell? ⟨B,1,none⟩=some (.int .i64 m)/\W.cell? ⟨B,2,none⟩=some (.slice none 0 0))/\Chg (fun b=>g<=b/\¬F b) w W) (fun s6 _=>i-(intOf s6).toNat)
   case atStart=>exact⟨0,_,Nat.zero_le _,rfl,HR2.out _,rfl,HB2.out _,HX2.out _,HC2.out _⟩
   case round=>
    obtain⟨k,ys,hk,rfl,hrow,hys,hBk,hbx,hch⟩:=hrel
    by_cases hlt2:k<i
    ·have hlt3:(k:Int)<i:=by omega
     obtain⟨gl,rfl⟩:=rowA_some hrow (by omega)
     have hyl:ys.length=i*3:=hrow.1
     have ex:∀d,d<3->∃y,ys[k*3+d]? = some y:=fun d hd=>⟨_,List.getElem?_eq_getElem (by omega)⟩
     obtain⟨y0,e0⟩:=ex 0 (by omega)
     obtain⟨y1,e1⟩:=ex 1 (by omega)
     obtain⟨y2,e2⟩:=ex 2 (by omega)
     have d0:=(World.ownsRow.cellAt hrow (k*3) (by omega)).trans e0
     have d1:=(World.ownsRow.cellAt hrow (k*3+1) (by omega)).trans e1
     have d2:=(World.ownsRow.cellAt hrow (k*3+2) (by omega)).trans e2
     have fz:∀j,World.frozen? _ ⟨gl,j,none⟩=false:=fun j=>World.ownsRow.frozenAt hrow j
     obtain⟨b0,b1,b2⟩:=hbx
     have hgl:=Hlst.out gl rfl
     have hne:gl≠B:=by have:=HBe.out;omega
     have Hrow:=hyd hrow
     have Hys:=hyd hys
     have HBk:=hyd hBk
     have Hch:=hyd hch
     have Hbx:Hid (_/\_/\_):=And.intro b0 (And.intro b1 b2)
     have Hyl:=hyd hyl
     clear hrow hys hBk hch ex e0 e1 e2 hyl
     go_wp2
     go_roundw
     case rel=>
      refine⟨k+1,((ys.set (k*3) (.int .i64 m)).set (k*3+1) (.int .i64 m)).set (k*3+2) (.slice none 0 0),by omega,by go_num,?_,?_,?_,?_,?_⟩
      ·exact(World.ownsRow.stored (World.ownsRow.stored (World.ownsRow.stored Hrow.out (k*3) _).1 (k*3+1) _).1 (k*3+2) _).1
      ·rw[set_three ys k _ _ _ (by rw[Hyl.out];omega),Hys.out,rep_add];rfl
      ·exact HBk.out.chg (T:=fun b=>b=gl) ((((Chg.refl (fun b=>b=gl) _).setCell ⟨gl,k*3,none⟩ (.inl rfl) _).setCell ⟨gl,k*3+1,none⟩ (.inl rfl) _).setCell ⟨gl,k*3+2,none⟩ (.inl rfl) _) (fun b hb=>by rw[hb];exact hgl.1)
      ·have far:∀(W:World) (o o':Nat) (u:Value),(W.setCell ⟨gl,o,none⟩ u).cell? ⟨B,o',none⟩=W.cell? ⟨B,o',none⟩:=fun W o o' u=>World.cell?_setCell_other _ ⟨gl,o,none⟩ ⟨B,o',none⟩ _ (fun e=>hne (by injection e))
       simp only[far]
       exact Hbx.out
      ·exact((Hch.out.setCell ⟨gl,k*3,none⟩ (.inl ⟨by have:=(World.ownsRow.lt Hrow.out gl rfl).1;show g<=gl;omega,HFl.out gl rfl⟩) _).setCell ⟨gl,k*3+1,none⟩ (.inl ⟨by have:=(World.ownsRow.lt Hrow.out gl rfl).1;show g<=gl;omega,HFl.out gl rfl⟩) _).setCell ⟨gl,k*3+2,none⟩ (.inl ⟨by have:=(World.ownsRow.lt Hrow.out gl rfl).1;show g<=gl;omega,HFl.out gl rfl⟩) _
     case measure=>simp[intOf];omega
    ·have hki:k=i:=by omega
     subst hki
     have hlt3:¬(k:Int)<k:=by omega
     obtain⟨an,cn,rfl⟩:=row_shape hBk.ap.rl
     obtain⟨am,cm,rfl⟩:=row_shape hBk.ap.rk
     have hyl:ys.length=k*3:=hrow.1
     have hyr:ys=rep k [.int .i64 m,.int .i64 m,.slice none 0 0]:=by rw[<-hys,List.take_of_length_le (by omega)]
     rw[hyr]at hrow
     obtain⟨b0,b1,b2⟩:=hbx
     obtain⟨ia,hia,hz0,hz1,hz2⟩:=info_parts asks_info
     have Hia:Hid (Tryz.prog.info? 43=some ia/\ia.zero=some (.agg #[.int .i64 0,.int .i64 0,.slice none 0 0])/\ia.size=3/\ia.bytes=40):=⟨hia,hz0,hz1,hz2⟩
     clear hia hz0 hz1 hz2
     obtain⟨W0,hW0⟩:∃W0:World,W0.heap.size=W0.heap.size/\True:=⟨w,rfl,trivial⟩
     clear W0 hW0
     have HM0:=hyd hrow
     have HBk:=hyd hBk
     have Hch:=hyd hch
     have hgw2:=hBk.lt
     clear hrow hBk hch hys hyr hyl
     have Hbx:Hid (_/\_/\_):=And.intro b0 (And.intro b1 b2)
     have HoB:Hid (∀b,(Value.slice ao k cap).ownBlock=some b->¬b=B):=fun b hb e=>by have:=(Hlst.out b hb).2;have:=HBe.out;omega
     have HV:Hid (∀b,(Value.slice ao k cap).ownBlock=some b->ρ1 b=0):=fun b hb=>(Hlst.out b hb).1
     go_wp2_with (at_builtin;(
      refine wpList_append_asks rfl (.tmp 51) (.tmp 53) rfl (g+1) ia Hia.out (.slice ao k cap) k 1 m rfl (World.ownsRow.alloc HM0.out _) _ 1 rfl (cells_new _ [.int .i64 m,.int .i64 m,.slice none 0 0] _) (by omega) (by simp;omega) ?_
      intro v1 w1 h1 k1 g1 d1
      refine stop_here ?_))
     obtain⟨a1,p1,rfl⟩:=h1.shape
     have M11:=hyd h1
     have M10:Hid (MkN w1 (g+1) 43 (.slice ao k cap) k [.int .i64 m,.int .i64 m,.slice none 0 0]):=k1 _ _ (by omega) (World.ownsRow.alloc HM0.out _)
     have X1:Hid (Chg (fun b=>(Value.slice ao k cap).ownBlock=some b) wr w1):=((Chg.refl _ _).alloc _).trans (Chg.ofGrown g1) (fun _ _ e=>e)
     have D1:Hid ((Value.slice a1 (k+1) p1).ownBlock=(Value.slice ao k cap).ownBlock\/∀b,(Value.slice a1 (k+1) p1).ownBlock=some b->wr.heap.size<=b):=d1.imp id (fun e b hb=>by rw[e]at hb;simp at hb;omega)
     have s1:g+1<=w1.heap.size:=Nat.le_trans (Nat.succ_le_of_lt hgw2) X1.out.size
     have bx1:Hid (w1.cell? ⟨B,0,none⟩=some (.int .i64 m)/\w1.cell? ⟨B,1,none⟩=some (.int .i64 m)/\w1.cell? ⟨B,2,none⟩=some (.slice none 0 0)):=⟨X1.out.cell Hbx.out.1 (fun e=>HoB.out _ e rfl),X1.out.cell Hbx.out.2.1 (fun e=>HoB.out _ e rfl),X1.out.cell Hbx.out.2.2 (fun e=>HoB.out _ e rfl)⟩
     obtain⟨q10,q11,q12⟩:=bx1.out
     clear h1 k1 g1 d1
     refine hid_in ?_
     go_wp2_with (at_builtin;(
      refine wpList_append_asks rfl (.tmp 55) (.tmp 58) rfl (g+1) ia Hia.out (.slice ao k cap) k 2 m rfl (World.ownsRow.alloc M10.out _) _ 2 rfl (cells_new _ [.int .i64 m,.int .i64 m,.slice none 0 0,.int .i64 m,.int .i64 m,.slice none 0 0] _) (by omega) (by simp;omega) ?_
      intro v2 w2 h2 k2 g2 d2
      refine stop_here ?_))
     obtain⟨a2,p2,rfl⟩:=h2.shape
     have M22:=hyd h2
     have M20:Hid (MkN w2 (g+1) 43 (.slice ao k cap) k [.int .i64 m,.int .i64 m,.slice none 0 0]):=k2 _ _ (by omega) (World.ownsRow.alloc M10.out _)
     have M21:Hid (MkN w2 (g+1) 43 (.slice a1 (k+1) p1) (k+1) [.int .i64 m,.int .i64 m,.slice none 0 0]):=k2 _ _ (by omega) (World.ownsRow.alloc M11.out _)
     have X2:Hid (Chg (fun b=>(Value.slice ao k cap).ownBlock=some b) wr w2):=(X1.out.alloc _).trans (Chg.ofGrown g2) (fun _ _ e=>e)
     have D2:Hid ((Value.slice a2 (k+2) p2).ownBlock=(Value.slice ao k cap).ownBlock\/∀b,(Value.slice a2 (k+2) p2).ownBlock=some b->wr.heap.size<=b):=d2.imp id (fun e b hb=>by rw[e]at hb;have:=X1.out.size;simp at hb;omega)
     have s2:g+1<=w2.heap.size:=Nat.le_trans (Nat.succ_le_of_lt hgw2) X2.out.size
     have bx2:Hid (w2.cell? ⟨B,0,none⟩=some (.int .i64 m)/\w2.cell? ⟨B,1,none⟩=some (.int .i64 m)/\w2.cell? ⟨B,2,none⟩=some (.slice none 0 0)):=⟨X2.out.cell Hbx.out.1 (fun e=>HoB.out _ e rfl),X2.out.cell Hbx.out.2.1 (fun e=>HoB.out _ e rfl),X2.out.cell Hbx.out.2.2 (fun e=>HoB.out _ e rfl)⟩
     obtain⟨q20,q21,q22⟩:=bx2.out
     clear h2 k2 g2 d2
     refine hid_in ?_
     go_wp2_with (at_builtin;(
      refine wpList_append_asks rfl (.tmp 60) (.tmp 64) rfl (g+1) ia Hia.out (.slice ao k cap) k 3 m rfl (World.ownsRow.alloc M20.out _) _ 3 rfl (cells_new _ [.int .i64 m,.int .i64 m,.slice none 0 0,.int .i64 m,.int .i64 m,.slice none 0 0,.int .i64 m,.int .i64 m,.slice none 0 0] _) (by omega) (by simp;omega) ?_
      intro v3 w3 h3 k3 g3 d3
      refine stop_here ?_))
     obtain⟨a3,p3,rfl⟩:=h3.shape
     have M33:=hyd h3
     have M30:Hid (MkN w3 (g+1) 43 (.slice ao k cap) k [.int .i64 m,.int .i64 m,.slice none 0 0]):=k3 _ _ (by omega) (World.ownsRow.alloc M20.out _)
     have M31:Hid (MkN w3 (g+1) 43 (.slice a1 (k+1) p1) (k+1) [.int .i64 m,.int .i64 m,.slice none 0 0]):=k3 _ _ (by omega) (World.ownsRow.alloc M21.out _)
     have M32:Hid (MkN w3 (g+1) 43 (.slice a2 (k+2) p2) (k+2) [.int .i64 m,.int .i64 m,.slice none 0 0]):=k3 _ _ (by omega) (World.ownsRow.alloc M22.out _)
     have X3:Hid (Chg (fun b=>(Value.slice ao k cap).ownBlock=some b) wr w3):=(X2.out.alloc _).trans (Chg.ofGrown g3) (fun _ _ e=>e)
     have D3:Hid ((Value.slice a3 (k+3) p3).ownBlock=(Value.slice ao k cap).ownBlock\/∀b,(Value.slice a3 (k+3) p3).ownBlock=some b->wr.heap.size<=b):=d3.imp id (fun e b hb=>by rw[e]at hb;have:=X2.out.size;simp at hb;omega)
     have s3:g+1<=w3.heap.size:=Nat.le_trans (Nat.succ_le_of_lt hgw2) X3.out.size
     have bx3:Hid (w3.cell? ⟨B,0,none⟩=some (.int .i64 m)/\w3.cell? ⟨B,1,none⟩=some (.int .i64 m)/\w3.cell? ⟨B,2,none⟩=some (.slice none 0 0)):=⟨X3.out.cell Hbx.out.1 (fun e=>HoB.out _ e rfl),X3.out.cell Hbx.out.2.1 (fun e=>HoB.out _ e rfl),X3.out.cell Hbx.out.2.2 (fun e=>HoB.out _ e rfl)⟩
     obtain⟨q30,q31,q32⟩:=bx3.out
     clear h3 k3 g3 d3
     have BK3:Hid (BkN w3 g ρ1 tv tk nv1 nk1 (.slice an AL.length cn) (.slice am (AS.map (Value.int .i64)).length cm) TL TM NL1 (NS1.map (Value.int .i64)) AL (AS.map (Value.int .i64)) (nx+k+1)):=HBk.out.chg X3.out HV.out
     have c4:=BK3.out.c4
     have hinfo:(Tryz.prog.info? 77).map (fun i=>(i.zero,i.size,i.bytes))=some (some (.slice none 0 0),1,24):=by kernel_rfl
     obtain⟨ib,hj,hy0,hy1,hy2⟩:=info_parts hinfo
     have Hj:Hid (Tryz.prog.info? 77=some ib/\ib.zero=some (.slice none 0 0)/\ib.size=1/\ib.bytes=24):=⟨hj,hy0,hy1,hy2⟩
     clear hj hy0 hy1 hy2 hinfo
     refine hid_in ?_
     go_wp2_with (at_builtin;(
      refine wpList_append_own_at _ rfl (.tmp 70) (.tmp 75) 35 rfl (g+1) 77 ib (.slice none 0 0) 1 24 Tryz.underlying35 Hj.out.1 Hj.out.2.1 Hj.out.2.2.1 Hj.out.2.2.2 rfl (by decide) (.slice an AL.length cn) AL.length AL rfl (World.ownsRow.alloc BK3.out.ap.rl _) _ 4 4 [.slice ao k cap,.slice a1 (k+1) p1,.slice a2 (k+2) p2,.slice a3 (k+3) p3] rfl rfl (cells_new _ [.slice ao k cap,.slice a1 (k+1) p1,.slice a2 (k+2) p2,.slice a3 (k+3) p3] _) ?_ ?_ ?_ ?_ ?_
      ·intro u hu
       simp only[List.mem_cons,List.not_mem_nil,or_false]at hu
       rcases hu with rfl|rfl|rfl|rfl<;>rfl
      ·unfold maxLen;omega
      ·omega
      ·simp;omega
      intro v4 w4 h4 g4 _ d4
      refine stop_here ?_))
     obtain⟨a4,p4,rfl⟩:=row_shape h4
     have H4:=hyd h4
     have X4:Hid (Chg (fun b=>(Value.slice an AL.length cn).ownBlock=some b) w3 w4):=((Chg.refl _ _).alloc _).trans (Chg.ofGrown g4) (fun _ _ e=>e)
     have D4:Hid ((Value.slice a4 (AL.length+4) p4).ownBlock=(Value.slice an AL.length cn).ownBlock\/∀b,(Value.slice a4 (AL.length+4) p4).ownBlock=some b->w3.heap.size<=b):=d4.imp id (fun e b hb=>by rw[e]at hb;simp at hb;omega)
     have hng:¬(Value.slice an AL.length cn).ownBlock=some g:=fun e=>by have:=(BK3.out.ap.rl.lt g e).1;omega
     have e4:=X4.out.cell BK3.out.c4 hng
     have e5:=X4.out.cell BK3.out.c5 hng
     have e6:=X4.out.cell BK3.out.c6 hng
     have f4:∀o,w4.frozen? ⟨g,o,none⟩=false:=fun o=>(X4.out.frozen (p:=⟨g,o,none⟩) (show g<w3.heap.size by omega) hng).trans (BK3.out.fz o)
     have s4:g+1<=w4.heap.size:=Nat.le_trans s3 X4.out.size
     have RM:Hid ((w4.setCell ⟨g,4,none⟩ (.slice a4 (AL.length+4) p4)).ownsRow (g+1) 3 1 (.slice am (AS.map (Value.int .i64)).length cm) (AS.map (Value.int .i64)).length (AS.map (Value.int .i64))):=ownsRow_setCell_below (X4.out.row BK3.out.ap.rk (fun x hx e=>by have a:=BK3.out.ap.fm x hx;have b:=BK3.out.ap.fl x e;omega)) (Nat.lt_succ_self g) _
     have H56:Hid ((w4.setCell ⟨g,4,none⟩ (.slice a4 (AL.length+4) p4)).cell? ⟨g,5,none⟩=some (.slice am (AS.map (Value.int .i64)).length cm)/\(w4.setCell ⟨g,4,none⟩ (.slice a4 (AL.length+4) p4)).drew.cell? ⟨g,6,none⟩=some (.int .i64 (nx+k+1))):=⟨(World.cell?_setCell_other _ ⟨g,4,none⟩ ⟨g,5,none⟩ _ (by simp)).trans e5,(World.cell?_setCell_other _ ⟨g,4,none⟩ ⟨g,6,none⟩ _ (by simp)).trans e6⟩
     have hAS:(AS.map (Value.int .i64)).length<=900000000:=by rw[<-BK3.out.ap.len];exact hAL
     clear h4 g4 d4 hng c4
     refine hid_in ?_
     have hnm:-(nx+(k:Int)+1)=m:=Hm.out.symm
     have hwm:IntKind.i64.wrap m=m:=wrapI64s _ (by have:=Hm.out;omega) (by have:=Hm.out;omega)
     have hinfo:(Tryz.prog.info? 3).map (fun i=>(i.zero,i.size,i.bytes))=some (some (.int .i64 0),1,8):=by kernel_rfl
     obtain⟨ic,hj,hy0,hy1,hy2⟩:=info_parts hinfo
     have Hic:Hid (Tryz.prog.info? 3=some ic/\ic.zero=some (.int .i64 0)/\ic.size=1/\ic.bytes=8):=⟨hj,hy0,hy1,hy2⟩
     clear hj hy0 hy1 hy2 hinfo
     have hob:(Value.slice am (AS.map (Value.int .i64)).length cm)=Value.slice am AS.length cm:=by rw[List.length_map]
     have Hob:=hyd hob
     clear hob
     have ha5:∀o,(World.alloc (w4.setCell ⟨g,4,none⟩ (.slice a4 (AL.length+4) p4)) o).cell? ⟨g,5,none⟩=_:=fun o=>(World.cell?_alloc_lt _ _ _ (lt_of_cell H56.out.1)).trans H56.out.1
     have HB9:Hid (∀b,wr.heap.size<=b->ρ1 b=0):=HBk.out.hi
     have HG9:=hyd hgw2
     have HW9:Hid (wr.heap.size<=wr.heap.size):=Nat.le_refl _
     go_wp2
     refine wp_region_noPanic ?_
     refine wp_region_held_drew (S:=fun W=>W.cell? ⟨g,6,none⟩=some (.int .i64 (nx+k+1))) (by kernel_rfl) H56.out.2 (fun zH=>?_)
     refine tka 0 ?_
     refine tka 1 ?_
     refine tka 2 ?_
     refine tka 3 ?_
     refine tka 5 ?_
     refine tka 6 ?_
     refine tka 7 ?_
     refine tka 8 ?_
     refine tka 9 ?_
     refine tka 10 ?_
     refine tka 11 ?_
     refine tka 12 ?_
     refine tka 13 ?_
     refine tka 14 ?_
     refine tka 15 ?_
     refine tka 16 ?_
     refine tka 17 ?_
     refine tka 18 ?_
     refine tka 19 ?_
     refine tka 20 ?_
     refine tka 21 ?_
     refine tka 22 ?_
     refine tka 23 ?_
     refine tka 24 ?_
     refine wpAnyH_ready (rs:=[4,25]) (by kernel_rfl) (by simp) ?_
     refine AllReadyH.cons rfl (fun K hK=>?_) (AllReadyH.cons rfl (fun K hK=>?_) AllReadyH.nil)
     focus
      go_simp
      refine hK.out _ _ zH (fun zH=>?_)
      clear hK K
      refine rd1 25 fun K hK=>?_
      go_simp
      refine hK.out _ _ ((World.cell?_alloc_lt _ _ _ (lt_of_cell zH)).trans zH) (fun zH=>?_)
      clear hK K
      refine rd1 26 fun K hK=>?_
      rw[if_pos (by rfl)]
      refine wp_append_at (.tmp 83) (.tmp 104) 34 rfl (g+1) 3 ic (.int .i64 0) 1 8 Tryz.underlying34 Hic.out.1 Hic.out.2.1 Hic.out.2.2.1 Hic.out.2.2.2 rfl (by decide) (.slice am AS.length cm) (AS.map (Value.int .i64)).length (AS.map (Value.int .i64)) (by rfl) (by have h:=World.ownsRow.drew (World.ownsRow.alloc RM.out (.cells #[.int .i64 m,.int .i64 m,.int .i64 m,.int .i64 m] 3));rw[<-Hob.out];exact h) _ 4 4 [.int .i64 m,.int .i64 m,.int .i64 m,.int .i64 m] (by rfl) rfl (cells_newAt _ [.int .i64 m,.int .i64 m,.int .i64 m,.int .i64 m] _ _ (by simp)) ?_ ?_ ?_ ?_ ?_
      ·intro u hu;simp at hu;subst hu;rfl
      ·unfold maxLen;omega
      ·omega
      ·simp;omega
      intro v5 w5 h5 g5 d5
      rw[<-Hob.out]at g5 d5
      obtain⟨a5,p5,rfl⟩:=row_shape h5
      have H5:=hyd h5
      have X5:Hid (Chg (fun b=>(Value.slice am (AS.map (Value.int .i64)).length cm).ownBlock=some b) (w4.setCell ⟨g,4,none⟩ (.slice a4 (AL.length+4) p4)) w5):=(((Chg.refl _ _).alloc _).drew).trans (Chg.ofGrown g5) (fun _ _ e=>e)
      have D5:Hid ((Value.slice a5 ((AS.map (Value.int .i64)).length+4) p5).ownBlock=(Value.slice am (AS.map (Value.int .i64)).length cm).ownBlock\/∀b,(Value.slice a5 ((AS.map (Value.int .i64)).length+4) p5).ownBlock=some b->w4.heap.size<=b):=d5.imp id (fun e b hb=>by rw[e]at hb;simp at hb;omega)
      have hmg:¬(Value.slice am (AS.map (Value.int .i64)).length cm).ownBlock=some g:=fun e=>by have:=(BK3.out.ap.rk.lt g e).1;omega
      have r5:=X5.out.cell H56.out.1 hmg
      have r6:=X5.out.cell H56.out.2 hmg
      have f5:∀o,w5.frozen? ⟨g,o,none⟩=false:=fun o=>(X5.out.frozen (p:=⟨g,o,none⟩) (by simp;omega) hmg).trans ((World.frozen?_setCell _ _ _ _).trans (f4 o))
      refine hK.out _ _ r6 (fun zH=>?_)
      clear hK K h5 g5 d5
      refine tka 27 ?_
      refine tka 28 ?_
     rotate_left
     focus
      go_simp
      refine hK.out _ _ ((World.cell?_alloc_lt _ _ _ (lt_of_cell zH)).trans zH) (fun zH=>?_)
      clear hK K
      refine rd1 4 fun K hK=>?_
      go_simp
      refine hK.out _ _ zH (fun zH=>?_)
      clear hK K
      refine rd1 26 fun K hK=>?_
      rw[if_pos (by rfl)]
      refine wp_append_at (.tmp 83) (.tmp 104) 34 rfl (g+1) 3 ic (.int .i64 0) 1 8 Tryz.underlying34 Hic.out.1 Hic.out.2.1 Hic.out.2.2.1 Hic.out.2.2.2 rfl (by decide) (.slice am AS.length cm) (AS.map (Value.int .i64)).length (AS.map (Value.int .i64)) (by rfl) (by have h:=World.ownsRow.drew (World.ownsRow.alloc RM.out (.cells #[.int .i64 m,.int .i64 m,.int .i64 m,.int .i64 m] 3));rw[<-Hob.out];exact h) _ 4 4 [.int .i64 m,.int .i64 m,.int .i64 m,.int .i64 m] (by rfl) rfl (cells_newAt _ [.int .i64 m,.int .i64 m,.int .i64 m,.int .i64 m] _ _ (by simp)) ?_ ?_ ?_ ?_ ?_
      ·intro u hu;simp at hu;subst hu;rfl
      ·unfold maxLen;omega
      ·omega
      ·simp;omega
      intro v5 w5 h5 g5 d5
      rw[<-Hob.out]at g5 d5
      obtain⟨a5,p5,rfl⟩:=row_shape h5
      have H5:=hyd h5
      have X5:Hid (Chg (fun b=>(Value.slice am (AS.map (Value.int .i64)).length cm).ownBlock=some b) (w4.setCell ⟨g,4,none⟩ (.slice a4 (AL.length+4) p4)) w5):=(((Chg.refl _ _).alloc _).drew).trans (Chg.ofGrown g5) (fun _ _ e=>e)
      have D5:Hid ((Value.slice a5 ((AS.map (Value.int .i64)).length+4) p5).ownBlock=(Value.slice am (AS.map (Value.int .i64)).length cm).ownBlock\/∀b,(Value.slice a5 ((AS.map (Value.int .i64)).length+4) p5).ownBlock=some b->w4.heap.size<=b):=d5.imp id (fun e b hb=>by rw[e]at hb;simp at hb;omega)
      have hmg:¬(Value.slice am (AS.map (Value.int .i64)).length cm).ownBlock=some g:=fun e=>by have:=(BK3.out.ap.rk.lt g e).1;omega
      have r5:=X5.out.cell H56.out.1 hmg
      have r6:=X5.out.cell H56.out.2 hmg
      have f5:∀o,w5.frozen? ⟨g,o,none⟩=false:=fun o=>(X5.out.frozen (p:=⟨g,o,none⟩) (by simp;omega) hmg).trans ((World.frozen?_setCell _ _ _ _).trans (f4 o))
      refine hK.out _ _ r6 (fun zH=>?_)
      clear hK K h5 g5 d5
      refine tka 27 ?_
      refine tka 28 ?_
     all_goals
      refine rd1 29 fun K hK=>?_
      go_simp
      refine hK.out _ _ ((World.cell?_setCell_other _ ⟨g,5,none⟩ ⟨g,6,none⟩ _ (by simp)).trans r6) (fun zH=>?_)
      clear hK K zH
      refine doN ?_
      go_wp2
      obtain⟨z1,z2,z3⟩:=takenA HBk.out BK3.out HB9.out HG9.out HW9.out X3.out.size HV.out M30.out M31.out M32.out M33.out (by omega) D1.out D2.out D3.out H4.out X4.out D4.out H5.out X5.out D5.out
      simp only[List.length_map]at z1 z2
      refine bodyPost_end (v:=.tuple #[]) (by simp[results,Tryz.results60,go_sem]) rfl ⟨rfl,roleOf wr ρ1 6 7 (.slice a4 (AL.length+4) p4) (.slice a5 (AS.length+4) p5) (.slice ao k cap) (.slice a1 (k+1) p1) (.slice a2 (k+2) p2) (.slice a3 (k+3) p3),nv1,nk1,.slice a4 (AL.length+4) p4,.slice a5 (AS.length+4) p5,NL1,NS1,AL++[.slice ao k cap,.slice a1 (k+1) p1,.slice a2 (k+2) p2,.slice a3 (k+3) p3],AS++[m,m,m,m],?_,?_,?_,?_,?_,?_⟩
      ·rw[List.map_append]
       exact z1
      ·exact Hlen.out
      ·simp
      ·intro b hb hne
       have e:=Hrho.out b hb hne
       rw[z2 b (by have:=Hch.out.size;omega) (by rw[e];exact hne),e]
      ·refine(((Hch.out.trans X3.out ?_).trans X4.out ?_).setCell ⟨g,4,none⟩ (.inl ⟨Nat.le_refl _,HFg.out⟩) _ |>.trans X5.out ?_).setCell ⟨g,5,none⟩ (.inl ⟨Nat.le_refl _,HFg.out⟩) _
       ·exact fun b _ e=>⟨by have:=(World.ownsRow.lt M30.out b e).1;omega,HFl.out b e⟩
       ·exact fun b _ e=>⟨by have:=(BK3.out.ap.rl.lt b e).1;omega,fun hF=>by have:=Hfar.out b hF;rw[BK3.out.ap.fl b e]at this;cases this⟩
       ·exact fun b _ e=>⟨by have:=(BK3.out.ap.rk.lt b e).1;omega,fun hF=>by have:=Hfar.out b hF;rw[BK3.out.ap.fm b e]at this;cases this⟩
      ·intro b hF
       simp only[List.length_map]at z3
       exact z3 b (by have:=Hch.out.size;have:=(HF.out b hF).2.1;omega) (fun e=>HFl.out b e hF) (Hfar.out b hF)
end Go.Proofs.YtdjhhnolcafkiaaGreat
namespace Go.Proofs.YtdjhhnolcafkiaaGreat
open Go.RowKit Pk
theorem removeK_any (base sb:Nat) (v:Value) (l:List Kp) (num:Nat) (w:World) (hv:w.cell? ⟨sb,2,none⟩=some v) (hf:∀o,w.frozen? ⟨sb,o,none⟩=false) (hne:v.ownBlock≠some sb) (hown:w.ownsRow base 194 13 v l.length (l.flatMap cellsK)) (h1:OneK l) (hn:l.length<=99000) :
  Calls Tryz.prog 129 #[.pointer (some ⟨sb,0,none⟩),.int .u16 num] w fun e w'=>e = .returned (.bool (decide (0<=posF num (l.map Kp.n))))/\∃v',Upd w w' sb v v'/\w'.ownsRow base 194 13 v' (rmF Kp.n num l).length ((rmF Kp.n num l).flatMap cellsK):=by
 obtain⟨ao,cap,rfl⟩:=rowA_shape hown
 have Hown:=hyd hown
 have hs:sb<w.heap.size:=lt_of_cell hv
 have Hv:=hyd hv
 have Hf:=hyd hf
 clear hown hf hv
 have H1:=hyd h1
 clear h1
 go_enter Tryz.func129,Tryz.ntmps129
 go_wp2_with fail
 refine(findK_any base sb _ l num _ Hv.out Hown.out (by omega)).mono ?_
 rintro e w1 ⟨rfl,hb1⟩
 have Hr1:Hid (w1.ownsRow base 194 13 (.slice ao l.length cap) l.length (l.flatMap cellsK)):=rowA_chg (Chg.ofBelow (T:=fun _=>False) hb1) Hown.out (fun _ _ e=>e)
 have y2:w1.cell? ⟨sb,2,none⟩=some (.slice ao l.length cap):=(hb1.cell (p:=⟨sb,2,none⟩) hs).trans Hv.out
 have yf:∀o,w1.frozen? ⟨sb,o,none⟩=false:=fun o=>(hb1.frozen (p:=⟨sb,o,none⟩) hs).trans (Hf.out o)
 have Hb1:=hyd hb1
 have hs1:sb<w1.heap.size:=Nat.lt_of_lt_of_le hs hb1.size
 clear hb1 Hown
 rcases posF_cases num (l.map Kp.n)with⟨hp,-⟩|⟨i,hi,hp,-⟩
 ·have HR:Hid (rmF Kp.n num l=l):=by show _=_;unfold rmF;rw[if_pos (by rw[hp];decide)]
  have Hp:Hid (false=decide (0<=posF num (l.map Kp.n))):=by show _=_;rw[hp];decide
  rw[hp]
  clear hp
  go_wp2
  go_ret
  refine⟨ret_bool Hp.out,_,Upd.before Hb1.out hs (Upd.refl y2),?_⟩
  rw[HR.out]
  exact Hr1.out
 ·have hil:i<l.length:=by simpa using hi
  have HR:Hid (rmF Kp.n num l=l.take i++l.drop (i+1)):=by show _=_;unfold rmF;rw[if_neg (by rw[hp];omega),hp];rfl
  have Hp:Hid (decide (0<=posF num (l.map Kp.n))=true):=by show _=_;rw[hp];exact decide_eq_true (by omega)
  rw[hp]
  clear hp hi
  go_wp2_with fail
  refine(deleteK_any base _ l.length i (i+1) (l.flatMap cellsK) _ Hr1.out (cellsK_one l H1.out) (by omega) (by omega) (by omega)).mono ?_
  rintro e w2 ⟨v',rfl,hown2,hg2,ho2⟩
  obtain⟨a2,c2,rfl⟩:=rowA_shape hown2
  have hlen:l.length-(i+1-i)=(rmF Kp.n num l).length:=by rw[HR.out,List.length_append,List.length_take,List.length_drop];omega
  rw[hlen,flat_take cellsK_len,flat_drop cellsK_len,<-List.flatMap_append,<-HR.out]at hown2
  rw[hlen]
  have hc2:Chg (fun x=>(Value.slice ao l.length cap).ownBlock=some x) w1 w2:=Chg.ofGrown hg2
  have z2:w2.cell? ⟨sb,2,none⟩=some (.slice ao l.length cap):=hc2.cell y2 hne
  have zf:∀o,w2.frozen? ⟨sb,o,none⟩=false:=fun o=>(hc2.frozen (p:=⟨sb,o,none⟩) hs1 hne).trans (yf o)
  generalize hrn:(rmF Kp.n num l).length=rn at *
  have Hrn:=hyd hrn
  clear hrn
  have HU:Hid (Upd w (w2.setCell ⟨sb,2,none⟩ (.slice a2 rn c2)) sb (.slice ao l.length cap) (.slice a2 rn c2)):=Upd.before Hb1.out hs (Upd.stored hs1 y2 hne hg2 (fun x hx=>.inl (by rw[hlen]at ho2;exact ho2▸hx)))
  have HRR:Hid (World.ownsRow (w2.setCell ⟨sb,2,none⟩ (.slice a2 rn c2)) base 194 13 (.slice a2 rn c2) rn ((rmF Kp.n num l).flatMap cellsK)):=rowA_chg (T:=fun x=>x=sb) ((Chg.refl (fun x=>x=sb) _).setCell ⟨sb,2,none⟩ (.inl rfl) _) hown2 (fun x hx e=>hne (by subst e;rw[hlen]at ho2;exact ho2▸hx))
  clear hown2 hg2 ho2 hc2 hlen
  go_wp2
  go_ret
  rw[Hrn.out]
  exact⟨ret_bool Hp.out.symm,_,HU.out,HRR.out⟩
theorem removeFirstK_any (base sb:Nat) (v:Value) (l:List Kp) (c:Nat) (w:World) (hv:w.cell? ⟨sb,2,none⟩=some v) (hf:∀o,w.frozen? ⟨sb,o,none⟩=false) (hne:v.ownBlock≠some sb) (hown:w.ownsRow base 194 13 v l.length (l.flatMap cellsK)) (h1:OneK l) (hn:l.length<=99000) (hcl:c<=l.length) :
  Calls Tryz.prog 115 #[.pointer (some ⟨sb,0,none⟩),.int .i64 c] w fun e w'=>e = .returned (.tuple #[])/\∃v',Upd w w' sb v v'/\w'.ownsRow base 194 13 v' (l.drop c).length ((l.drop c).flatMap cellsK):=by
 obtain⟨ao,cap,rfl⟩:=rowA_shape hown
 have Hown:=hyd hown
 have hs:sb<w.heap.size:=lt_of_cell hv
 clear hown
 have H1:=hyd h1
 clear h1
 go_enter Tryz.func115,Tryz.ntmps115
 go_wp2_with fail
 refine(deleteK_any base _ l.length 0 c (l.flatMap cellsK) _ Hown.out (cellsK_one l H1.out) (by omega) hcl (by omega)).mono ?_
 rintro e w2 ⟨v',rfl,hown2,hg2,ho2⟩
 obtain⟨a2,c2,rfl⟩:=rowA_shape hown2
 have hlen:l.length-(c-0)=(l.drop c).length:=by rw[List.length_drop];omega
 rw[hlen,Nat.zero_mul,List.take_zero,List.nil_append,flat_drop cellsK_len]at hown2
 rw[hlen]
 have hc2:Chg (fun x=>(Value.slice ao l.length cap).ownBlock=some x) w w2:=Chg.ofGrown hg2
 have z2:w2.cell? ⟨sb,2,none⟩=some (.slice ao l.length cap):=hc2.cell hv hne
 have zf:∀o,w2.frozen? ⟨sb,o,none⟩=false:=fun o=>(hc2.frozen (p:=⟨sb,o,none⟩) hs hne).trans (hf o)
 generalize hrn:(l.drop c).length=rn at *
 have Hrn:=hyd hrn
 clear hrn
 have HU:Hid (Upd w (w2.setCell ⟨sb,2,none⟩ (.slice a2 rn c2)) sb (.slice ao l.length cap) (.slice a2 rn c2)):=Upd.stored hs hv hne hg2 (fun x hx=>.inl (by rw[hlen]at ho2;exact ho2▸hx))
 have HRR:Hid (World.ownsRow (w2.setCell ⟨sb,2,none⟩ (.slice a2 rn c2)) base 194 13 (.slice a2 rn c2) rn ((l.drop c).flatMap cellsK)):=rowA_chg (T:=fun x=>x=sb) ((Chg.refl (fun x=>x=sb) _).setCell ⟨sb,2,none⟩ (.inl rfl) _) hown2 (fun x hx e=>hne (by subst e;rw[hlen]at ho2;exact ho2▸hx))
 clear hown2 hg2 ho2 hc2 hlen hf hv
 go_wp2
 go_end0
 rw[Hrn.out]
 exact⟨rfl,_,HU.out,HRR.out⟩
theorem addK_any (base sb:Nat) (v:Value) (l:List Kp) (num:Nat) (x:PP) (cv:Value) (re:Int) (w:World) (hv:w.cell? ⟨sb,2,none⟩=some v) (hf:∀o,w.frozen? ⟨sb,o,none⟩=false) (hne:v.ownBlock≠some sb) (hown:w.ownsRow base 194 13 v l.length (l.flatMap cellsK)) (h1:OneK l) (hcv:cv.oneCell'=true) (hn:l.length<=98000) (hb:base<=w.heap.size) (hsb:sb<base) :
  Calls Tryz.prog 114 #[.pointer (some ⟨sb,0,none⟩),.int .u16 num,.agg #[.bool x.mrk,.int .i64 x.ty,.int .i64 x.nu,.int .i64 x.ti,.int .i64 x.so,cv,.bool x.ex,.int .i64 x.pr,.string x.en,.string x.py,.int .i64 x.pa,.int .i64 re]] w fun e w'=>e = .returned (.tuple #[])/\∃v',Upd w w' sb v v'/\w'.ownsRow base 194 13 v' (rmF Kp.n num l++([⟨num,x,cv,re⟩]:List Kp)).length ((rmF Kp.n num l++([⟨num,x,cv,re⟩]:List Kp)).flatMap cellsK):=by
 have hs:sb<w.heap.size:=lt_of_cell hv
 have hrl:=rmF_length (fun x:Kp=>x.n) num l
 have Hown:=hyd hown
 have Hv:=hyd hv
 have Hf:=hyd hf
 have hvl:∀x,v.ownBlock=some x->x<w.heap.size:=fun x hx=>(hown.lt x hx).2
 obtain⟨i0,hi0,hz0,hz1,hz2⟩:=info_parts infoK
 have Hi:Hid (Tryz.prog.info? 194=some i0/\i0.zero=_/\i0.size=13/\i0.bytes=136):=⟨hi0,hz0,hz1,hz2⟩
 clear hown hf hv hi0 hz0 hz1 hz2
 have H1:=hyd h1
 clear h1
 go_enter Tryz.func114,Tryz.ntmps114
 go_wp2_with fail
 refine(removeK_any base sb v l num _ ((World.cell?_alloc_lt _ _ _ (by simpa using hs)).trans Hv.out) (fun o=>(((Below.refl w.heap.size w).alloc (Nat.le_refl _) _).frozen (p:=⟨sb,o,none⟩) hs).trans (Hf.out o)) hne (World.ownsRow.alloc Hown.out _) H1.out (by omega)).mono ?_
 rintro e w2 ⟨rfl,v2,hU2,hr2⟩
 obtain⟨a2,c2,rfl⟩:=rowA_shape hr2
 have hnb:¬(w.heap.size=sb\/v.ownBlock=some w.heap.size):=by
  rintro(e|e)
  ·omega
  ·have:=hvl _ e;omega
 have hbx:∀o u,(w.alloc (.cells #[.bool x.mrk,.int .i64 x.ty,.int .i64 x.nu,.int .i64 x.ti,.int .i64 x.so,cv,.bool x.ex,.int .i64 x.pr,.string x.en,.string x.py,.int .i64 x.pa,.int .i64 re] 164)).cell? ⟨w.heap.size,o,none⟩=some u->w2.cell? ⟨w.heap.size,o,none⟩=some u:=fun o u hu=>hU2.chg.cell (p:=⟨w.heap.size,o,none⟩) hu hnb
 have q0:w2.cell? ⟨w.heap.size,0,none⟩=some (.bool x.mrk):=hbx 0 _ (cell_new _ _ _ 0)
 have q1:w2.cell? ⟨w.heap.size,1,none⟩=some (.int .i64 x.ty):=hbx 1 _ (cell_new _ _ _ 1)
 have q2:w2.cell? ⟨w.heap.size,2,none⟩=some (.int .i64 x.nu):=hbx 2 _ (cell_new _ _ _ 2)
 have q3:w2.cell? ⟨w.heap.size,3,none⟩=some (.int .i64 x.ti):=hbx 3 _ (cell_new _ _ _ 3)
 have q4:w2.cell? ⟨w.heap.size,4,none⟩=some (.int .i64 x.so):=hbx 4 _ (cell_new _ _ _ 4)
 have q5:w2.cell? ⟨w.heap.size,5,none⟩=some (cv):=hbx 5 _ (cell_new _ _ _ 5)
 have q6:w2.cell? ⟨w.heap.size,6,none⟩=some (.bool x.ex):=hbx 6 _ (cell_new _ _ _ 6)
 have q7:w2.cell? ⟨w.heap.size,7,none⟩=some (.int .i64 x.pr):=hbx 7 _ (cell_new _ _ _ 7)
 have q8:w2.cell? ⟨w.heap.size,8,none⟩=some (.string x.en):=hbx 8 _ (cell_new _ _ _ 8)
 have q9:w2.cell? ⟨w.heap.size,9,none⟩=some (.string x.py):=hbx 9 _ (cell_new _ _ _ 9)
 have q10:w2.cell? ⟨w.heap.size,10,none⟩=some (.int .i64 x.pa):=hbx 10 _ (cell_new _ _ _ 10)
 have q11:w2.cell? ⟨w.heap.size,11,none⟩=some (.int .i64 re):=hbx 11 _ (cell_new _ _ _ 11)
 have HU2:Hid (Upd w w2 sb v (.slice a2 (rmF Kp.n num l).length c2)):=Upd.before ((Below.refl _ _).alloc (Nat.le_refl _) _) hs hU2
 have Hr1:=hyd hr2
 have y2:w2.cell? ⟨sb,2,none⟩=some (.slice a2 (rmF Kp.n num l).length c2):=hU2.c2
 have yf:∀o,w2.frozen? ⟨sb,o,none⟩=false:=fun o=>(HU2.out.fz o).trans (Hf.out o)
 have hs2:sb<w2.heap.size:=Nat.lt_of_lt_of_le hs HU2.out.chg.size
 have hb2:base<=w2.heap.size:=Nat.le_trans hb HU2.out.chg.size
 have hne2:(Value.slice a2 (rmF Kp.n num l).length c2).ownBlock≠some sb:=fun e=>by have:=(Hr1.out.lt sb e).1;omega
 clear hU2 hr2 hbx hnb
 generalize hrn:(rmF Kp.n num l).length=rn at *
 have Hrn:=hyd hrn
 clear hrn
 go_wp2
 refine wp_region_noPanic ?_
 refine wp_region_held_drew (S:=fun _=>True) (by kernel_rfl) trivial (fun zH=>?_)
 refine tka 0 ?_
 refine tka 1 ?_
 refine tka 2 ?_
 refine tka 3 ?_
 refine tka 5 ?_
 refine wpAnyH_ready (rs:=[4,6]) (by kernel_rfl) (by simp) ?_
 refine AllReadyH.cons rfl (fun K hK=>?_) (AllReadyH.cons rfl (fun K hK=>?_) AllReadyH.nil)
 focus
  go_simp
  refine hK.out _ _ trivial (fun zH=>?_)
  clear hK K
  refine rd1 6 fun K hK=>?_
  go_simp
  refine hK.out _ _ trivial (fun zH=>?_)
  clear hK K
  refine tka 7 ?_
  refine rd1 8 fun K hK=>?_
 rotate_left
 focus
  go_simp
  refine hK.out _ _ trivial (fun zH=>?_)
  clear hK K
  refine tka 7 ?_
  refine wpAnyH_ready (rs:=[4,8]) (by kernel_rfl) (by simp) ?_
  refine AllReadyH.cons rfl (fun K hK=>?_) (AllReadyH.cons rfl (fun K hK=>?_) AllReadyH.nil)
  focus
   go_simp
   refine hK.out _ _ trivial (fun zH=>?_)
   clear hK K
   refine rd1 8 fun K hK=>?_
  rotate_left
  focus
   go_simp
   refine hK.out _ _ trivial (fun zH=>?_)
   clear hK K
   refine rd1 4 fun K hK=>?_
 all_goals
  go_simp
  refine hK.out _ _ trivial (fun zH=>?_)
  clear hK K
  refine rd1 9 fun K hK=>?_
  rw[if_pos (by rfl)]
  refine wp_append_at (.tmp 13) (.tmp 17) 137 rfl base 194 i0 _ 13 136 Tryz.underlying137 Hi.out.1 Hi.out.2.1 Hi.out.2.2.1 Hi.out.2.2.2 rfl (by decide) (.slice a2 rn c2) rn ((rmF Kp.n num l).flatMap cellsK) (by rfl) (World.ownsRow.drew (World.ownsRow.alloc Hr1.out _)) _ 1 1 (cellsK ⟨num,x,cv,re⟩) (by rfl) rfl (cells_newAt _ (cellsK ⟨num,x,cv,re⟩) _ _ (by simp)) ?_ (by unfold maxLen;omega) (by omega) (by simp;omega) ?_
  ·intro u hu
   refine cellsK_one [⟨num,x,cv,re⟩] (fun y hy=>by simp at hy;subst hy;exact hcv) u ?_
   simpa using hu
  intro v' w3 hown' hgrow hob
  have hbg:w2.grownBy w3 (Value.slice a2 rn c2).ownBlock:=((World.grownBy_alloc _ _ _).trans (World.grownBy_drewX _ _)).trans hgrow
  have hc3:Chg (fun x=>(Value.slice a2 rn c2).ownBlock=some x) w2 w3:=Chg.ofGrown hbg
  have z2:w3.cell? ⟨sb,2,none⟩=some (.slice a2 rn c2):=hc3.cell y2 hne2
  have zf:∀o,w3.frozen? ⟨sb,o,none⟩=false:=fun o=>(hc3.frozen (p:=⟨sb,o,none⟩) hs2 hne2).trans (yf o)
  obtain⟨a3,c3,rfl⟩:=rowA_shape hown'
  have HU3:Hid (Upd w (w3.setCell ⟨sb,2,none⟩ (.slice a3 (rn+1) c3)) sb v (.slice a3 (rn+1) c3)):=HU2.out.trans (Upd.stored hs2 y2 hne2 hbg (fun x hx=>by
   rcases hob with h|h
   ·exact .inl (h▸hx)
   ·rw[h]at hx;simp at hx;exact .inr (by omega)))
  have HR3:Hid (World.ownsRow (w3.setCell ⟨sb,2,none⟩ (.slice a3 (rn+1) c3)) base 194 13 (.slice a3 (rn+1) c3) (rn+1) ((rmF Kp.n num l).flatMap cellsK++cellsK ⟨num,x,cv,re⟩)):=rowA_chg (T:=fun x=>x=sb) ((Chg.refl (fun x=>x=sb) _).setCell ⟨sb,2,none⟩ (.inl rfl) _) hown' (fun x hx e=>by
   subst e
   have h:=hown'.lt x hx
   rcases hob with h'|h'
   ·exact hne2 (h'▸hx)
   ·rw[h']at hx;simp at hx;omega)
  refine hK.out _ _ trivial (fun zH=>?_)
  clear hK K hown' hgrow hob hbg hc3 y2 yf
  refine tka 10 ?_
  refine tka 11 ?_
  refine rd1 12 fun K hK=>?_
  go_simp
  refine hK.out _ _ trivial (fun zH=>?_)
  clear hK K
  refine doN ?_
  go_wp2
  go_end0
  rw[List.length_append,Hrn.out,List.flatMap_append]
  exact⟨rfl,_,HU3.out,by simpa using HR3.out⟩
theorem find1G_any (x:Gp) (num B:Nat) (W:World) (hc:W.cell? ⟨B,0,none⟩=some (.int .u16 num)) :
  Calls Tryz.prog 137 #[.agg #[.int .u16 x.n,.int .i64 x.last,.int .i64 x.tries],.pointer (some ⟨B,0,none⟩)] W fun e w'=>e = .returned (.bool (decide (x.n=num)))/\Below W.heap.size W w':=by
 have hne:B≠W.heap.size:=by have:=lt_of_cell hc;simp only at this;omega
 have hlt:B<W.heap.size:=lt_of_cell hc
 have Heq:Hid (((x.n:Int) == (num:Int))=decide (x.n=num)):=by
  show _=_
  rw[Bool.eq_iff_iff]
  simp only[beq_iff_eq,decide_eq_true_eq]
  omega
 go_enter Tryz.func137,Tryz.ntmps137
 go_wp2
 go_ret
 exact⟨ret_bool (by first|exact Heq.out|simpa using Heq.out),(Below.refl _ _).alloc (Nat.le_refl _) _⟩
theorem indexG_any (base:Nat) (v:Value) (l:List Gp) (num B:Nat) (w:World) (hown:w.ownsRow base 162 3 v l.length (l.flatMap cellsG)) (hc:w.cell? ⟨B,0,none⟩=some (.int .u16 num)) (hn:l.length<=100000) :
  Calls Tryz.prog 135 #[v,.func (.func 137) #[] #[.pointer (some ⟨B,0,none⟩)]] w fun e w'=>e = .returned (.int .i64 (posF num (l.map (·.n))))/\Below w.heap.size w w':=by
 obtain⟨ao,cap,rfl⟩:=rowA_shape hown
 have Hown:=hyd hown
 have Hc:=hyd hc
 clear hown hc
 go_enter Tryz.func135,Tryz.ntmps135
 go_wp2
 go_loopw [8] (fun s8 wr=>∃k:Nat,k<=l.length/\s8 = .int .i64 k/\(∀m (hm:m<l.length),m<k->(l[m]).n≠num)/\Below w.heap.size w wr) (fun s8 _=>l.length-(intOf s8).toNat)
 case atStart=>exact⟨0,Nat.zero_le _,rfl,fun m _ hm=>by omega,Below.refl _ _⟩
 case round=>
  obtain⟨k,hk,rfl,hno,hbel⟩:=hrel
  have Hno:=hyd hno
  have Hbel:=hyd hbel
  clear hno hbel
  by_cases hlt:k<l.length
  ·have hlt':(k:Int)<l.length:=by omega
   obtain⟨g,rfl⟩:=rowA_some Hown.out (by omega)
   have hglt:g<w.heap.size:=(Hown.out.lt g rfl).2
   obtain⟨x,hx⟩:∃x,l[k]=x:=⟨_,rfl⟩
   have at_:∀j,j<3->∀u,(cellsG x)[j]? = some u->wr.cell? ⟨g,k*3+j,none⟩=some u:=fun j hj u hu=>by
    refine(Hbel.out.cell (p:=⟨g,k*3+j,none⟩) hglt).trans ?_
    rw[Hown.out.cellAt (k*3+j) (by omega),flat_at cellsG_len l k j hlt hj,hx]
    exact hu
   have d0:wr.cell? ⟨g,k*3,none⟩=some (.int .u16 x.n):=at_ 0 (by omega) _ rfl
   have d1:wr.cell? ⟨g,k*3+1,none⟩=some (.int .i64 x.last):=at_ 1 (by omega) _ rfl
   have d2:wr.cell? ⟨g,k*3+2,none⟩=some (.int .i64 x.tries):=at_ 2 (by omega) _ rfl
   have hcB:wr.cell? ⟨B,0,none⟩=some (.int .u16 num):=(Hbel.out.cell (p:=⟨B,0,none⟩) (lt_of_cell Hc.out)).trans Hc.out
   have Hx:=hyd hx
   clear at_ hx
   go_wp2_with fail
   refine(find1G_any x num B _ hcB).mono ?_
   rintro e w1 ⟨rfl,hb1⟩
   have Hb1:Hid (Below w.heap.size w w1):=Hbel.out.trans (hb1.mono Hbel.out.size)
   clear hb1 d0 d1 d2 hcB
   by_cases he:x.n=num
   ·rw[decide_eq_true he]
    have Hp:Hid (posF num (l.map (·.n))=(k:Int)):=by
     refine posF_at num (l.map (·.n)) k (by simpa using hlt) (fun m hm=>?_) ?_
     ·rw[List.getElem_map];exact Hno.out m (by omega) hm
     ·rw[List.getElem_map,Hx.out];exact he
    go_wp2
    go_ret
    exact⟨ret_int Hp.out.symm,Hb1.out⟩
   ·rw[decide_eq_false he]
    have He:=hyd he
    clear he
    go_wp2
    go_roundw
    case rel=>exact⟨k+1,by omega,by go_num,fun m hm hmk=>by
     rcases Nat.lt_or_ge m k with h|h
     ·exact Hno.out m hm h
     ·obtain rfl:m=k:=by omega
      rw[Hx.out];exact He.out,Hb1.out⟩
    case measure=>simp[intOf];omega
  ·have hlt':¬(k:Int)<l.length:=by omega
   have Hp:Hid (posF num (l.map (·.n)) = -1):=by
    refine posF_no num _ (fun y hy=>?_)
    obtain⟨z,hz,rfl⟩:=List.mem_map.1 hy
    obtain⟨m,hm,rfl⟩:=List.mem_iff_getElem.1 hz
    exact Hno.out m hm (by omega)
   go_wp2
   go_ret
   exact⟨ret_int Hp.out.symm,Hbel.out⟩
theorem findG_any (base sb:Nat) (v:Value) (l:List Gp) (num:Nat) (w:World) (hv:w.cell? ⟨sb,2,none⟩=some v) (hown:w.ownsRow base 162 3 v l.length (l.flatMap cellsG)) (hn:l.length<=100000) :
  Calls Tryz.prog 126 #[.pointer (some ⟨sb,0,none⟩),.int .u16 num] w fun e w'=>e = .returned (.int .i64 (posF num (l.map (·.n))))/\Below w.heap.size w w':=by
 obtain⟨ao,cap,rfl⟩:=rowA_shape hown
 have Hown:=hyd hown
 have hlt:sb<w.heap.size:=lt_of_cell hv
 have hne:sb≠w.heap.size:=by omega
 clear hown
 go_enter Tryz.func126,Tryz.ntmps126
 go_wp2_with fail
 refine(indexG_any base _ l num w.heap.size _ (World.ownsRow.alloc Hown.out _) (cell_new _ _ _ 0) hn).mono ?_
 rintro e w1 ⟨rfl,hb1⟩
 have Hb1:Hid (Below w.heap.size w w1):=((Below.refl _ _).alloc (Nat.le_refl _) _).trans (hb1.mono (by simp))
 clear hb1
 go_wp2
 go_ret
 exact⟨rfl,Hb1.out⟩
end Go.Proofs.YtdjhhnolcafkiaaGreat
