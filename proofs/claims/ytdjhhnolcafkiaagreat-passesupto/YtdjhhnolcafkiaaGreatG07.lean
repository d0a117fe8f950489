import Derived.Test.YtdjhhnolcafkiaaGreatG02
import Derived.Test.YtdjhhnolcafkiaaGreatG06
import Derived.Test.YtdjhhnolcafkiaaGreatG05
import Derived.Test.YtdjhhnolcafkiaaGreatG04
import Derived.Test.YtdjhhnolcafkiaaGreatG01
import Derived.Deep.RegionHeld
set_option linter.unusedVariables false
set_option linter.unusedSimpArgs false
set_option maxHeartbeats 40000000
set_option maxRecDepth 20000
namespace Go.Proofs.YtdjhhnolcafkiaaGreat
open Go.RowKit
namespace Pk
def MkT (W:World) (base:Nat) (v:Value) (n:Nat) (m:ByteArray):Prop:=W.ownsRow base 9 1 v n (List.replicate n (.string m))
theorem MkT.shape {W:World}{base n:Nat}{v:Value}{m:ByteArray}(h:MkT W base v n m):∃a c,v = .slice a n c:=rowA_shape h
theorem MkT.mkN {W:World}{base n:Nat}{v:Value}{m:ByteArray}(h:MkT W base v n m):MkN W base 9 v n [.string m]:=by
 unfold MkN
 rw[rep_one]
 exact h
theorem takenT {ρ:Nat->Nat}{w wr w3 w4 w5:World}{g n:Nat}{tv tk nv nk av ak v v1 v2 v3 v4 v5:Value}{TL TM NL NM AL AM:List Value}{nx:Int}{m:ByteArray}
  (_hB:BkN wr g ρ tv tk nv nk av ak TL TM NL NM AL AM nx) (hB3:BkN w3 g ρ tv tk nv nk av ak TL TM NL NM AL AM nx) (hi:∀b,w.heap.size<=b->ρ b=0) (hgw:g<w.heap.size) (hww:w.heap.size<=wr.heap.size) (hw3:wr.heap.size<=w3.heap.size) (hv:∀b,v.ownBlock=some b->ρ b=0)
  (C0:MkT w3 (g+1) v n m) (C1:MkT w3 (g+1) v1 (n+1) m) (C2:MkT w3 (g+1) v2 (n+2) m) (C3:MkT w3 (g+1) v3 (n+3) m) (hn:n<=9000)
  (D1:v1.ownBlock=v.ownBlock\/∀b,v1.ownBlock=some b->wr.heap.size<=b) (D2:v2.ownBlock=v.ownBlock\/∀b,v2.ownBlock=some b->wr.heap.size<=b) (D3:v3.ownBlock=v.ownBlock\/∀b,v3.ownBlock=some b->wr.heap.size<=b)
  (H4:w4.ownsRow (g+1) 32 1 v4 (TL.length+4) (TL++[v,v1,v2,v3])) (X4:Chg (fun b=>tv.ownBlock=some b) w3 w4) (D4:v4.ownBlock=tv.ownBlock\/∀b,v4.ownBlock=some b->w3.heap.size<=b)
  (H5:w5.ownsRow (g+1) 9 1 v5 (TM.length+4) (TM++[.string m,.string m,.string m,.string m])) (X5:Chg (fun b=>tk.ownBlock=some b) (w4.setCell ⟨g,0,none⟩ v4) w5)
  (D5:v5.ownBlock=tk.ownBlock\/∀b,v5.ownBlock=some b->w4.heap.size<=b) :
  BkN (w5.setCell ⟨g,1,none⟩ v5) g (roleOf w ρ 2 3 v4 v5 v v1 v2 v3) v4 v5 nv nk av ak (TL++[v,v1,v2,v3]) (TM++[.string m,.string m,.string m,.string m]) NL NM AL AM nx/\
   (∀b,b<w.heap.size->ρ b≠0->roleOf w ρ 2 3 v4 v5 v v1 v2 v3 b=ρ b)/\(∀b,b<w.heap.size->v.ownBlock≠some b->ρ b=0->roleOf w ρ 2 3 v4 v5 v v1 v2 v3 b=0):=by
 have h1g:=(hB3.rg g).2 rfl
 have hng:¬tv.ownBlock=some g:=fun e=>by have:=(hB3.tp.rl.lt g e).1;omega
 have hmg:¬tk.ownBlock=some g:=fun e=>by have:=(hB3.tp.rk.lt g e).1;omega
 have X1:Chg (fun b=>tv.ownBlock=some b\/ρ b=1) w3 (w4.setCell ⟨g,0,none⟩ v4):=(X4.mono (fun _ _ e=>.inl e)).setCell ⟨g,0,none⟩ (.inl (.inr h1g)) _
 have X2:Chg (fun b=>tk.ownBlock=some b\/ρ b=1) (w4.setCell ⟨g,0,none⟩ v4) (w5.setCell ⟨g,1,none⟩ v5):=(X5.mono (fun _ _ e=>.inl e)).setCell ⟨g,1,none⟩ (.inl (.inr h1g)) _
 have H1:(w4.setCell ⟨g,0,none⟩ v4).ownsRow (g+1) 32 1 v4 (TL.length+4) (TL++[v,v1,v2,v3]):=ownsRow_setCell_below H4 (Nat.lt_succ_self g) _
 have H2:(w5.setCell ⟨g,1,none⟩ v5).ownsRow (g+1) 9 1 v5 (TM.length+4) (TM++[.string m,.string m,.string m,.string m]):=ownsRow_setCell_below H5 (Nat.lt_succ_self g) _
 have D2':v5.ownBlock=tk.ownBlock\/∀b,v5.ownBlock=some b->(w4.setCell ⟨g,0,none⟩ v4).heap.size<=b:=D5.imp id (fun h b hb=>by simpa using h b hb)
 have up:∀(u:Value),(u.ownBlock=v.ownBlock\/∀b,u.ownBlock=some b->wr.heap.size<=b)->(u.ownBlock=v.ownBlock\/∀b,u.ownBlock=some b->w.heap.size<=b):=fun u h=>h.imp id (fun h b hb=>Nat.le_trans hww (h b hb))
 obtain⟨f1,f2,f3,f4,f5,f6,f7⟩:=role_facts (m:=.string m) hB3.tp (Nat.le_trans hww hw3) hi (by decide) (by decide) H1 X1.size D4 H2 X2.size D2' C0.mkN C1.mkN C2.mkN C3.mkN hv (up v1 D1) (up v2 D2) (up v3 D3) hB3.rg hgw
 have q:∀r s,r≠1->r≠s->∀(x:Value),(∀b,x.ownBlock=some b->ρ b=s)->∀b,(x.ownBlock=some b\/ρ b=1)->ρ b≠r:=fun r s h1 h2 x hx b hb e=>by
  rcases hb with hb|hb
  ·exact h2 (e.symm.trans (hx b hb))
  ·exact h1 (e.symm.trans hb)
 have q1:∀r,r≠1->r≠2->∀b,(tv.ownBlock=some b\/ρ b=1)->ρ b≠r:=fun r a b=>q r 2 a b tv hB3.tp.fl
 have q2:∀r,r≠1->r≠3->∀b,(tk.ownBlock=some b\/ρ b=1)->ρ b≠r:=fun r a b=>q r 3 a b tk hB3.tp.fm
 have hsz:w3.heap.size<=(w5.setCell ⟨g,1,none⟩ v5).heap.size:=Nat.le_trans X1.size X2.size
 have keep:∀b,b<(w5.setCell ⟨g,1,none⟩ v5).heap.size->ρ b≠0->roleOf w ρ 2 3 v4 v5 v v1 v2 v3 b=ρ b:=fun b _ hne=>f2 b (by
  rcases Nat.lt_or_ge b w3.heap.size with h|h
  ·exact h
  ·exact absurd (hB3.hi b h) hne) hne
 have own:∀o u,o≠0->o≠1->w3.cell? ⟨g,o,none⟩=some u->(w5.setCell ⟨g,1,none⟩ v5).cell? ⟨g,o,none⟩=some u:=fun o u h2 h3 h4=>by
  rw[World.cell?_setCell_other _ ⟨g,1,none⟩ ⟨g,o,none⟩ _ (fun e=>h3 (by injection e with _ e2 _;exact e2.symm))]
  refine X5.cell ?_ hmg
  rw[World.cell?_setCell_other _ ⟨g,0,none⟩ ⟨g,o,none⟩ _ (fun e=>h2 (by injection e with _ e2 _;exact e2.symm))]
  exact X4.cell h4 hng
 have c3:(w4.setCell ⟨g,0,none⟩ v4).cell? ⟨g,1,none⟩=some tk:=(World.cell?_setCell_other _ ⟨g,0,none⟩ ⟨g,1,none⟩ _ (by simp)).trans (X4.cell hB3.c1 hng)
 refine⟨⟨?_,World.cell?_setCell_same _ _ _ (X5.cell c3 hmg),own 2 _ (by omega) (by omega) hB3.c2,own 3 _ (by omega) (by omega) hB3.c3,own 4 _ (by omega) (by omega) hB3.c4,own 5 _ (by omega) (by omega) hB3.c5,own 6 _ (by omega) (by omega) hB3.c6,?_,f5,f6,?_,?_,?_⟩,?_,f7⟩
 ·rw[World.cell?_setCell_other _ ⟨g,1,none⟩ ⟨g,0,none⟩ _ (by simp)]
  exact X5.cell (World.cell?_setCell_same _ _ _ (X4.cell hB3.c0 hng)) hmg
 ·intro o
  rw[World.frozen?_setCell,X5.frozen (p:=⟨g,o,none⟩) (by have:=hB3.lt;have:=X4.size;simp;omega) hmg,World.frozen?_setCell,X4.frozen (p:=⟨g,o,none⟩) hB3.lt hng]
  exact hB3.fz o
 ·exact hB3.tp.taken (by decide) (by decide) (by decide) (by decide) (by decide) H1 X1 D4 H2 X2 D2' (by decide) (by decide) (fun b hb=>by rw[(hB3.rg b).1 hb];exact hB3.lt) C0.mkN C1.mkN C2.mkN C3.mkN (by omega) f1 f2 f3 f4
 ·exact((hB3.np.chg X1 (q1 4 (by decide) (by decide)) (q1 5 (by decide) (by decide)) (q1 8 (by decide) (by decide))).chg X2 (q2 4 (by decide) (by decide)) (q2 5 (by decide) (by decide)) (q2 8 (by decide) (by decide))).roles keep (by decide) (by decide)
 ·exact((hB3.ap.chg X1 (q1 6 (by decide) (by decide)) (q1 7 (by decide) (by decide)) (q1 8 (by decide) (by decide))).chg X2 (q2 6 (by decide) (by decide)) (q2 7 (by decide) (by decide)) (q2 8 (by decide) (by decide))).roles keep (by decide) (by decide)
 ·exact fun b hb hne=>f2 b (by omega) hne
theorem MkT.ofN {W:World}{base n:Nat}{v:Value}{m:ByteArray}(h:MkN W base 9 v n [.string m]):MkT W base v n m:=by
 unfold MkN at h
 rw[rep_one]at h
 exact h
theorem wpList_append_marksT {ops:Array Oper}{rest:List Oper}{o:Oper}{a:Act}{w:World}{Q:Exit->Act->World->Prop}(hgd:o.guard=none) (s x:Operand)
  (ho:o.op = .call { callee:=.builtin .append,args:=#[s,x],argTypes:=#[32,32] })
  (base:Nat) (i:TypeInfo) (hi:Tryz.prog.info? 9=some i/\i.zero=some (.string ⟨#[]⟩)/\i.size=1/\i.bytes=16)
  (v:Value) (n j:Nat) (m:ByteArray) (hs:a.eval s=v) (hown:MkT w base v n m) (ad:Addr) (c:Nat) (hx:a.eval x = .slice (some ad) j c) (hnews:∀k u,(List.replicate j (Value.string m))[k]? = some u->w.cell? (ad.add k)=some u)
  (hn:n+j<=10000) (hbase:base<=w.heap.size)
  (h:∀v' w',MkT w' base v' (n+j) m->(∀u k,k<=n+j->MkT w base u k m->MkT w' base u k m)->w.grownBy w' v.ownBlock->(v'.ownBlock=v.ownBlock\/v'.ownBlock=some w.heap.size)->wpList Tryz.prog ops Q rest (a.put o.dst v') w') :
  wpList Tryz.prog ops Q (o::rest) a w:=by
 refine wpList_plain hgd fun K hK=>?_
 obtain⟨v',w',hr,h2,h3,h4,h5⟩:=append_like w base 32 9 o.type Tryz.underlying32 i (.string ⟨#[]⟩) 16 hi.1 hi.2.1 [.string m] hi.2.2.1 hi.2.2.2 (by decide) rfl Nat.one_pos (by intro u hu;simp at hu;subst hu;rfl) v n j hown.mkN ad c (by rw[rep_one];exact hnews) hn hbase
 unfold Oper.wp execOp
 simp only[ho,resolve,invoke,builtin,Sem.run_bind,Sem.run_pure,Result.andThen_ok,List.map_toArray,List.map_cons,List.map_nil,hs,hx,hr]
 exact hK _ _ (h v' w' (MkT.ofN h2) (fun u k hk hu=>MkT.ofN (h3 u k hk hu.mkN)) h4 h5)
end Pk
open Pk
theorem ownsT_any (g:Nat) (ρ:Nat->Nat) (tv tk nv nk av ak:Value) (TL TM NL NM AL AM:List Value) (nx:Int) (v:Value) (l:List ByteArray) (w:World) (hB:BkN w g ρ tv tk nv nk av ak TL TM NL NM AL AM nx) (hown:w.ownsRow (g+1) 9 1 v l.length (l.map Value.string)) (hf:∀b,v.ownBlock=some b->ρ b=0)
  (hl:l.length<=9000) (hN:TL.length<=1000000000) (hx0:0<=nx) (hx1:nx<=1000000000) :
  Calls Tryz.prog 77 #[.pointer (some ⟨g,0,none⟩),v] w fun e w'=>e = .returned (.tuple #[])/\∃(ρ':Nat->Nat) (tv' tk':Value) (TL':List Value) (m:ByteArray),TL'.length=4/\
   BkN w' g ρ' tv' tk' nv nk av ak (TL++TL') (TM++[.string m,.string m,.string m,.string m]) NL NM AL AM (nx+1)/\(∀b,b<w.heap.size->ρ b≠0->ρ' b=ρ b)/\(∀b,b<w.heap.size->v.ownBlock≠some b->ρ b=0->ρ' b=0)/\
   Chg (fun b=>b=g\/tv.ownBlock=some b\/tk.ownBlock=some b\/v.ownBlock=some b) w w':=by
 have hinfo:(Tryz.prog.info? 9).map (fun i=>(i.zero,i.size,i.bytes))=some (some (.string ⟨#[]⟩),1,16):=by kernel_rfl
 obtain⟨i0,hi,hz0,hz1,hz2⟩:=info_parts hinfo
 have Hi:Hid (Tryz.prog.info? 9=some i0/\i0.zero=some (.string ⟨#[]⟩)/\i0.size=1/\i0.bytes=16):=⟨hi,hz0,hz1,hz2⟩
 have hinfo2:(Tryz.prog.info? 32).map (fun i=>(i.zero,i.size,i.bytes))=some (some (.slice none 0 0),1,24):=by kernel_rfl
 obtain⟨i2,hj,hy0,hy1,hy2⟩:=info_parts hinfo2
 have Hj:Hid (Tryz.prog.info? 32=some i2/\i2.zero=some (.slice none 0 0)/\i2.size=1/\i2.bytes=24):=⟨hj,hy0,hy1,hy2⟩
 clear hi hz0 hz1 hz2 hinfo hj hy0 hy1 hy2 hinfo2
 obtain⟨n,hnl⟩:∃n,l.length=n:=⟨_,rfl⟩
 obtain⟨ao,cap,hv⟩:=rowA_shape hown
 have hrow0:w.ownsRow (g+1) 9 1 v l.length (l.map Value.string):=hown
 rw[hnl]at hv hl hrow0
 subst hv
 have Hrow0:=hyd hrow0
 clear hrow0 hnl hown
 obtain⟨an,cn,rfl⟩:=row_shape hB.tp.rl
 obtain⟨am,cm,rfl⟩:=row_shape hB.tp.rk
 have HB:=hyd hB
 have Hhi:Hid (∀b,w.heap.size<=b->ρ b=0):=hB.hi
 have Hgw:Hid (g<w.heap.size):=hB.lt
 have c6:=hB.c6
 have fz:=hB.fz
 have hxw:IntKind.i64.wrap (nx+1)=nx+1:=i64_id _ (by omega) (by omega)
 have HB6:Hid (BkN (w.setCell ⟨g,6,none⟩ (.int .i64 (nx+1))) g ρ (.slice an TL.length cn) (.slice am TM.length cm) nv nk av ak TL TM NL NM AL AM (nx+1)):=hB.set6 _
 have HX6:Hid (Chg (fun b=>b=g\/(Value.slice an TL.length cn).ownBlock=some b\/(Value.slice am TM.length cm).ownBlock=some b\/(Value.slice ao n cap).ownBlock=some b) w (w.setCell ⟨g,6,none⟩ (.int .i64 (nx+1)))):=(Chg.refl _ _).setCell _ (.inl (.inl rfl)) _
 have HR6:Hid ((w.setCell ⟨g,6,none⟩ (.int .i64 (nx+1))).ownsRow (g+1) 9 1 (.slice ao n cap) n (l.map Value.string)):=ownsRow_setCell_below Hrow0.out (Nat.lt_succ_self g) _
 have c66:=HB6.out.c6
 clear hB
 go_enter Tryz.func77,Tryz.ntmps77
 go_wp2_with fail
 refine(refTold_int 4 (nx+1) _ (by omega) (by omega) (by omega)).mono ?_
 rintro e w6 ⟨⟨tt,rfl,-,hts⟩,hb6⟩
 have hs1:(ByteArray.mk #[35]).size=1:=rfl
 have HB0:Hid (BkN w6 g ρ (.slice an TL.length cn) (.slice am TM.length cm) nv nk av ak TL TM NL NM AL AM (nx+1)):=HB6.out.chg (T:=fun _=>False) (Chg.ofBelow hb6) (fun _ e=>e.elim)
 have HX0:Hid (Chg (fun b=>b=g\/(Value.slice an TL.length cn).ownBlock=some b\/(Value.slice am TM.length cm).ownBlock=some b\/(Value.slice ao n cap).ownBlock=some b) w w6):=HX6.out.trans (T':=fun _=>False) (Chg.ofBelow hb6) (fun _ _ e=>e.elim)
 have HR0:Hid (w6.ownsRow (g+1) 9 1 (.slice ao n cap) n (l.map Value.string)):=rowA_chg (T:=fun _=>False) (Chg.ofBelow hb6) HR6.out (fun _ _ e=>e)
 clear hb6 HB6 HX6 HR6 c66 c6 fz HB Hrow0
 go_wp2
 obtain⟨m,hm⟩:∃m:ByteArray,ByteArray.mk #[35]++tt=m:=⟨_,rfl⟩
 rw[hm]
 clear hm hts hs1
 go_loopw [5] (fun i wr=>∃(k:Nat) (ys:List Value),k<=n/\i = .int .i64 k/\wr.ownsRow (g+1) 9 1 (.slice ao n cap) n ys/\(∀j,j<k->ys[j]? = some (.string m))/\BkN wr g ρ (.slice an TL.length cn) (.slice am TM.length cm) nv nk av ak TL TM NL NM AL AM (nx+1)/\Chg (fun b=>b=g\/(Value.slice an TL.length cn).ownBlock=some b\/(Value.slice am TM.length cm).ownBlock=some b\/(Value.slice ao n cap).ownBlock=some b) w wr) (fun i _=>n-(intOf i).toNat)
 case atStart=>exact⟨0,l.map Value.string,Nat.zero_le _,rfl,HR0.out,fun j hj=>by omega,HB0.out,HX0.out⟩
 case round=>
  obtain⟨k,ys,hk,rfl,hrow,hys,hBk,hchg⟩:=hrel
  by_cases hlt:k<n
  ·obtain⟨gl,hao⟩:∃gl,ao=some ⟨gl,0,none⟩:=by
    rcases hrow.2 with⟨_,h0⟩|⟨gl,_,_,e,_⟩
    ·omega
    ·simp only[Value.slice.injEq]at e
     exact⟨gl,e.1⟩
   subst hao
   have hyl:ys.length=n:=by have:=hrow.1;omega
   obtain⟨y,hy⟩:∃y,ys[k]? = some y:=⟨_,List.getElem?_eq_getElem (by omega)⟩
   have hcell:wr.cell? ⟨gl,k,none⟩=some y:=(hrow.cellAt k (by omega)).trans hy
   have hfr:∀j,wr.frozen? ⟨gl,j,none⟩=false:=fun j=>hrow.frozenAt j
   have hlt':(k:Int)<n:=by omega
   have Hst:Hid (_/\_):=hrow.stored k (.string m)
   have Hys:=hyd hys
   have HBk:=hyd hBk
   have hgl:gl≠g:=by have:=(hrow.lt gl rfl).1;omega
   have Hgl:Hid (ρ gl=0):=hf gl rfl
   clear hrow hys hBk hf
   go_wp2
   go_roundw
   case rel=>
    refine⟨k+1,ys.set k (.string m),by omega,by go_num,Hst.out.1,?_,HBk.out.chg (T:=fun b=>b=gl) ⟨rfl,rfl,rfl,by simp,fun x _ hn=>heap_setCell_other _ _ x _ (fun e=>hn e)⟩ (fun b hb=>by rw[hb];exact Hgl.out),hchg.setCell ⟨gl,k,none⟩ (.inl (.inr (.inr (.inr rfl)))) _⟩
    intro j hj
    by_cases hjk:j=k
    ·subst hjk
     rw[List.getElem?_set_self (by omega)]
    ·rw[List.getElem?_set_ne (by omega)]
     exact Hys.out j (by omega)
   case measure=>simp[intOf];omega
  ·have hkl:k=n:=by omega
   have hM:MkT wr (g+1) (.slice ao n cap) n m:=by
    have e:ys=List.replicate n (.string m):=by
     apply List.ext_getElem?
     intro j
     by_cases hj:j<n
     ·rw[hys j (by omega)];simp[hj]
     ·rw[List.getElem?_eq_none (by have:=hrow.1;omega),List.getElem?_eq_none (by simp;omega)]
    rw[e]at hrow
    exact hrow
   have HM:=hyd hM
   have HBk:=hyd hBk
   have Hchg:=hyd hchg
   have hlt':¬(k:Int)<n:=by omega
   have hglt:=hBk.lt
   clear hM hBk hchg hrow hys
   have HV:=hyd hf
   clear hf hlt HB0 HR0 HX0
   go_wp2_with (at_builtin;(
    refine wpList_append_marksT rfl (.tmp 32) (.tmp 34) rfl (g+1) i0 Hi.out (.slice ao n cap) n 1 m rfl (World.ownsRow.alloc HM.out _) _ 1 rfl (cells_new _ [.string m] _) (by omega) (by simp;omega) ?_
    intro v1 w1 h1 k1 g1 b1
    refine stop_here ?_))
   obtain⟨a1,p1,rfl⟩:=h1.shape
   have A1:=hyd h1
   have A0:Hid (MkT w1 (g+1) (.slice ao n cap) n m):=k1 _ _ (by omega) (World.ownsRow.alloc HM.out _)
   have X1:Hid (Chg (fun b=>(Value.slice ao n cap).ownBlock=some b) wr w1):=((Chg.refl _ _).alloc _).trans (Chg.ofGrown g1) (fun _ _ e=>e)
   have D1:Hid ((Value.slice a1 (n+1) p1).ownBlock=(Value.slice ao n cap).ownBlock\/∀b,(Value.slice a1 (n+1) p1).ownBlock=some b->wr.heap.size<=b):=b1.imp id (fun e b hb=>by rw[e]at hb;simp at hb;omega)
   have s1:g+1<=w1.heap.size:=Nat.le_trans (Nat.succ_le_of_lt hglt) X1.out.size
   clear h1 k1 g1 b1
   refine hid_in ?_
   go_wp2_with (at_builtin;(
    refine wpList_append_marksT rfl (.tmp 36) (.tmp 39) rfl (g+1) i0 Hi.out (.slice ao n cap) n 2 m rfl (World.ownsRow.alloc A0.out _) _ 2 rfl (cells_new _ [.string m,.string m] _) (by omega) (by simp;omega) ?_
    intro v2 w2 h2 k2 g2 b2
    refine stop_here ?_))
   obtain⟨a2,p2,rfl⟩:=h2.shape
   have B2:=hyd h2
   have B1:Hid (MkT w2 (g+1) (.slice a1 (n+1) p1) (n+1) m):=k2 _ _ (by omega) (World.ownsRow.alloc A1.out _)
   have B0:Hid (MkT w2 (g+1) (.slice ao n cap) n m):=k2 _ _ (by omega) (World.ownsRow.alloc A0.out _)
   have X2:Hid (Chg (fun b=>(Value.slice ao n cap).ownBlock=some b) wr w2):=(X1.out.alloc _).trans (Chg.ofGrown g2) (fun _ _ e=>e)
   have D2:Hid ((Value.slice a2 (n+2) p2).ownBlock=(Value.slice ao n cap).ownBlock\/∀b,(Value.slice a2 (n+2) p2).ownBlock=some b->wr.heap.size<=b):=b2.imp id (fun e b hb=>by rw[e]at hb;have:=X1.out.size;simp at hb;omega)
   have s2:g+1<=w2.heap.size:=Nat.le_trans (Nat.succ_le_of_lt hglt) X2.out.size
   clear h2 k2 g2 b2 A0 A1 X1
   refine hid_in ?_
   go_wp2_with (at_builtin;(
    refine wpList_append_marksT rfl (.tmp 41) (.tmp 45) rfl (g+1) i0 Hi.out (.slice ao n cap) n 3 m rfl (World.ownsRow.alloc B0.out _) _ 3 rfl (cells_new _ [.string m,.string m,.string m] _) (by omega) (by simp;omega) ?_
    intro v3 w3 h3 k3 g3 b3
    refine stop_here ?_))
   obtain⟨a3,p3,rfl⟩:=h3.shape
   have C3:=hyd h3
   have C2:Hid (MkT w3 (g+1) (.slice a2 (n+2) p2) (n+2) m):=k3 _ _ (by omega) (World.ownsRow.alloc B2.out _)
   have C1:Hid (MkT w3 (g+1) (.slice a1 (n+1) p1) (n+1) m):=k3 _ _ (by omega) (World.ownsRow.alloc B1.out _)
   have C0:Hid (MkT w3 (g+1) (.slice ao n cap) n m):=k3 _ _ (by omega) (World.ownsRow.alloc B0.out _)
   have X3:Hid (Chg (fun b=>(Value.slice ao n cap).ownBlock=some b) wr w3):=(X2.out.alloc _).trans (Chg.ofGrown g3) (fun _ _ e=>e)
   have D3:Hid ((Value.slice a3 (n+3) p3).ownBlock=(Value.slice ao n cap).ownBlock\/∀b,(Value.slice a3 (n+3) p3).ownBlock=some b->wr.heap.size<=b):=b3.imp id (fun e b hb=>by rw[e]at hb;have:=X2.out.size;simp at hb;omega)
   have s3:g+1<=w3.heap.size:=Nat.le_trans (Nat.succ_le_of_lt hglt) X3.out.size
   have BK3:Hid (BkN w3 g ρ (.slice an TL.length cn) (.slice am TM.length cm) nv nk av ak TL TM NL NM AL AM (nx+1)):=HBk.out.chg X3.out HV.out
   have c2:=BK3.out.c0
   clear h3 k3 g3 b3 B0 B1 B2 X2
   refine hid_in ?_
   go_wp2_with (at_builtin;(
    refine wpList_append_own_at _ rfl (.tmp 51) (.tmp 56) 31 rfl (g+1) 32 i2 (.slice none 0 0) 1 24 Tryz.underlying31 Hj.out.1 Hj.out.2.1 Hj.out.2.2.1 Hj.out.2.2.2 rfl (by decide) (.slice an TL.length cn) TL.length TL rfl (World.ownsRow.alloc BK3.out.tp.rl _) _ 4 4 [.slice ao n cap,.slice a1 (n+1) p1,.slice a2 (n+2) p2,.slice a3 (n+3) p3] rfl rfl (cells_new _ [.slice ao n cap,.slice a1 (n+1) p1,.slice a2 (n+2) p2,.slice a3 (n+3) p3] _) ?_ ?_ ?_ ?_ ?_
    ·intro u hu
     simp only[List.mem_cons,List.not_mem_nil,or_false]at hu
     rcases hu with rfl|rfl|rfl|rfl<;>rfl
    ·unfold maxLen;omega
    ·omega
    ·simp;omega
    intro v4 w4 h4 g4 _ b4
    refine stop_here ?_))
   obtain⟨a4,p4,rfl⟩:=row_shape h4
   have H4:=hyd h4
   have X4:Hid (Chg (fun b=>(Value.slice an TL.length cn).ownBlock=some b) w3 w4):=((Chg.refl _ _).alloc _).trans (Chg.ofGrown g4) (fun _ _ e=>e)
   have D4:Hid ((Value.slice a4 (TL.length+4) p4).ownBlock=(Value.slice an TL.length cn).ownBlock\/∀b,(Value.slice a4 (TL.length+4) p4).ownBlock=some b->w3.heap.size<=b):=b4.imp id (fun e b hb=>by rw[e]at hb;simp at hb;omega)
   have hng:¬(Value.slice an TL.length cn).ownBlock=some g:=fun e=>by have:=(BK3.out.tp.rl.lt g e).1;omega
   have d2:=X4.out.cell BK3.out.c0 hng
   have d3:=X4.out.cell BK3.out.c1 hng
   have f4:∀o,w4.frozen? ⟨g,o,none⟩=false:=fun o=>(X4.out.frozen (p:=⟨g,o,none⟩) (show g<w3.heap.size by omega) hng).trans (BK3.out.fz o)
   have s4:g+1<=w4.heap.size:=Nat.le_trans s3 X4.out.size
   have RM:Hid ((w4.setCell ⟨g,0,none⟩ (.slice a4 (TL.length+4) p4)).ownsRow (g+1) 9 1 (.slice am TM.length cm) TM.length TM):=ownsRow_setCell_below (X4.out.row BK3.out.tp.rk (fun x hx e=>by have a:=BK3.out.tp.fm x hx;have b:=BK3.out.tp.fl x e;omega)) (Nat.lt_succ_self g) _
   have hML:TM.length<=1000000000:=by rw[<-BK3.out.tp.len];exact hN
   clear h4 g4 b4 hng c2
   refine hid_in ?_
   go_wp2_with (at_builtin;(
    refine wpList_append_own_at _ rfl (.tmp 64) (.tmp 69) 32 rfl (g+1) 9 i0 (.string ⟨#[]⟩) 1 16 Tryz.underlying32 Hi.out.1 Hi.out.2.1 Hi.out.2.2.1 Hi.out.2.2.2 rfl (by decide) (.slice am TM.length cm) TM.length TM rfl (World.ownsRow.alloc RM.out _) _ 4 4 [.string m,.string m,.string m,.string m] rfl rfl (cells_newAt _ [.string m,.string m,.string m,.string m] _ _ (by simp)) ?_ ?_ ?_ ?_ ?_
    ·intro u hu;simp at hu;subst hu;rfl
    ·unfold maxLen;omega
    ·omega
    ·simp;omega
    intro v5 w5 h5 g5 _ b5
    refine stop_here ?_))
   obtain⟨a5,p5,rfl⟩:=row_shape h5
   have H5:=hyd h5
   have X5:Hid (Chg (fun b=>(Value.slice am TM.length cm).ownBlock=some b) (w4.setCell ⟨g,0,none⟩ (.slice a4 (TL.length+4) p4)) w5):=((Chg.refl _ _).alloc _).trans (Chg.ofGrown g5) (fun _ _ e=>e)
   have D5:Hid ((Value.slice a5 (TM.length+4) p5).ownBlock=(Value.slice am TM.length cm).ownBlock\/∀b,(Value.slice a5 (TM.length+4) p5).ownBlock=some b->w4.heap.size<=b):=b5.imp id (fun e b hb=>by rw[e]at hb;simp at hb;omega)
   have hmg:¬(Value.slice am TM.length cm).ownBlock=some g:=fun e=>by have:=(BK3.out.tp.rk.lt g e).1;omega
   have e3:=X5.out.cell (p:=⟨g,1,none⟩) ((World.cell?_setCell_other _ ⟨g,0,none⟩ ⟨g,1,none⟩ _ (by simp)).trans d3) hmg
   have f5:∀o,w5.frozen? ⟨g,o,none⟩=false:=fun o=>(X5.out.frozen (p:=⟨g,o,none⟩) (by simp;omega) hmg).trans ((World.frozen?_setCell _ _ _ _).trans (f4 o))
   clear h5 g5 b5 hmg
   refine hid_in ?_
   go_wp2
   obtain⟨z1,z2,z3⟩:=takenT HBk.out BK3.out Hhi.out Hgw.out Hchg.out.size X3.out.size HV.out C0.out C1.out C2.out C3.out (by omega) D1.out D2.out D3.out H4.out X4.out D4.out H5.out X5.out D5.out
   refine bodyPost_end (v:=.tuple #[]) (by simp[results,Tryz.results77,go_sem]) rfl ⟨rfl,_,.slice a4 (TL.length+4) p4,.slice a5 (TM.length+4) p5,[.slice ao n cap,.slice a1 (n+1) p1,.slice a2 (n+2) p2,.slice a3 (n+3) p3],m,rfl,?_,z2,z3,?_⟩
   ·exact z1
   ·refine(((Hchg.out.trans X3.out ?_).trans X4.out ?_).setCell ⟨g,0,none⟩ (.inl (.inl rfl)) _ |>.trans X5.out ?_).setCell ⟨g,1,none⟩ (.inl (.inl rfl)) _
    ·exact fun _ _ e=>.inr (.inr (.inr e))
    ·exact fun _ _ e=>.inr (.inl e)
    ·exact fun _ _ e=>.inr (.inr (.inl e))
end Go.Proofs.YtdjhhnolcafkiaaGreat
namespace Go.Proofs.YtdjhhnolcafkiaaGreat
open Go.RowKit Pk
namespace Rl
def Bk1 (W:World) (g:Nat) (ρ:Nat->Nat) (n:Nat):Prop:=
 ∃(tv tk nv nk av ak:Value) (TL NL AL:List Value) (TS:List ByteArray) (NS AS:List Int) (nx:Int),BkN W g ρ tv tk nv nk av ak TL (TS.map Value.string) NL (NS.map (Value.int .i64)) AL (AS.map (Value.int .i64)) nx/\TL.length<=20*n/\NL.length<=20*n/\AL.length<=20*n/\0<=nx/\nx<=20*n
theorem Bk1.mono {W:World}{g:Nat}{ρ:Nat->Nat}{n m:Nat}(h:Bk1 W g ρ n) (hm:n<=m):Bk1 W g ρ m:=by
 obtain⟨tv,tk,nv,nk,av,ak,TL,NL,AL,TS,NS,AS,nx,h1,h2,h3,h4,h5,h6⟩:=h
 exact⟨tv,tk,nv,nk,av,ak,TL,NL,AL,TS,NS,AS,nx,h1,by omega,by omega,by omega,h5,by omega⟩
theorem Bk1.chg {W W':World}{g:Nat}{ρ:Nat->Nat}{n:Nat}{T:Nat->Prop}(h:Bk1 W g ρ n) (hc:Chg T W W') (hT:∀b,T b->ρ b=0):Bk1 W' g ρ n:=by
 obtain⟨tv,tk,nv,nk,av,ak,TL,NL,AL,TS,NS,AS,nx,h1,h2⟩:=h
 exact⟨tv,tk,nv,nk,av,ak,TL,NL,AL,TS,NS,AS,nx,h1.chg hc hT,h2⟩
def upd {α:Type}(M:Nat->α) (k:Nat) (x:α) (j:Nat):α:=if j=k then x else M j
theorem upd_at {α:Type}(M:Nat->α) (k:Nat) (x:α):upd M k x k=x:=if_pos rfl
theorem upd_no {α:Type}(M:Nat->α) (k:Nat) (x:α){j:Nat}(h:j≠k):upd M k x j=M j:=if_neg h
theorem upd_same {α:Type}(M:Nat->α) (k:Nat):upd M k (M k)=M:=by
 funext j
 unfold upd
 split
 ·rename_i e;rw[e]
 ·rfl
structure Sta (W:World) (F:Nat->Nat->Nat) (K:Nat) (pb mb rb:Nat->Nat) (M:Nat->Md) (R:Nat->Rm) (g n:Nat):Prop where
 pc:∀k,k<K->W.cell? ⟨pb k,0,none⟩=some (ptr (mb k))/\W.cell? ⟨pb k,1,none⟩=some (ptr (rb k))/\∀j,F j (pb k)=0
 md:∀k,k<K->∃sv wv SB WB,MdAt W (F (1+2*k)) (mb k) (M k) sv wv SB WB
 rd:∀k,k<K->∃sv wv,RdAt W (F (2+2*k)) (rb k) (R k) sv wv
 bk:Bk1 W g (F 0) n
 dis:∀i j b,F i b≠0->F j b≠0->i=j
 hi:∀i b,W.heap.size<=b->F i b=0
def SMv (w:World) (F:Nat->Nat->Nat) (W:World) (F':Nat->Nat->Nat):Prop:=(∀b,b<w.heap.size->(∀i,F i b=0)->∀i,F' i b=0)/\Chg (fun b=>∃i,F i b≠0) w W
theorem SMv.refl (w:World) (F:Nat->Nat->Nat):SMv w F w F:=⟨fun _ _ h=>h,Chg.refl _ _⟩
theorem SMv.trans {w W V:World}{F F' F2:Nat->Nat->Nat}(h:SMv w F W F') (k:SMv W F' V F2):SMv w F V F2:=
 ⟨fun b hb e=>k.1 b (Nat.lt_of_lt_of_le hb h.2.size) (h.1 b hb e),h.2.trans k.2 (fun b hb e=>Classical.byContradiction fun e0=>by
  obtain⟨i,hi⟩:=e
  exact hi (h.1 b hb (fun j=>Classical.byContradiction fun ej=>e0 ⟨j,ej⟩) i))⟩
theorem SMv.below {w W:World}{F:Nat->Nat->Nat}(h:Below w.heap.size w W):SMv w F W F:=⟨fun _ _ e=>e,Chg.ofBelow h⟩
theorem SMv.cell {w W:World}{F F':Nat->Nat->Nat}(h:SMv w F W F'){a:Addr}{u:Value}(hc:w.cell? a=some u) (hf:∀i,F i a.block=0):W.cell? a=some u:=h.2.cell hc (fun⟨i,hi⟩=>hi (hf i))
section
variable {W W' : World} {F : Nat -> Nat -> Nat} {K : Nat} {pb mb rb : Nat -> Nat} {M : Nat -> Md} {R : Nat -> Rm} {g n : Nat}
theorem Sta.mono {m:Nat}(h:Sta W F K pb mb rb M R g n) (hm:n<=m):Sta W F K pb mb rb M R g m:=⟨h.pc,h.md,h.rd,h.bk.mono hm,h.dis,h.hi⟩
theorem Sta.chg {T:Nat->Prop}(h:Sta W F K pb mb rb M R g n) (hc:Chg T W W') (hT:∀b,T b->(∀j,F j b=0)/\∀k,k<K->b≠pb k):Sta W' F K pb mb rb M R g n:=by
 refine⟨fun k hk=>?_,fun k hk=>?_,fun k hk=>?_,h.bk.chg hc (fun b hb=>(hT b hb).1 0),h.dis,fun i b hb=>h.hi i b (Nat.le_trans hc.size hb)⟩
 ·obtain⟨a1,a2,a3⟩:=h.pc k hk
  have hp:¬T (pb k):=fun e=>(hT _ e).2 k hk rfl
  exact⟨hc.cell a1 hp,hc.cell a2 hp,a3⟩
 ·obtain⟨sv,wv,SB,WB,a⟩:=h.md k hk
  exact⟨sv,wv,SB,WB,a.chg hc (fun b hb=>(hT b hb).1 _)⟩
 ·obtain⟨sv,wv,a⟩:=h.rd k hk
  exact⟨sv,wv,a.chg hc (fun b hb=>(hT b hb).1 _)⟩
theorem Sta.below (h:Sta W F K pb mb rb M R g n) (hb:Below W.heap.size W W'):Sta W' F K pb mb rb M R g n:=h.chg (T:=fun _=>False) (Chg.ofBelow hb) (fun _ e=>e.elim)
theorem Sta.turn {M':Nat->Md}{R':Nat->Rm}{m:Nat}(h:Sta W F K pb mb rb M R g n) (i:Nat) (ρ:Nat->Nat) (X:Nat->Prop) (hA:∀b,b<W.heap.size->ρ b≠0->F i b≠0\/X b) (hB:Chg (fun b=>F i b≠0\/X b) W W') (hX:∀b,X b->(∀j,F j b=0)/\∀k,k<K->b≠pb k) (hC:∀b,W'.heap.size<=b->ρ b=0)
  (hm:∀k,k<K->(i=1+2*k/\∃sv wv SB WB,MdAt W' ρ (mb k) (M' k) sv wv SB WB)\/(i≠1+2*k/\M' k=M k))
  (hr:∀k,k<K->(i=2+2*k/\∃sv wv,RdAt W' ρ (rb k) (R' k) sv wv)\/(i≠2+2*k/\R' k=R k))
  (hb:(i=0/\Bk1 W' g ρ m)\/(i≠0/\n<=m)):Sta W' (upd F i ρ) K pb mb rb M' R' g m:=by
 have nT:∀j,j≠i->∀b,(F i b≠0\/X b)->F j b=0:=fun j hj b hb=>by
  rcases hb with e|e
  ·exact Decidable.byContradiction (fun e2=>hj (h.dis j i b e2 e))
  ·exact(hX b e).1 j
 refine⟨fun k hk=>?_,fun k hk=>?_,fun k hk=>?_,?_,?_,?_⟩
 ·obtain⟨a1,a2,a3⟩:=h.pc k hk
  have hp:¬(F i (pb k)≠0\/X (pb k)):=fun e=>by
   rcases e with e|e
   ·exact e (a3 i)
   ·exact(hX _ e).2 k hk rfl
  refine⟨hB.cell a1 hp,hB.cell a2 hp,fun j=>?_⟩
  unfold upd
  split
  ·exact Decidable.byContradiction (fun e=>hp (hA _ (lt_of_cell a1) e))
  ·exact a3 j
 ·rcases hm k hk with⟨e,sv,wv,SB,WB,a⟩|⟨e,e2⟩
  ·rw[<-e,upd_at]
   exact⟨sv,wv,SB,WB,a⟩
  ·obtain⟨sv,wv,SB,WB,a⟩:=h.md k hk
   rw[upd_no _ _ _ (fun e'=>e e'.symm),e2]
   exact⟨sv,wv,SB,WB,a.chg hB (nT _ (fun e'=>e e'.symm))⟩
 ·rcases hr k hk with⟨e,sv,wv,a⟩|⟨e,e2⟩
  ·rw[<-e,upd_at]
   exact⟨sv,wv,a⟩
  ·obtain⟨sv,wv,a⟩:=h.rd k hk
   rw[upd_no _ _ _ (fun e'=>e e'.symm),e2]
   exact⟨sv,wv,a.chg hB (nT _ (fun e'=>e e'.symm))⟩
 ·rcases hb with⟨e,a⟩|⟨e,a⟩
  ·rw[e,upd_at]
   exact a
  ·rw[upd_no _ _ _ (fun e'=>e e'.symm)]
   exact(h.bk.chg hB (nT _ (fun e'=>e e'.symm))).mono a
 ·intro a c b ea ec
  have key:∀a,a≠i->F a b≠0->ρ b=0:=fun a ha e=>Decidable.byContradiction fun e2=>by
   by_cases hl:b<W.heap.size
   ·exact e (nT a ha b (hA b hl e2))
   ·exact e (h.hi a b (by omega))
  unfold upd at ea ec
  split at ea
  ·split at ec
   ·omega
   ·rename_i h1 h2
    exact absurd (key c h2 ec) ea
  ·split at ec
   ·rename_i h1 h2
    exact absurd (key a h1 ea) ec
   ·exact h.dis a c b ea ec
 ·intro j b hb
  unfold upd
  split
  ·exact hC b hb
  ·exact h.hi j b (Nat.le_trans hB.size hb)
theorem Sta.turnM {k:Nat}{ρ:Nat->Nat}{M1:Md}{sv wv:Value}{SB WB:List (Nat × Value)}(h:Sta W F K pb mb rb M R g n) (hk:k<K) (h1:MdAt W' ρ (mb k) M1 sv wv SB WB) (h2:∀b,b<W.heap.size->F (1+2*k) b=0->ρ b=0) (h3:Chg (fun b=>F (1+2*k) b≠0) W W') :
  ∃F',Sta W' F' K pb mb rb (upd M k M1) R g n/\SMv W F W' F'/\(∀b,(∀i,F i b=0)->W.heap.size<=b->ρ b=0->∀i,F' i b=0):=by
 refine⟨upd F (1+2*k) ρ,h.turn (1+2*k) ρ (fun _=>False) (fun b hb e=>.inl (fun e0=>e (h2 b hb e0))) (h3.mono (fun _ _ e=>.inl e)) (fun _ e=>e.elim) h1.hi (fun j hj=>?_) (fun j hj=>.inr ⟨by omega,rfl⟩) (.inr ⟨by omega,Nat.le_refl _⟩),⟨fun b hb e i=>?_,h3.mono (fun b _ e=>⟨_,e⟩)⟩,fun b e _ e2 i=>?_⟩
 ·by_cases e:j=k
  ·subst e
   exact .inl ⟨rfl,sv,wv,SB,WB,by rw[upd_at];exact h1⟩
  ·exact .inr ⟨by omega,upd_no _ _ _ e⟩
 ·unfold upd
  split
  ·exact h2 b hb (e _)
  ·exact e i
 ·unfold upd
  split
  ·exact e2
  ·exact e i
theorem Sta.turnR {k:Nat}{ρ:Nat->Nat}{R1:Rm}{sv wv:Value}(h:Sta W F K pb mb rb M R g n) (hk:k<K) (h1:RdAt W' ρ (rb k) R1 sv wv) (h2:RMv W (F (2+2*k)) W' ρ) :
  ∃F',Sta W' F' K pb mb rb M (upd R k R1) g n/\SMv W F W' F'/\(∀b,(∀i,F i b=0)->W.heap.size<=b->ρ b=0->∀i,F' i b=0):=by
 refine⟨upd F (2+2*k) ρ,h.turn (2+2*k) ρ (fun _=>False) (fun b hb e=>.inl (fun e0=>e (h2.1 b hb e0))) (h2.2.mono (fun _ _ e=>.inl e)) (fun _ e=>e.elim) h1.hi (fun j hj=>.inr ⟨by omega,rfl⟩) (fun j hj=>?_) (.inr ⟨by omega,Nat.le_refl _⟩),⟨fun b hb e i=>?_,h2.2.mono (fun b _ e=>⟨_,e⟩)⟩,fun b e _ e2 i=>?_⟩
 ·by_cases e:j=k
  ·subst e
   exact .inl ⟨rfl,sv,wv,by rw[upd_at];exact h1⟩
  ·exact .inr ⟨by omega,upd_no _ _ _ e⟩
 ·unfold upd
  split
  ·exact h2.1 b hb (e _)
  ·exact e i
 ·unfold upd
  split
  ·exact e2
  ·exact e i
theorem Sta.turnB {ρ:Nat->Nat}{m:Nat}(h:Sta W F K pb mb rb M R g n) (v:Value) (h1:Bk1 W' g ρ m) (hh:∀b,W'.heap.size<=b->ρ b=0) (hv:∀b,v.ownBlock=some b->(∀j,F j b=0)/\∀k,k<K->b≠pb k) (h2:∀b,b<W.heap.size->v.ownBlock≠some b->F 0 b=0->ρ b=0) (h3:Chg (fun b=>F 0 b≠0\/v.ownBlock=some b) W W') :
  Sta W' (upd F 0 ρ) K pb mb rb M R g m:=
 h.turn 0 ρ (fun b=>v.ownBlock=some b) (fun b hb e=>Decidable.byContradiction fun e0=>e (h2 b hb (fun e1=>e0 (.inr e1)) (Decidable.byContradiction fun e1=>e0 (.inl e1)))) h3 hv hh (fun j hj=>.inr ⟨by omega,rfl⟩) (fun j hj=>.inr ⟨by omega,rfl⟩) (.inl ⟨rfl,h1⟩)
end
end Rl
end Go.Proofs.YtdjhhnolcafkiaaGreat
namespace Go.Proofs.YtdjhhnolcafkiaaGreat
open Go.RowKit
namespace Pk
theorem zeroWp (w:World):(zeroValue 95).run Tryz.prog w = .ok (.pointer none) w:=by kernel_rfl
theorem infoWp:(Tryz.prog.info? 95).map (fun i=>(i.zero,i.size,i.bytes))=some (some (.pointer none),1,8):=by kernel_rfl
theorem wp_append_shiftW {w:World}{o:Oper}{a:Act}{K:Act->World->Prop}{Q:Exit->Act->World->Prop}(s x:Operand)
  (ho:o.op = .call { callee:=.builtin .append,args:=#[s,x],argTypes:=#[85,85] }) (g i cap:Nat) (hs:a.eval s = .slice (some ⟨g,0,none⟩) i cap) (ad:Addr) (m c:Nat) (news:List Value)
  (hx:a.eval x = .slice (some ad) m c) (hl:news.length=m) (hnews:∀j u,news[j]? = some u->w.cell? (ad.add j)=some u) (h1:∀u∈news,u.oneCell'=true) (hroom:i+m<=cap)
  (hc:∀j,j<news.length->(w.cell? ⟨g,0+i+j,none⟩).isSome=true) (hf:∀j,j<news.length->w.frozen? ⟨g,0+i+j,none⟩=false)
  (h:K (a.put o.dst (.slice (some ⟨g,0,none⟩) (i+m) cap)) (w.setCells g (0+i) news)):o.wp Tryz.prog a w K Q:=by
 obtain⟨i0,hi,hz0,hz1,hz2⟩:=info_parts infoWp
 have hr:=run_append_room_cells (P:=Tryz.prog) (w:=w) 85 o.type 95 i0 Tryz.underlying85 hi g 0 i cap ad m c news (by rw[hz1,Nat.mul_one];exact hl) hnews h1 hroom (by rw[hz1,Nat.mul_one];exact hc) (by rw[hz1,Nat.mul_one];exact hf)
 rw[hz1,Nat.mul_one]at hr
 unfold Oper.wp execOp
 simp only[ho,resolve,invoke,builtin,Sem.run_bind,Sem.run_pure,Result.andThen_ok,List.map_toArray,List.map_cons,List.map_nil,hs,hx,hr]
 exact h
end Pk
open Pk
theorem deleteW_any (base:Nat) (v:Value) (n i j:Nat) (xs:List Value) (w:World) (hown:w.ownsRow base 95 1 v n xs) (h1:∀u∈xs,u.oneCell'=true) (hij:i<=j) (hjn:j<=n) (hn:n<=100000) :
  Calls Tryz.prog 43 #[v,.int .i64 i,.int .i64 j] w fun e w'=>∃v',e = .returned v'/\w'.ownsRow base 95 1 v' (n-(j-i)) (xs.take (i)++xs.drop (j))/\w.grownBy w' v.ownBlock/\v'.ownBlock=v.ownBlock:=by
 obtain⟨ao,cap,rfl⟩:=rowA_shape hown
 have hxl:xs.length=n:=hown.1.trans (Nat.mul_one n)
 have hcap:n<=cap/\(cap:Int)<=9223372036854775807:=by
  obtain⟨_,⟨h2,h0⟩|⟨g,cap',cur,e',_,_,hn',hm',_⟩⟩:=hown
  ·simp only[Value.slice.injEq]at h2
   omega
  ·simp only[Value.slice.injEq]at e'
   unfold maxLen at hm'
   omega
 obtain⟨hcap,hcm⟩:=hcap
 have hcapi:(n:Int)<=cap:=by omega
 have hiji:(i:Int)<=j:=by omega
 have hjni:(j:Int)<=n:=by omega
 have hic:i<=cap:=by omega
 have hjc:j<=cap:=by omega
 by_cases hlt:i<j
 ·obtain⟨g,rfl⟩:=rowA_some hown (by omega)
  have hne:((i:Int) == (j:Int))=false:=by rw[beq_eq_false_iff_ne];omega
  have hc0:¬cap=0:=by omega
  have Hown:=hyd hown
  have H1:=hyd h1
  have Hxl:=hyd hxl
  clear hown h1 hxl
  by_cases hcj:cap=j
  ·obtain rfl:n=j:=by omega
   obtain rfl:n=cap:=by omega
   go_enter Tryz.func43,Tryz.ntmps43
   go_wp2
   refine wp_region_noPanic ?_
   refine wp_region_held_drew (S:=fun _=>True) (by kernel_rfl) trivial (fun zH=>?_)
   refine tka 0 ?_
   refine tka 1 ?_
   refine tka 2 ?_
   refine tka 3 ?_
   refine tka 4 ?_
   refine tka 5 ?_
   refine rd1 6 fun K hK=>?_
   rw[if_pos (by rfl)]
   refine wp_append_shiftW (.tmp 22) (.tmp 25) rfl g i n (by rfl) _ 0 _ [] (by rfl) (by simp) (fun q u hq=>by simp at hq) (fun u hu=>by simp at hu) (by omega) (fun q hq=>by simp at hq) (fun q hq=>by simp at hq) ?_
   refine hK.out _ _ trivial (fun zH=>?_)
   clear hK K
   refine tka 7 ?_
   refine doN ?_
   have R1:(w.drew).ownsRow base 95 1 (.slice (some ⟨g,0,none⟩) n n) n xs:=World.ownsRow.drew Hown.out
   obtain⟨zs,hzl,hcl⟩:=run_clear_row (P:=Tryz.prog) w.drew 85 95 0 (.pointer none) Tryz.underlying85 zeroWp (by intro u hu;simp[Value.cells]at hu;subst hu;rfl) (by decide) g (i) (n-i) (n-i) (by omega) (fun q hq=>by
    have hq':q<(n-i):=Nat.lt_of_lt_of_eq hq (Nat.mul_one _)
    have:=R1.cellAt (i+q) (by omega)
    rw[this,List.getElem?_eq_getElem (by rw[Hxl.out];omega)]
    rfl) (fun q _=>R1.frozenAt _)
   have hzl':zs.length=(n-i):=hzl.trans (Nat.mul_one _)
   obtain⟨R3,R4⟩:=row_writes zs (i) w.drew _ R1 (by rw[hzl',Hxl.out];omega)
   have F1:Hid (World.ownsRow (w.drew.setCells g (i) zs) base 95 1 (.slice (some ⟨g,0,none⟩) i n) i (xs.take (i)++xs.drop (n))):=by
    have h:=row_fewer R3 (m:=i) (by omega) (.inl (by simp))
    have e:(xs.take (i)++zs++xs.drop (i+zs.length)).take (i)=xs.take (i)++xs.drop (n):=by
     rw[List.drop_of_length_le (i:=n) (by rw[Hxl.out];omega),List.append_nil,List.append_assoc,List.take_left' (by rw[List.length_take,Hxl.out];omega)]
    rw[Nat.mul_one,e]at h
    exact h
   have F2:Hid (w.grownBy (w.drew.setCells g (i) zs) (some g)):=(World.grownBy_drewX w (some g)).trans R4
   have hcc:∀ty,(Builtin.clear_ #[85] ty #[.slice (some ⟨g,i,none⟩) (n-i) (n-i)]).run Tryz.prog (w.drew.setCells g (i) []) = .ok (.tuple #[]) (w.drew.setCells g (i) zs):=fun ty=>hcl
   have Hnn:Hid (n-(n-i)=i):=by show _=_;omega
   have hnn3:¬n=i:=by omega
   clear hcl R1 R3 R4 hzl hzl'
   go_wp2_with (simp only[hcc])
   go_ret
   rw[Hnn.out]
   exact⟨_,rfl,F1.out,F2.out,rfl⟩
  ·go_enter Tryz.func43,Tryz.ntmps43
   go_wp2
   refine wp_region_noPanic ?_
   refine wp_region_held_drew (S:=fun _=>True) (by kernel_rfl) trivial (fun zH=>?_)
   refine tka 0 ?_
   refine tka 1 ?_
   refine tka 2 ?_
   refine tka 3 ?_
   refine tka 4 ?_
   refine tka 5 ?_
   refine rd1 6 fun K hK=>?_
   rw[if_pos (by rfl)]
   refine wp_append_shiftW (.tmp 22) (.tmp 25) rfl g i cap (by rfl) _ (n-j) _ (xs.drop (j)) (by rfl) (by rw[List.length_drop,Hxl.out]) (fun q u hq=>by
    have hql:j+q<xs.length:=by have:=(List.getElem?_eq_some_iff.1 hq).1;rw[List.length_drop]at this;omega
    rw[List.getElem?_drop]at hq
    show World.cell? w ((⟨g,j,none⟩:Addr).add q)=some u
    rw[show(⟨g,j,none⟩:Addr).add q=⟨g,j+q,none⟩ by unfold Addr.add;split<;>simp_all,Hown.out.cellAt _ (by rw[<-Hxl.out,Nat.mul_one];exact hql)]
    exact hq) (fun u hu=>H1.out u (List.mem_of_mem_drop hu)) (by omega) (fun q hq=>by
    rw[List.length_drop,Hxl.out]at hq
    have:=Hown.out.cellAt (i+q) (by omega)
    show(World.cell? w ⟨g,0+i+q,none⟩).isSome=true
    rw[Nat.zero_add,this,List.getElem?_eq_getElem (by rw[Hxl.out];omega)]
    rfl) (fun q _=>Hown.out.frozenAt _) ?_
   refine hK.out _ _ trivial (fun zH=>?_)
   clear hK K
   refine tka 7 ?_
   refine doN ?_
   have hdl:(xs.drop (j)).length=(n-j):=by rw[List.length_drop,Hxl.out]
   obtain⟨R1,R2⟩:=row_writes (xs.drop (j)) (0+i) w.drew xs (World.ownsRow.drew Hown.out) (by rw[hdl,Hxl.out];omega)
   generalize hw1:(w.drew).setCells g (0+i) (xs.drop (j))=w1 at *
   have hxl1:=R1.1
   obtain⟨zs,hzl,hcl⟩:=run_clear_row (P:=Tryz.prog) w1 85 95 0 (.pointer none) Tryz.underlying85 zeroWp (by intro u hu;simp[Value.cells]at hu;subst hu;rfl) (by decide) g (i+(n-j)) (n-(i+(n-j))) (cap-(i+(n-j))) (by omega) (fun q hq=>by
    have hq':q<(n-(i+(n-j))):=Nat.lt_of_lt_of_eq hq (Nat.mul_one _)
    have:=R1.cellAt ((i+(n-j))+q) (by omega)
    rw[this,List.getElem?_eq_getElem (by rw[hxl1];omega)]
    rfl) (fun q _=>R1.frozenAt _)
   have hzl':zs.length=(n-(i+(n-j))):=hzl.trans (Nat.mul_one _)
   obtain⟨R3,R4⟩:=row_writes zs (i+(n-j)) w1 _ R1 (by rw[hzl',hxl1];omega)
   have F1:Hid (World.ownsRow (w1.setCells g (i+(n-j)) zs) base 95 1 (.slice (some ⟨g,0,none⟩) (i+(n-j)) cap) (i+(n-j)) (xs.take (i)++xs.drop (j))):=by
    have h:=row_fewer R3 (m:=i+(n-j)) (by omega) (.inl (by simp))
    have e:(((xs.take (0+i)++xs.drop (j)++xs.drop (0+i+(xs.drop (j)).length)).take (i+(n-j))++zs++(xs.take (0+i)++xs.drop (j)++xs.drop (0+i+(xs.drop (j)).length)).drop ((i+(n-j))+zs.length)).take (i+(n-j)))=xs.take (i)++xs.drop (j):=by
     have hl1:(xs.take (i)++xs.drop (j)).length=(i+(n-j)):=by rw[List.length_append,List.length_take,hdl,Hxl.out];omega
     rw[Nat.zero_add,List.take_left' (l₁:=xs.take (i)++xs.drop (j)) hl1,List.append_assoc,List.take_left' hl1]
    rw[Nat.mul_one,e]at h
    exact h
   have F2:Hid (w.grownBy (w1.setCells g (i+(n-j)) zs) (some g)):=(World.grownBy_drewX w (some g)).trans (R2.trans R4)
   have hcc:∀ty,(Builtin.clear_ #[85] ty #[.slice (some ⟨g,(i+(n-j)),none⟩) (n-(i+(n-j))) (cap-(i+(n-j)))]).run Tryz.prog w1 = .ok (.tuple #[]) (w1.setCells g (i+(n-j)) zs):=fun ty=>hcl
   have Hnn:Hid (i+(n-j)=n-(j-i)):=by show _=_;omega
   have hnn1:i+(n-j)<=n:=by omega
   have hnn2:i+(n-j)<=cap:=by omega
   have hnn3:¬cap=i+(n-j):=by omega
   have hnn4:((i+(n-j):Nat):Int)<=n:=by omega
   clear hcl R1 R2 R3 R4 hzl hzl' hdl hxl1 hw1
   generalize i+(n-j)=m at *
   go_wp2_with (simp only[hcc])
   go_ret
   rw[<-Hnn.out]
   exact⟨_,rfl,F1.out,F2.out,rfl⟩
 ·have hij':i=j:=by omega
  subst hij'
  have hne:((i:Int) == (i:Int))=true:=by simp
  have Hown:Hid (∀m,m=n->w.ownsRow base 95 1 (.slice ao m cap) m xs):=fun m e=>by rw[e];exact hown
  clear hown h1 hxl
  rw[Nat.sub_self,Nat.sub_zero,List.take_append_drop]
  go_enter Tryz.func43,Tryz.ntmps43
  go_wp2
  all_goals go_ret
  all_goals exact⟨_,rfl,Hown.out _ (by first|rfl|omega|simp_all),World.grownBy.refl _ _,rfl⟩
end Go.Proofs.YtdjhhnolcafkiaaGreat
namespace Go.Proofs.YtdjhhnolcafkiaaGreat
open Go.RowKit
namespace Pk
theorem eraseW_at {α:Type}{l:List α}{k i:Nat}{x:α}(h:(l.eraseIdx k)[i]? = some x):∃j,j=(if i<k then i else i+1)/\l[j]? = some x:=by
 rw[List.getElem?_eraseIdx]at h
 by_cases e:i<k
 ·exact⟨i,(if_pos e).symm,by rw[if_pos e]at h;exact h⟩
 ·exact⟨i+1,(if_neg e).symm,by rw[if_neg e]at h;exact h⟩
theorem MdAt.dropW {W W2:World}{ρ:Nat->Nat}{mb k:Nat}{M:Md}{sv wv v':Value}{SB WB:List (Nat × Value)}(h:MdAt W ρ mb M sv wv SB WB) (_hk:k<M.wns.length) (hg:Chg (fun b=>wv.ownBlock=some b) W W2) (hr:W2.ownsRow (mb+1) 95 1 v' (WB.eraseIdx k).length ((WB.eraseIdx k).map fun p=>ptr p.1)) (ho:v'.ownBlock=wv.ownBlock) :
  MdAt (W2.setCell ⟨mb,19,none⟩ v') ρ mb { M with wns:=M.wns.eraseIdx k } sv v' SB (WB.eraseIdx k)/\Mv W ρ (W2.setCell ⟨mb,19,none⟩ v') ρ:=by
 have hrm:=h.rm
 have hmw:¬wv.ownBlock=some mb:=fun e=>by have:=h.rw mb e;omega
 have c3:Chg (fun b=>b=mb) W2 (W2.setCell ⟨mb,19,none⟩ v'):=(Chg.refl (fun b=>b=mb) _).setCell ⟨mb,19,none⟩ (.inl rfl) _
 have cc:Chg (fun b=>ρ b=3\/b=mb) W (W2.setCell ⟨mb,19,none⟩ v'):=(hg.mono (fun b _ e=>.inl (h.rw b e))).trans c3 (fun _ _ e=>.inr e)
 have nT:∀q,q≠1->q≠3->∀b,(ρ b=3\/b=mb)->ρ b≠q:=fun q h1 h2 b hb e=>by
  rcases hb with e'|e'
  ·omega
  ·rw[e',hrm]at e;omega
 have hml:mb<W.heap.size:=h.lt
 have hw2:∀i u,(mdV M sv wv)[i]? = some u->W2.cell? ⟨mb,i,none⟩=some u:=fun i u hu=>hg.cell (h.k i u hu) hmw
 have he:mdV { M with wns:=M.wns.eraseIdx k } sv v'=(mdV M sv wv).set 19 v':=rfl
 refine⟨⟨fun i u hu=>?_,fun o=>?_,rowA_chg cc h.sr (fun b hb e=>nT 2 (by decide) (by decide) b e (h.rs b hb)),rowA_chg c3 hr (fun b hb e=>hmw (by rw[<-e,<-ho];exact hb)),h.sl,?_,h.s4,fun i p s h1 h2=>?_,fun i p x h1 h2=>?_,fun i j x y hij h1 h2=>?_,hrm,h.rs,fun b hb=>h.rw b (ho▸hb),fun b hb=>h.hi b (Nat.le_trans cc.size hb)⟩,fun _ _ e=>e,cc.mono (fun b _ e=>?_)⟩
 ·rw[he,List.getElem?_set]at hu
  by_cases e:19=i
  ·subst e
   rw[if_pos rfl]at hu
   split at hu
   ·rename_i hl
    simp only[Option.some.injEq]at hu
    rw[<-hu]
    exact World.cell?_setCell_same _ _ _ (hw2 19 _ (List.getElem?_eq_getElem hl))
   ·cases hu
  ·rw[if_neg e]at hu
   rw[World.cell?_setCell_other _ _ _ _ (fun e'=>e (by injection e'))]
   exact hw2 i u hu
 ·rw[World.frozen?_setCell]
  exact(hg.frozen (p:=⟨mb,o,none⟩) hml hmw).trans (h.fz o)
 ·simp only[List.length_eraseIdx]
  rw[h.wl]
 ·refine⟨(h.part cc i p).1 s h1 h2 (fun b hb=>⟨nT _ (by omega) (by omega) b hb,nT _ (by omega) (by omega) b hb⟩),(h.sa i p s h1 h2).2⟩
 ·obtain⟨j,hj,g1⟩:=eraseW_at h1
  obtain⟨j',hj',g2⟩:=eraseW_at h2
  rw[<-hj]at hj'
  subst hj'
  exact⟨(h.part cc j' p).2 x g1 g2 (fun b hb=>⟨nT _ (by omega) (by omega) b hb,nT _ (by omega) (by omega) b hb,nT _ (by omega) (by omega) b hb⟩),(h.wa j' p x g1 g2).2⟩
 ·obtain⟨a,ha,g1⟩:=eraseW_at h1
  obtain⟨c,hc,g2⟩:=eraseW_at h2
  refine h.ids a c x y ?_ g1 g2
  rw[ha,hc]
  split<;>split<;>omega
 ·rcases e with e|e
  ·rw[e];decide
  ·rw[e,hrm];decide
end Pk
open Pk Rl
theorem dropWant_any (ρ:Nat->Nat) (mb:Nat) (M:Md) (sv wv:Value) (SB WB:List (Nat × Value)) (id:Int) (w:World) (h:MdAt w ρ mb M sv wv SB WB) (h8:M.wns.length<=8) :
  Calls Tryz.prog 19 #[.pointer (some ⟨mb,0,none⟩),.int .i64 id] w fun e w'=>e = .returned (.int .i64 (dropM M id).2)/\Moved w w' ρ mb (dropM M id).1:=by
 obtain⟨ao,cap,rfl⟩:=rowA_shape h.wr
 have H:=hyd h
 have Hwl:Hid (WB.length=M.wns.length):=h.wl
 clear h
 go_enter Tryz.func19,Tryz.ntmps19
 go_wp2_with fail
 refine(orNone_any mb _).mono ?_
 rintro e w1 ⟨rfl,hw1⟩
 rw[hw1]
 clear hw1 w1
 go_wp2_with fail
 refine(findWant_any ρ mb M sv _ SB WB id _ H.out h8).mono ?_
 rintro e w1 ⟨rfl,hb1⟩
 have H1:Hid (MdAt w1 ρ mb M sv (.slice ao WB.length cap) SB WB):=H.out.below hb1
 have HB:=hyd hb1
 clear hb1
 cases hp:wntPos M id with
 | none=>
  have E:Hid (dropM M id=(M,4)):=by show _=_;unfold dropM;rw[hp]
  have HE:Hid (Moved w w1 ρ mb M):=Moved.same H.out HB.out
  clear hp
  unfold posI
  go_wp2
  go_ret
  rw[E.out]
  exact⟨rfl,HE.out⟩
 | some k=>
  have E:Hid (dropM M id=({ M with wns:=M.wns.eraseIdx k },0)):=by show _=_;unfold dropM;rw[hp]
  have hk:k<M.wns.length:=(List.findIdx?_eq_some_iff_getElem.1 hp).1
  have hkW:k<WB.length:=by rw[Hwl.out];exact hk
  have hW8:WB.length<=8:=by rw[Hwl.out];exact h8
  have hk0:¬(k:Int)<0:=by omega
  have y19:w1.cell? ⟨mb,19,none⟩=some (.slice ao WB.length cap):=H1.out.k 19 _ rfl
  have hkw:IntKind.i64.wrap ((k:Int)+1)=(k+1:Nat):=by rw[i64_id _ (by omega) (by omega)];omega
  clear hp
  unfold posI
  go_wp2_with fail
  refine(deleteW_any (mb+1) _ WB.length k (k+1) (WB.map fun p=>ptr p.1) _ H1.out.wr (fun u hu=>by
   obtain⟨q,-,rfl⟩:=List.mem_map.1 hu
   rfl) (by omega) (by omega) (by omega)).mono ?_
  rintro e w2 ⟨v',rfl,hown2,hg2,ho2⟩
  have hle:WB.length-(k+1-k)=(WB.eraseIdx k).length:=by rw[List.length_eraseIdx,if_pos (by omega)];omega
  have hxs:(WB.map fun p=>ptr p.1).take k++(WB.map fun p=>ptr p.1).drop (k+1)=(WB.eraseIdx k).map fun p=>ptr p.1:=by rw[List.eraseIdx_eq_take_drop_succ,List.map_append,List.map_take,List.map_drop]
  rw[hle,hxs]at hown2
  have hc2:Chg (fun b=>(Value.slice ao WB.length cap).ownBlock=some b) w1 w2:=Chg.ofGrown hg2
  obtain⟨HD,HM⟩:=H1.out.dropW hk hc2 hown2 ho2
  have hmw:¬(Value.slice ao WB.length cap).ownBlock=some mb:=fun e=>by have:=H1.out.rw mb e;rw[H1.out.rm]at this;cases this
  have z19:w2.cell? ⟨mb,19,none⟩=some (.slice ao WB.length cap):=hc2.cell y19 hmw
  have zf:∀o,w2.frozen? ⟨mb,o,none⟩=false:=fun o=>(hc2.frozen (p:=⟨mb,o,none⟩) H1.out.lt hmw).trans (H1.out.fz o)
  have HE:Hid (Moved w (w2.setCell ⟨mb,19,none⟩ v') ρ mb { M with wns:=M.wns.eraseIdx k }):=Moved.before HB.out (Moved.mk ⟨HD,HM.1,HM.2⟩)
  obtain⟨a2,c2,rfl⟩:=rowA_shape hown2
  clear hown2 hg2 ho2 hc2 HD HM hle hxs hmw y19
  go_wp2
  go_ret
  rw[E.out]
  exact⟨rfl,HE.out⟩
end Go.Proofs.YtdjhhnolcafkiaaGreat
namespace Go.Proofs.YtdjhhnolcafkiaaGreat
open Go.RowKit
namespace Pk
def TkS (mb B:Nat) (n now window:Int) (W:World):Prop:=W.cell? ⟨B,2,none⟩=some (.int .i64 n)/\W.cell? ⟨mb,7,none⟩=some (.int .i64 now)/\W.cell? ⟨mb,1,none⟩=some (.int .i64 window)
theorem MOk.cnt1 {M:Md}(h:MOk M){c:Int}(hc:c∈[M.s.passed,M.s.late,M.s.doubled,M.s.wrong,M.s.unknown,M.s.again,M.s.refused,M.s.asked,M.s.givenUp]):IntKind.i64.wrap (c+1)=c+1:=i64_id _ (by have:=h.cnt c hc;omega) (by have:=h.cnt c hc;omega)
theorem addsF_len (now:Int):∀(c n:Nat) (l:List Gp),(addsF now c n l).length<=l.length+c
 | 0,_,l=>Nat.le_refl _
 | c+1,n,l=>by
  have h:=addsF_len now c ((n+1)%65536) (rmF Gp.n n l++[⟨n,now,0⟩])
  have h2:=rmF_length Gp.n n l
  rw[addsF]
  rw[List.length_append,List.length_singleton]at h
  omega
theorem takeF_gu (s:Sd) (n:Nat) (now:Int) (window:Nat) (hl:s.gaps.length<=90000) (hw:window<=1000):(takeF s n now window).2.2<=100000:=by
 unfold takeF
 split
 ·exact Nat.zero_le _
 ·split
  ·show guN _ _ _<=_
   refine Nat.le_trans (guN_le _ _ _) ?_
   unfold gapsOn
   split
   ·have:=addsF_len now (stepsTo n s.newest-1) ((s.newest+1)%65536) s.gaps
    omega
   ·omega
  ·exact Nat.zero_le _
theorem row_mono {W:World}{b b' e k n:Nat}{v:Value}{xs:List Value}(h:W.ownsRow b e k v n xs) (hb:b'<=b):W.ownsRow b' e k v n xs:=by
 obtain⟨h1,h2|⟨g,cap,cur,rfl,hg,r⟩⟩:=h
 ·exact⟨h1,.inl h2⟩
 ·exact⟨h1,.inr ⟨g,cap,cur,rfl,Nat.le_trans hb hg,r⟩⟩
theorem IsC.snd {W W':World}{ρ:Nat->Nat}{mb:Nat}{M:Md}{sv wv:Value}{SB WB:List (Nat × Value)}{i:Nat}{q:Nat × Value}{sd:Sd}{v' cv:Value}{cl:List Int}(h:MdAt W ρ mb M sv wv SB WB) (h1:SB[i]? = some q) (h2:M.sds[i]? = some sd) (hi:IsC (fun b=>ρ b=4) W cv cl) (hU:SdUp W W' q.1 q.2 v') :
  IsC (fun b=>(if v'.ownBlock=some b then 11+2*i else ρ b)=4) W' cv cl:=by
 obtain⟨_,hr1,hr2⟩:=h.sa i q sd h1 h2
 have cU:∀b,(b=q.1\/q.2.ownBlock=some b)->ρ b≠4:=fun b hb=>by
  rcases hb with e|e
  ·rw[e,hr1];omega
  ·rw[hr2 b e];omega
 refine(hi.chg hU.chg (fun b hb e=>cU b e hb)).mono (fun b _ e=>?_)
 rw[if_neg (fun e'=>?_)]
 ·exact e
 ·rcases hU.own b e' with e2|e2
  ·exact cU b (.inr e2) e
  ·have:=h.hi b e2
   omega
theorem TkS.chg {T:Nat->Prop}{W W':World}{mb B:Nat}{n now window:Int}(h:TkS mb B n now window W) (hc:Chg T W W') (h1:¬T mb) (h2:¬T B):TkS mb B n now window W':=⟨hc.cell h.1 h2,hc.cell h.2.1 h1,hc.cell h.2.2 h1⟩
end Pk
open Pk
theorem packet_any (ρ:Nat->Nat) (mb:Nat) (M:Md) (sv wv:Value) (SB WB:List (Nat × Value)) (t:ByteArray) (w:World) (h:MdAt w ρ mb M sv wv SB WB) (ok:MOk M) (ht:t.size<=maxLen) :
  Calls Tryz.prog 46 #[.pointer (some ⟨mb,0,none⟩),.string t] w fun e w'=>∃cv tv,e = .returned (.tuple #[tv,.int .i64 (packetM M t cv).2.2])/\MovedT w w' ρ mb (packetM M t cv).1 tv (packetM M t cv).2.1:=by
 have H:=hyd h
 have Hok:=hyd ok
 have hlt:=h.lt
 clear h ok
 cases hR:readP t with
 | none=>
  have HP:Hid (packetM M t (.slice none 0 0)=({ M with s:={ M.s with wrong:=M.s.wrong+1 } },[],1)):=by show _=_;unfold packetM;rw[hR]
  go_enter Tryz.func46,Tryz.ntmps46
  go_wp2_with fail
  refine(orNone_any mb _).mono ?_
  rintro e w1 ⟨rfl,hw1⟩
  rw[hw1]
  clear hw1
  go_wp2_with fail
  refine(readPacket_any t _ ht).mono ?_
  rintro e w1 ⟨hb1,hr⟩
  rw[hR]at hr
  have he:e = .returned wrongV:=hr
  unfold wrongV at he
  subst he
  clear hr hR
  have H1:Hid (MdAt w1 ρ mb M sv wv SB WB):=H.out.below hb1
  have Hb1:=hyd hb1
  have y12:w1.cell? ⟨mb,12,none⟩=some (.int .i64 M.s.wrong):=H1.out.k 12 _ rfl
  have yf:∀o,w1.frozen? ⟨mb,o,none⟩=false:=H1.out.fz
  have hs1:=H1.out.lt
  have hne:mb≠w1.heap.size:=by omega
  have hw:=Hok.out.cnt1 (c:=M.s.wrong) (by simp)
  clear hb1
  go_wp2
  go_ret2
  refine⟨.slice none 0 0,.slice none 0 0,?_,?_⟩
  ·rw[HP.out];rfl
  ·rw[HP.out]
   have hm:=H1.out.put (M':={ M with s:={ M.s with wrong:=M.s.wrong+1 } }) 12 (.int .i64 (M.s.wrong+1)) (by omega) rfl rfl rfl
   exact MovedT.none (hm.1.below ((Below.refl _ _).alloc (Nat.le_refl _) _)) ((Mv.below Hb1.out).trans (hm.2.trans (Mv.below ((Below.refl _ _).alloc (Nat.le_refl _) _))))
 | some p=>
  obtain⟨hnu,hcl,hen,hpy⟩:=read_facts t p hR
  obtain⟨mk,ex,ty,nu,ti,so,pr,pa,cl,en,py⟩:=p
  simp only at hnu hcl hen hpy
  obtain⟨n,rfl⟩:=Int.eq_ofNat_of_zero_le hnu.1
  have hn16:n<65536:=by omega
  go_enter Tryz.func46,Tryz.ntmps46
  go_wp2_with fail
  refine(orNone_any mb _).mono ?_
  rintro e w1 ⟨rfl,hw1⟩
  rw[hw1]
  clear hw1
  go_wp2_with fail
  refine(readPacket_any t _ ht).mono ?_
  rintro e w1 ⟨hb1,hr⟩
  rw[hR]at hr
  obtain⟨cv,he,hown⟩:∃v,e = .returned (okV ⟨mk,ex,ty,(n:Nat),ti,so,pr,pa,cl,en,py⟩ v)/\OwnInts w1 w.heap.size v cl:=hr
  obtain⟨acv,ccv,rfl⟩:=hown.shape
  unfold okV at he
  subst he
  have HR:=hyd hR
  clear hR hnu
  obtain⟨ρ1,hM1,hic,hrB,hrC⟩:=(H.out.below hb1).give hown (fun b hb=>H.out.hi b hb)
  have HV1:Hid (Mv w ρ w1 ρ1):=⟨fun b hb e=>(hrB b hb).trans e,Chg.ofBelow hb1⟩
  have hs1:mb<w1.heap.size:=hM1.lt
  have hne:mb≠w1.heap.size:=by omega
  have HM2:Hid (MdAt (w1.alloc (.cells #[.bool mk,.int .i64 ty,.int .i64 (n:Nat),.int .i64 ti,.int .i64 so,.slice acv cl.length ccv,.bool ex,.int .i64 pr,.string en,.string py,.int .i64 pa] 41)) ρ1 mb M sv wv SB WB):=hM1.below ((Below.refl _ _).alloc (Nat.le_refl _) _)
  have HI2:Hid (IsC (fun b=>ρ1 b=4) (w1.alloc (.cells #[.bool mk,.int .i64 ty,.int .i64 (n:Nat),.int .i64 ti,.int .i64 so,.slice acv cl.length ccv,.bool ex,.int .i64 pr,.string en,.string py,.int .i64 pa] 41)) (.slice acv cl.length ccv) cl):=hic.chg (T:=fun _=>False) (Chg.ofBelow ((Below.refl _ _).alloc (Nat.le_refl _) _)) (fun _ _ e=>e)
  have HV2:Hid (Mv w ρ (w1.alloc (.cells #[.bool mk,.int .i64 ty,.int .i64 (n:Nat),.int .i64 ti,.int .i64 so,.slice acv cl.length ccv,.bool ex,.int .i64 pr,.string en,.string py,.int .i64 pa] 41)) ρ1):=HV1.out.trans (Mv.below ((Below.refl _ _).alloc (Nat.le_refl _) _))
  have HB2:Hid (PbAt w1.heap.size ⟨mk,ex,ty,(n:Nat),ti,so,pr,pa,cl,en,py⟩ (.slice acv cl.length ccv) (w1.alloc (.cells #[.bool mk,.int .i64 ty,.int .i64 (n:Nat),.int .i64 ti,.int .i64 so,.slice acv cl.length ccv,.bool ex,.int .i64 pr,.string en,.string py,.int .i64 pa] 41))):=⟨cell_new _ _ _ 0,cell_new _ _ _ 1,cell_new _ _ _ 2,cell_new _ _ _ 3,cell_new _ _ _ 4,cell_new _ _ _ 5,cell_new _ _ _ 6,cell_new _ _ _ 7,cell_new _ _ _ 8,cell_new _ _ _ 9,cell_new _ _ _ 10⟩
  have hrb:ρ1 w1.heap.size=0:=hM1.hi _ (Nat.le_refl _)
  have hws:w.heap.size<=w1.heap.size:=hb1.size
  clear hM1 hic hrB hrC HV1 hown hb1
  go_wp2_with fail
  generalize w1.alloc (.cells #[.bool mk,.int .i64 ty,.int .i64 (n:Nat),.int .i64 ti,.int .i64 so,.slice acv cl.length ccv,.bool ex,.int .i64 pr,.string en,.string py,.int .i64 pa] 41)=W at *
  generalize w1.heap.size=B at *
  refine(sender_any ρ1 mb M sv wv SB WB so _ HM2.out).mono ?_
  rintro e w2 ⟨hw2,⟨hno,rfl⟩|⟨i,q,sd,hi,h1,h2,h3,rfl⟩⟩
  ·rw[hw2]
   clear hw2
   have HP:Hid (packetM M t (.slice none 0 0)=({ M with s:={ M.s with unknown:=M.s.unknown+1 } },[],4)):=by show _=_;unfold packetM;rw[HR.out];simp only;rw[hno]
   clear hno
   have y13:W.cell? ⟨mb,13,none⟩=some (.int .i64 M.s.unknown):=HM2.out.k 13 _ rfl
   have yf:∀o,W.frozen? ⟨mb,o,none⟩=false:=HM2.out.fz
   have hw:=Hok.out.cnt1 (c:=M.s.unknown) (by simp)
   go_wp2
   go_ret2
   refine⟨.slice none 0 0,.slice none 0 0,?_,?_⟩
   ·rw[HP.out];rfl
   ·rw[HP.out]
    have hm:=HM2.out.put (M':={ M with s:={ M.s with unknown:=M.s.unknown+1 } }) 13 (.int .i64 (M.s.unknown+1)) (by omega) rfl rfl rfl
    exact MovedT.none hm.1 (HV2.out.trans hm.2)
  ·rw[hw2]
   clear hw2
   obtain⟨hSd,hr1,hr2⟩:=HM2.out.sa i q sd h1 h2
   obtain⟨ok16,oknew,oklen⟩:=Hok.out.snd sd (List.mem_of_getElem? h2)
   have hcfg:=of_decide_eq_true Hok.out.cfg
   obtain⟨wi,hwi⟩:=Int.eq_ofNat_of_zero_le (show 0<=M.c.window by omega)
   obtain⟨ri,hri⟩:=Int.eq_ofNat_of_zero_le (show 0<=M.c.ring by omega)
   have hwi2:wi<=1000:=by omega
   have hri2:ri<=1000:=by omega
   have Hwi:=hyd hwi
   have Hri:=hyd hri
   have HP0:Hid (∀cv,packetM M t cv=if(takeF sd n M.s.now wi).2.1=1 then({ tookM M i sd n with s:={ (tookM M i sd n).s with late:=(tookM M i sd n).s.late+1 } },[],0)else if(takeF sd n M.s.now wi).2.1=2 then({ tookM M i sd n with s:={ (tookM M i sd n).s with doubled:=(tookM M i sd n).s.doubled+1 } },[],0)else(passTo { tookM M i sd n with s:={ (tookM M i sd n).s with passed:=(tookM M i sd n).s.passed+1 } } ⟨mk,ex,ty,(n:Nat),ti,so,pr,pa,cl,en,py⟩ cv ri M.wns.length,textsTo M ⟨mk,ex,ty,(n:Nat),ti,so,pr,pa,cl,en,py⟩ M.wns.length,0)):=by
    intro cv
    unfold packetM
    rw[HR.out]
    simp only
    rw[hi]
    simp only
    rw[h2]
    simp only
    rw[hwi,hri]
    rfl
   have Htook:Hid (tookM M i sd n={ M with sds:=M.sds.set i (takeF sd n M.s.now wi).1,s:={ M.s with givenUp:=M.s.givenUp+(takeF sd n M.s.now wi).2.2 } }):=by
    show _=_
    unfold tookM
    rw[hwi]
    rfl
   have hgu:=takeF_gu sd n M.s.now wi oklen hwi2
   have e1:=u16_id n hn16
   have HS:Hid (TkS mb B n M.s.now wi W):=⟨HB2.out.q2,HM2.out.k 7 _ rfl,by have:=HM2.out.k 1 _ rfl;rw[this];exact congrArg (fun z=>some (Value.int .i64 z)) hwi⟩
   have cU:∀b,(b=q.1\/q.2.ownBlock=some b)->ρ1 b≠0/\ρ1 b≠1:=fun b hb=>by
    rcases hb with e|e
    ·rw[e,hr1];omega
    ·rw[hr2 b e];omega
   have HU:=hyd cU
   have HSd:Hid (SdAt W.drew (q.1+1) q.1 q.2 sd):=hSd.below (Below.refl _ _).drew
   have H1:=hyd h1
   have H2:=hyd h2
   have hmr:ρ1 mb=1:=HM2.out.rm
   clear cU hr1 hr2 hSd h1 h2 h3 hi hcfg hwi hri
   unfold ptr
   go_wp2
   refine wp_region_noPanic ?_
   refine wp_region_held_drew (S:=TkS mb B n M.s.now wi) (by kernel_rfl) HS.out (fun zH=>?_)
   refine tka 0 ?_
   refine tka 1 ?_
   refine tka 2 ?_
   refine tka 3 ?_
   refine tka 4 ?_
   refine tka 5 ?_
   refine tka 6 ?_
   refine tka 7 ?_
   refine tka 8 ?_
   refine tka 9 ?_
   refine tka 10 ?_
   refine tka 11 ?_
   refine tka 12 ?_
   refine tka 13 ?_
   refine rd1 14 fun K hK=>?_
   go_simp
   refine(take_any (q.1+1) q.1 q.2 sd n wi M.s.now _ HSd.out ok16 oknew hn16 oklen hwi2 HSd.out.lt).mono ?_
   rintro e w3 ⟨rfl,v3,hS3,hU3⟩
   have hSS:TkS mb B n M.s.now wi w3:=TkS.chg zH hU3.chg (fun e=>(HU.out _ e).2 hmr) (fun e=>(HU.out _ e).1 hrb)
   have HUd:Hid (SdUp W w3 q.1 q.2 v3):=SdUp.before (Below.refl _ _).drew hU3
   have HS3:=hyd hS3
   clear hS3 hU3
   generalize (takeF sd n M.s.now wi).2.1=f at *
   generalize (takeF sd n M.s.now wi).2.2=gu at *
   generalize (takeF sd n M.s.now wi).1=sd' at *
   obtain⟨ρ3,hM3,hV3,hI3⟩:∃ρ3:Nat->Nat,MdAt w3 ρ3 mb { M with sds:=M.sds.set i sd' } sv wv (SB.set i (q.1,v3)) WB/\Mv w ρ w3 ρ3/\IsC (fun b=>ρ3 b=4) w3 (.slice acv cl.length ccv) cl:=by
    have hsnd:=HM2.out.snd H1.out H2.out HS3.out HUd.out
    exact⟨_,hsnd.1,HV2.out.trans ⟨hsnd.2.1,hsnd.2.2⟩,IsC.snd HM2.out H1.out H2.out HI2.out HUd.out⟩
   have HM3:=hyd hM3
   have HV3:=hyd hV3
   have HI3:=hyd hI3
   have HB3:Hid (PbAt B ⟨mk,ex,ty,(n:Nat),ti,so,pr,pa,cl,en,py⟩ (.slice acv cl.length ccv) w3):=HB2.out.chg HUd.out.chg (fun e=>(HU.out _ e).1 hrb)
   clear hM3 hV3 hI3
   go_simp
   refine hK.out _ _ hSS (fun zH=>?_)
   clear hK K
   refine tka 15 ?_
   refine tka 16 ?_
   refine tka 17 ?_
   refine rd1 18 fun K hK=>?_
   go_simp
   refine hK.out _ _ zH (fun zH=>?_)
   clear hK K
   refine rd1 19 fun K hK=>?_
   go_simp
   refine hK.out _ _ zH (fun zH=>?_)
   clear hK K
   refine doN ?_
   clear zH hSS HS e1
   have y17:w3.cell? ⟨mb,17,none⟩=some (.int .i64 M.s.givenUp):=HM3.out.k 17 _ rfl
   have yf:∀o,w3.frozen? ⟨mb,o,none⟩=false:=HM3.out.fz
   have hwg:IntKind.i64.wrap (M.s.givenUp+(gu:Int))=M.s.givenUp+gu:=i64_id _ (by have:=Hok.out.cnt M.s.givenUp (by simp);omega) (by have:=Hok.out.cnt M.s.givenUp (by simp);omega)
   by_cases hf1:f=1
   ·subst hf1
    have HP:Hid (packetM M t (.slice none 0 0)=({ M with sds:=M.sds.set i sd',s:={ M.s with givenUp:=M.s.givenUp+gu,late:=M.s.late+1 } },[],0)):=by
     show _=_
     rw[HP0.out,if_pos rfl,Htook.out]
    have y:w3.cell? ⟨mb,10,none⟩=some (.int .i64 M.s.late):=HM3.out.k 10 _ rfl
    have hw:=Hok.out.cnt1 (c:=M.s.late) (by simp)
    go_wp2
    go_ret2
    refine⟨.slice none 0 0,.slice none 0 0,?_,?_⟩
    ·rw[HP.out];rfl
    ·rw[HP.out]
     have hm:=HM3.out.put (M':={ M with sds:=M.sds.set i sd',s:={ M.s with givenUp:=M.s.givenUp+gu } }) 17 (.int .i64 (M.s.givenUp+gu)) (by omega) rfl rfl rfl
     have hm2:=hm.1.put (M':={ M with sds:=M.sds.set i sd',s:={ M.s with givenUp:=M.s.givenUp+gu,late:=M.s.late+1 } }) 10 (.int .i64 (M.s.late+1)) (by omega) rfl rfl rfl
     exact MovedT.none hm2.1 (HV3.out.trans (hm.2.trans hm2.2))
   by_cases hf2:f=2
   ·subst hf2
    have HP:Hid (packetM M t (.slice none 0 0)=({ M with sds:=M.sds.set i sd',s:={ M.s with givenUp:=M.s.givenUp+gu,doubled:=M.s.doubled+1 } },[],0)):=by
     show _=_
     rw[HP0.out,if_neg (by decide),if_pos rfl,Htook.out]
    have y:w3.cell? ⟨mb,11,none⟩=some (.int .i64 M.s.doubled):=HM3.out.k 11 _ rfl
    have hw:=Hok.out.cnt1 (c:=M.s.doubled) (by simp)
    go_wp2
    go_ret2
    refine⟨.slice none 0 0,.slice none 0 0,?_,?_⟩
    ·rw[HP.out];rfl
    ·rw[HP.out]
     have hm:=HM3.out.put (M':={ M with sds:=M.sds.set i sd',s:={ M.s with givenUp:=M.s.givenUp+gu } }) 17 (.int .i64 (M.s.givenUp+gu)) (by omega) rfl rfl rfl
     have hm2:=hm.1.put (M':={ M with sds:=M.sds.set i sd',s:={ M.s with givenUp:=M.s.givenUp+gu,doubled:=M.s.doubled+1 } }) 11 (.int .i64 (M.s.doubled+1)) (by omega) rfl rfl rfl
     exact MovedT.none hm2.1 (HV3.out.trans (hm.2.trans hm2.2))
   have g1:((f:Int) == 1)=false:=by rw[beq_eq_false_iff_ne];omega
   have g2:((f:Int) == 2)=false:=by rw[beq_eq_false_iff_ne];omega
   have HP:Hid (∀cv,packetM M t cv=(passTo { M with sds:=M.sds.set i sd',s:={ M.s with givenUp:=M.s.givenUp+gu,passed:=M.s.passed+1 } } ⟨mk,ex,ty,(n:Nat),ti,so,pr,pa,cl,en,py⟩ cv ri M.wns.length,textsTo M ⟨mk,ex,ty,(n:Nat),ti,so,pr,pa,cl,en,py⟩ M.wns.length,0)):=by
    intro cv
    rw[HP0.out,if_neg hf1,if_neg hf2,Htook.out]
   have y9:w3.cell? ⟨mb,9,none⟩=some (.int .i64 M.s.passed):=HM3.out.k 9 _ rfl
   have hw:=Hok.out.cnt1 (c:=M.s.passed) (by simp)
   have b0:=HB3.out.q0
   have b1:=HB3.out.q1
   have b2:=HB3.out.q2
   have b3:=HB3.out.q3
   have b4:=HB3.out.q4
   have b5:=HB3.out.q5
   have b6:=HB3.out.q6
   have b7:=HB3.out.q7
   have b8:=HB3.out.q8
   have b9:=HB3.out.q9
   have b10:=HB3.out.q10
   have hm:=HM3.out.put (M':={ M with sds:=M.sds.set i sd',s:={ M.s with givenUp:=M.s.givenUp+gu } }) 17 (.int .i64 (M.s.givenUp+gu)) (by omega) rfl rfl rfl
   have hm2:=hm.1.put (M':={ M with sds:=M.sds.set i sd',s:={ M.s with givenUp:=M.s.givenUp+gu,passed:=M.s.passed+1 } }) 9 (.int .i64 (M.s.passed+1)) (by omega) rfl rfl rfl
   have HM5:Hid (MdAt ((w3.setCell ⟨mb,17,none⟩ (.int .i64 (M.s.givenUp+gu))).setCell ⟨mb,9,none⟩ (.int .i64 (M.s.passed+1))) ρ3 mb { M with sds:=M.sds.set i sd',s:={ M.s with givenUp:=M.s.givenUp+gu,passed:=M.s.passed+1 } } sv wv (SB.set i (q.1,v3)) WB):=hm2.1
   have HV5:Hid (Mv w ρ ((w3.setCell ⟨mb,17,none⟩ (.int .i64 (M.s.givenUp+gu))).setCell ⟨mb,9,none⟩ (.int .i64 (M.s.passed+1))) ρ3):=HV3.out.trans (hm.2.trans hm2.2)
   have hcc:Chg (fun b=>b=mb) w3 ((w3.setCell ⟨mb,17,none⟩ (.int .i64 (M.s.givenUp+gu))).setCell ⟨mb,9,none⟩ (.int .i64 (M.s.passed+1))):=((Chg.refl (fun b=>b=mb) _).setCell ⟨mb,17,none⟩ (.inl rfl) _).setCell ⟨mb,9,none⟩ (.inl rfl) _
   have HI5:Hid (IsC (fun b=>ρ3 b=4) ((w3.setCell ⟨mb,17,none⟩ (.int .i64 (M.s.givenUp+gu))).setCell ⟨mb,9,none⟩ (.int .i64 (M.s.passed+1))) (.slice acv cl.length ccv) cl):=HI3.out.chg hcc (fun b hb e=>by rw[e,HM3.out.rm]at hb;cases hb)
   have hw8:=Hok.out.w8
   have Hwnt:Hid (∀x∈M.wns,WOk x):=Hok.out.wnt
   clear hm hm2 hcc
   go_wp2_with fail
   refine(passOn_any ρ3 mb { M with sds:=M.sds.set i sd',s:={ M.s with givenUp:=M.s.givenUp+gu,passed:=M.s.passed+1 } } sv wv (SB.set i (q.1,v3)) WB mk ex ty ti so pr pa n cl en py (.slice acv cl.length ccv) ri _ HM5.out HI5.out Hri.out hri2 hn16 hw8 Hwnt.out (by omega) (by omega) (by omega)).mono ?_
   rintro e w6 ⟨ρ6,WB6,ov,rfl,hrel⟩
   obtain⟨ao6,co6,rfl⟩:=rowA_shape hrel.row
   have HT:Hid (MovedT w w6 ρ mb (packetM M t (.slice acv cl.length ccv)).1 (.slice ao6 (textsTo M ⟨mk,ex,ty,(n:Nat),ti,so,pr,pa,cl,en,py⟩ M.wns.length).length co6) (packetM M t (.slice acv cl.length ccv)).2.1):=by
    show MovedT _ _ _ _ _ _ _
    rw[HP.out]
    refine⟨ρ6,sv,wv,_,WB6,hrel.md,HV5.out.trans ⟨hrel.z,hrel.chg⟩,row_mono hrel.row ?_,hrel.r0⟩
    have:=HV5.out.2.size
    omega
   have Hp2:Hid ((packetM M t (.slice acv cl.length ccv)).2.2=0):=by show _=_;rw[HP.out]
   clear hrel
   have htl:textsTo { M with sds:=M.sds.set i sd',s:={ M.s with givenUp:=M.s.givenUp+gu,passed:=M.s.passed+1 } } ⟨mk,ex,ty,(n:Nat),ti,so,pr,pa,cl,en,py⟩ ({ M with sds:=M.sds.set i sd',s:={ M.s with givenUp:=M.s.givenUp+gu,passed:=M.s.passed+1 } }:Md).wns.length=textsTo M ⟨mk,ex,ty,(n:Nat),ti,so,pr,pa,cl,en,py⟩ M.wns.length:=rfl
   rw[htl]
   clear htl
   generalize (textsTo M ⟨mk,ex,ty,(n:Nat),ti,so,pr,pa,cl,en,py⟩ M.wns.length).length=tl at *
   go_wp2
   go_ret2
   refine⟨.slice acv cl.length ccv,.slice ao6 tl co6,?_,HT.out⟩
   rw[Hp2.out]
   rfl
end Go.Proofs.YtdjhhnolcafkiaaGreat
namespace Go.Proofs.YtdjhhnolcafkiaaGreat
open Go.RowKit
namespace Pk
def sttA (s:Stt):Array Value:=#[.int .i64 s.now,.int .i64 s.tokens,.int .i64 s.passed,.int .i64 s.late,.int .i64 s.doubled,.int .i64 s.wrong,.int .i64 s.unknown,.int .i64 s.again,.int .i64 s.refused,.int .i64 s.asked,.int .i64 s.givenUp]
def names (l:List Gp):List Int:=l.map fun g=>(g.n:Int)
theorem cell_one_at (B:Nat) (w:World) (hB:B=w.heap.size) (v:Value) (t:TypeId):∀j u,[v][j]? = some u->(w.alloc (.cells #[v] t)).cell? ((⟨B,0,none⟩:Addr).add j)=some u:=by
 subst hB
 exact cell_one_new _ _ _
theorem names_take (l:List Gp) (k:Nat) (h:k<l.length):names (l.take (k+1))=names (l.take k)++[((l[k]).n:Int)]:=by
 unfold names
 rw[List.take_succ_eq_append_getElem h,List.map_append]
 rfl
theorem names_len (l:List Gp) (k:Nat) (h:k<=l.length):(names (l.take k)).length=k:=by
 unfold names
 rw[List.length_map,List.length_take]
 omega
end Pk
open Pk
theorem look_any (ρ:Nat->Nat) (mb:Nat) (M:Md) (sv wv:Value) (SB WB:List (Nat × Value)) (w:World) (h:MdAt w ρ mb M sv wv SB WB) :
  Calls Tryz.prog 11 #[.pointer (some ⟨mb,0,none⟩)] w fun e w'=>e = .returned (.agg (sttA M.s))/\Below w.heap.size w w':=by
 have hlt:=h.lt
 obtain⟨c,s,sds,wns,last⟩:=M
 obtain⟨t0,t1,t2,t3,t4,t5,t6,t7,t8,t9,t10⟩:=s
 have y0:w.cell? ⟨mb,7,none⟩=some (.int .i64 t0):=h.k 7 _ rfl
 have y1:w.cell? ⟨mb,8,none⟩=some (.int .i64 t1):=h.k 8 _ rfl
 have y2:w.cell? ⟨mb,9,none⟩=some (.int .i64 t2):=h.k 9 _ rfl
 have y3:w.cell? ⟨mb,10,none⟩=some (.int .i64 t3):=h.k 10 _ rfl
 have y4:w.cell? ⟨mb,11,none⟩=some (.int .i64 t4):=h.k 11 _ rfl
 have y5:w.cell? ⟨mb,12,none⟩=some (.int .i64 t5):=h.k 12 _ rfl
 have y6:w.cell? ⟨mb,13,none⟩=some (.int .i64 t6):=h.k 13 _ rfl
 have y7:w.cell? ⟨mb,14,none⟩=some (.int .i64 t7):=h.k 14 _ rfl
 have y8:w.cell? ⟨mb,15,none⟩=some (.int .i64 t8):=h.k 15 _ rfl
 have y9:w.cell? ⟨mb,16,none⟩=some (.int .i64 t9):=h.k 16 _ rfl
 have y10:w.cell? ⟨mb,17,none⟩=some (.int .i64 t10):=h.k 17 _ rfl
 clear h
 go_enter Tryz.func11,Tryz.ntmps11
 go_wp2_with fail
 refine(orNone_any mb _).mono ?_
 rintro e w1 ⟨rfl,hw1⟩
 rw[hw1]
 clear hw1 w1
 go_wp2
 refine bodyPost_ret (v:=.agg #[.int .i64 t0,.int .i64 t1,.int .i64 t2,.int .i64 t3,.int .i64 t4,.int .i64 t5,.int .i64 t6,.int .i64 t7,.int .i64 t8,.int .i64 t9,.int .i64 t10]) (by simp[results,Tryz.results11,go_sem]) rfl ⟨rfl,(Below.refl _ _).alloc (Nat.le_refl _) _⟩
theorem missingS_any (base sb:Nat) (v:Value) (s:Sd) (w:World) (h:SdAt w base sb v s) (h16:In16G s.gaps) (hn:s.gaps.length<=99000) :
  Calls Tryz.prog 61 #[.pointer (some ⟨sb,0,none⟩)] w fun e w'=>∃v',e = .returned v'/\OwnInts w' w.heap.size v' (names s.gaps)/\Below w.heap.size w w':=by
 obtain⟨ao,cap,rfl⟩:=rowA_shape h.row
 have H:=hyd h
 have H16:=hyd h16
 have y2:=h.c2
 obtain⟨n,hnn⟩:∃n,s.gaps.length=n:=⟨_,rfl⟩
 have Hnn:=hyd hnn
 rw[hnn]at y2 hn
 have hinfo:(Tryz.prog.info? 3).map (fun i=>(i.zero,i.size,i.bytes))=some (some (.int .i64 0),1,8):=by kernel_rfl
 obtain⟨i0,hi,hz0,hz1,hz2⟩:=info_parts hinfo
 have Hi:Hid (Tryz.prog.info? 3=some i0/\i0.zero=some (.int .i64 0)/\i0.size=1/\i0.bytes=8):=⟨hi,hz0,hz1,hz2⟩
 have Hb0:Hid (i0.bytes*n<=281474976710656):=by show _<=_;rw[hz2];omega
 have hsb:=h.lt
 clear h h16 hnn hi hz0 hz1 hz2 hinfo
 go_enter Tryz.func61,Tryz.ntmps61
 go_wp2_with (at_make;refine wpList_make_own _ rfl (.const (.int .i64 0)) (.tmp 11) 34 rfl w.heap.size 3 i0 (.int .i64 0) 1 Tryz.underlying34 Hi.out.1 Hi.out.2.1 Hi.out.2.2.1 .i64 .i64 _ n rfl rfl rfl Hb0.out (by unfold maxLen;omega) (Nat.le_refl _) ?_;intro w1 hown1 hg1;refine stop_here ?_)
 refine hid_in ?_
 have HB1:Hid (Below w.heap.size w w1):=(Chg.ofGrown hg1).below (Nat.le_refl _) (fun x e=>by cases e)
 have HO1:=hyd hown1
 have y2':w1.cell? ⟨sb,2,none⟩=some (.slice ao n cap):=(HB1.out.cell (p:=⟨sb,2,none⟩) hsb).trans y2
 clear hown1 hg1 y2
 go_wp2
 clear y2'
 go_loopw [3,19] (fun v i wr=>∃k:Nat,k<=n/\i = .int .i64 k/\OwnInts wr w.heap.size v (names (s.gaps.take k))/\Below w.heap.size w wr) (fun _ i _=>n-(intOf i).toNat)
 case atStart=>exact⟨0,Nat.zero_le _,rfl,HO1.out,HB1.out⟩
 case round=>
  obtain⟨k,hk,rfl,hown,hb⟩:=hrel
  have Hb:=hyd hb
  have hlk:(names (s.gaps.take k)).length=k:=names_len _ _ (by rw[Hnn.out];exact hk)
  have h0:wr.ownsRow _ _ _ _ _ _:=hown
  rw[hlk]at h0
  have Hown:=hyd h0
  have hsz:=hb.size
  clear hown h0 hlk hb
  by_cases hlt:k<n
  ·have hlt':(k:Int)<n:=by omega
   have hkl:k<s.gaps.length:=by rw[Hnn.out];exact hlt
   obtain⟨g,rfl⟩:=rowA_some H.out.row (by omega)
   have hgl:=(H.out.row.lt g rfl).2
   have dd:∀j (hj:j<3),wr.cell? ⟨g,k*3+j,none⟩=(cellsG (s.gaps[k]))[j]?:=fun j hj=>by
    have h:=H.out.row.cellAt (k*3+j) (by rw[Hnn.out];omega)
    rw[flat_at cellsG_len s.gaps k j hkl hj]at h
    exact(Hb.out.cell (p:=⟨g,k*3+j,none⟩) hgl).trans h
   have d0:=dd 0 (by omega)
   have d1:=dd 1 (by omega)
   have d2:=dd 2 (by omega)
   clear dd
   have Htk:=names_take s.gaps k hkl
   have hlk1:Hid ((names (s.gaps.take (k+1))).length=k+1):=names_len _ _ (by omega)
   have hx16:=H16.out (s.gaps[k]) (List.getElem_mem hkl)
   obtain⟨gk,hgk⟩:∃gk,s.gaps[k]=gk:=⟨_,rfl⟩
   rw[hgk]at d0 d1 d2 Htk hx16
   clear hgk
   obtain⟨xn,xl,xt⟩:=gk
   simp only[cellsG,List.getElem?_cons_zero,List.getElem?_cons_succ,Nat.add_zero]at d0 d1 d2 Htk hx16
   have hxw:IntKind.i64.wrap (xn:Int)=(xn:Int):=wrapI64 _ (by omega) (by omega)
   have HTk:=hyd Htk
   clear Htk
   go_wp2_with (at_builtin;(refine wpList_append_own _ rfl (.tmp 23) (.tmp 27) 34 rfl w.heap.size 3 i0 (.int .i64 0) 1 8 Tryz.underlying34 Hi.out.1 Hi.out.2.1 Hi.out.2.2.1 Hi.out.2.2.2 rfl (by decide) _ k ((names (s.gaps.take k)).map (Value.int .i64)) rfl (World.ownsRow.alloc (World.ownsRow.alloc Hown.out _) _) _ 1 1 [.int .i64 xn] rfl rfl (cell_one_at _ _ (by simp) _ _) ?_ ?_ ?_ ?_ ?_;(intro u hu;simp at hu;subst hu;rfl);(unfold maxLen;omega);omega;(simp;omega);intro v' w2 hown' hgrow _;refine stop_here ?_))
   refine hid_in ?_
   have R1:Hid (OwnInts w2 w.heap.size v' (names (s.gaps.take (k+1)))):=by
    show w2.ownsRow _ _ _ _ _ _
    rw[hlk1.out,HTk.out,List.map_append]
    exact hown'
   have R2:Hid (Below w.heap.size w w2):=((Hb.out.alloc Hb.out.size _).alloc (by simp;omega) _).grown hgrow (by simp;omega) (fun g hg=>(World.ownsRow.lt Hown.out g hg).1)
   clear hown' hgrow d0 d1 d2
   go_wp2
   go_roundw
   case rel=>exact⟨k+1,by omega,by go_num,R1.out,R2.out⟩
   case measure=>simp[intOf];omega
  ·have hlt':¬(k:Int)<n:=by omega
   have h:=Hown.out
   have e:k=n:=by omega
   have e2:s.gaps.take n=s.gaps:=List.take_of_length_le (by rw[Hnn.out];exact Nat.le_refl _)
   have e3:n=(names s.gaps).length:=by unfold names;rw[List.length_map,Hnn.out]
   rw[e,e2,e3]at h
   have R:=hyd h
   clear h e2 e3
   go_wp2
   go_ret
   exact⟨_,rfl,R.out,Hb.out⟩
theorem missing_any (ρ:Nat->Nat) (mb:Nat) (M:Md) (sv wv:Value) (SB WB:List (Nat × Value)) (source:Int) (w:World) (h:MdAt w ρ mb M sv wv SB WB) (hl:∀s∈M.sds,In16G s.gaps/\s.gaps.length<=99000) :
  Calls Tryz.prog 25 #[.pointer (some ⟨mb,0,none⟩),.int .i64 source] w fun e w'=>Below w.heap.size w w'/\
   ((sndPos M source=none/\e = .returned (.tuple #[.slice none 0 0,.int .i64 4]))\/∃i s v,sndPos M source=some i/\M.sds[i]? = some s/\e = .returned (.tuple #[v,.int .i64 0])/\OwnInts w' w.heap.size v (names s.gaps)):=by
 have H:=hyd h
 have Hl:=hyd hl
 clear h hl
 go_enter Tryz.func25,Tryz.ntmps25
 go_wp2_with fail
 refine(orNone_any mb _).mono ?_
 rintro e w1 ⟨rfl,hw1⟩
 rw[hw1]
 clear hw1 w1
 go_wp2_with fail
 refine(sender_any ρ mb M sv wv SB WB source _ H.out).mono ?_
 rintro e w1 ⟨hw1,⟨hp,rfl⟩|⟨i,p,s,hp,hSB,hs,-,rfl⟩⟩
 ·rw[hw1]
  have Hp:=hyd hp
  clear hw1 hp w1
  go_wp2
  go_ret2
  exact⟨Below.refl _ _,.inl ⟨Hp.out,rfl⟩⟩
 ·rw[hw1]
  have Hp:Hid (sndPos M source=some i/\M.sds[i]? = some s):=⟨hp,hs⟩
  have HS:Hid (SdAt w (p.1+1) p.1 p.2 s):=(H.out.sa i p s hSB hs).1
  have Hn:Hid (In16G s.gaps/\s.gaps.length<=99000):=Hl.out s (List.mem_of_getElem? hs)
  clear hw1 hp hs hSB w1
  unfold ptr
  go_wp2_with fail
  refine(missingS_any _ _ _ s _ HS.out Hn.out.1 Hn.out.2).mono ?_
  rintro e w2 ⟨v,rfl,ho,hb⟩
  have HO:=hyd ho
  have HB:=hyd hb
  obtain⟨a,c,rfl⟩:=ho.shape
  clear ho hb
  go_wp2
  go_ret2
  exact⟨HB.out,.inr ⟨i,s,_,Hp.out.1,Hp.out.2,rfl,HO.out⟩⟩
end Go.Proofs.YtdjhhnolcafkiaaGreat
namespace Go.Proofs.YtdjhhnolcafkiaaGreat
open Go.RowKit
namespace Pk
structure PMd (w0 w:World) (ρ:Nat->Nat) (rb s0 g cap q:Nat) (R:Rm) (sv cv tv:Value) (x:Rw) (sh:Int) (p:PP) (out:List ByteArray) (W:World):Prop where
 m:RMid w ρ rb { R with wns:=R.wns.set q { x with shift:=sh } } sv (.slice (some ⟨g,0,none⟩) R.wns.length cap) (fun b=>ρ b=1000+x.id.toNat\/ρ b=1\/ρ b=3) W
 p:PxAt s0 W p cv
 o:W.ownsRow w0.heap.size 9 1 tv out.length (out.map Value.string)
def PxS (s:Nat) (y:PP) (cv:Value) (W:World):Prop:=W.cell? ⟨s,0,none⟩=some (.bool y.mrk)/\W.cell? ⟨s,1,none⟩=some (.int .i64 y.ty)/\W.cell? ⟨s,2,none⟩=some (.int .i64 y.nu)/\W.cell? ⟨s,3,none⟩=some (.int .i64 y.ti)/\W.cell? ⟨s,4,none⟩=some (.int .i64 y.so)/\W.cell? ⟨s,5,none⟩=some cv/\W.cell? ⟨s,6,none⟩=some (.bool y.ex)/\W.cell? ⟨s,7,none⟩=some (.int .i64 y.pr)/\W.cell? ⟨s,8,none⟩=some (.string y.en)/\W.cell? ⟨s,9,none⟩=some (.string y.py)/\W.cell? ⟨s,10,none⟩=some (.int .i64 y.pa)
theorem PxAt.toS {s:Nat}{y:PP}{cv:Value}{W:World}(h:PxAt s W y cv):PxS s y cv W:=⟨h.k 0 _ rfl,h.k 1 _ rfl,h.k 2 _ rfl,h.k 3 _ rfl,h.k 4 _ rfl,h.k 5 _ rfl,h.k 6 _ rfl,h.k 7 _ rfl,h.k 8 _ rfl,h.k 9 _ rfl,h.k 10 _ rfl⟩
theorem sent_info:(Tryz.prog.info? 152).map (fun i=>(i.zero,i.size,i.bytes))=some (some (.agg #[.bool false,.int .i64 0,.int .i64 0,.int .i64 0,.int .i64 0,.slice none 0 0,.bool false,.int .i64 0,.string ⟨#[]⟩,.string ⟨#[]⟩,.int .i64 0,.int .i64 0]),12,128):=by kernel_rfl
section
variable {w0 w W W' : World} {ρ : Nat -> Nat} {rb s0 g cap q : Nat} {R : Rm} {sv cv tv : Value} {x : Rw} {sh : Int} {p : PP} {out : List ByteArray}
theorem PMd.chg {T:Nat->Prop}(h:PMd w0 w ρ rb s0 g cap q R sv cv tv x sh p out W) (hrm:ρ rb=1) (hc:Chg T W W') (hT:∀b,T b->(ρ b≠1/\ρ b≠2/\ρ b≠3)/\(b<w.heap.size->ρ b=1000+x.id.toNat)/\b≠s0/\tv.ownBlock≠some b):PMd w0 w ρ rb s0 g cap q R sv cv tv x sh p out W':=
 ⟨h.m.chg hrm hc (fun b hb=>(hT b hb).1) (fun b hl hb=>.inl ((hT b hb).2.1 hl)),h.p.chg hc (fun e=>(hT _ e).2.2.1 rfl),rowA_chg hc h.o (fun b hb e=>(hT b e).2.2.2 hb)⟩
theorem PMd.below (h:PMd w0 w ρ rb s0 g cap q R sv cv tv x sh p out W) (hrm:ρ rb=1) (hb:Below W.heap.size W W'):PMd w0 w ρ rb s0 g cap q R sv cv tv x sh p out W':=h.chg (T:=fun _=>False) hrm (Chg.ofBelow hb) (fun _ e=>e.elim)
theorem PMd.wc (h:PMd w0 w ρ rb s0 g cap q R sv cv tv x sh p out W) (hq:q<R.wns.length):(∀j u,(cRw { x with shift:=sh })[j]? = some u->W.cell? ⟨g,q*11+j,none⟩=some u)/\(∀o,W.frozen? ⟨g,o,none⟩=false)/\g<W.heap.size:=by
 have hr:=h.m.wr.1
 simp only[List.length_set]at hr
 refine⟨fun j u hj=>?_,fun o=>hr.frozenAt o,(hr.lt g rfl).2⟩
 have h11:j<11:=by have:=(List.getElem?_eq_some_iff.1 hj).1;rw[cRw_len]at this;exact this
 rw[hr.cellAt (q*11+j) (by omega),flat_at cRw_len _ q j (by simpa using hq) h11,List.getElem_set_self]
 exact hj
theorem PMd.start (h:RdAt w ρ rb R sv (.slice (some ⟨g,0,none⟩) R.wns.length cap)) (hx:R.wns[q]? = some x) (hp:PxAt s0 w p cv) (ho:w.ownsRow w0.heap.size 9 1 tv out.length (out.map Value.string)):PMd w0 w ρ rb s0 g cap q R sv cv tv x x.shift p out w:=by
 refine⟨?_,hp,ho⟩
 have hq:=(List.getElem?_eq_some_iff.1 hx).1
 have hxe:=(List.getElem?_eq_some_iff.1 hx).2
 have e:R.wns.set q { x with shift:=x.shift }=R.wns:=by
  show R.wns.set q x=R.wns
  rw[<-hxe]
  exact List.set_getElem_self hq
 rw[e]
 exact h.mid _
theorem PMd.shift (h:PMd w0 w ρ rb s0 g cap q R sv cv tv x sh p out W) (hrm:ρ rb=1) (hg:ρ g=3) (hq:q<R.wns.length) (h0:ρ s0=0) (ht:∀b,tv.ownBlock=some b->ρ b=0) (sh':Int):PMd w0 w ρ rb s0 g cap q R sv cv tv x sh' p out (W.setCell ⟨g,q*11+9,none⟩ (.int .i64 sh')):=by
 have hc:Chg (fun b=>b=g) W (W.setCell ⟨g,q*11+9,none⟩ (.int .i64 sh')):=(Chg.refl (fun b=>b=g) _).setCell ⟨g,q*11+9,none⟩ (.inl rfl) _
 have hset:=h.m.setW (i:=q) (g:=g) (cap:=cap) hrm (by simp only[List.length_set]) (.inl (.inr (.inr hg))) (by simp only[List.length_set];exact hq) 9 (by omega) (.int .i64 sh') { x with shift:=sh' } (by simp only[List.getElem_set_self];rfl)
 simp only[List.set_set]at hset
 exact⟨hset,h.p.chg hc (fun e=>by rw[e,hg]at h0;cases h0),rowA_chg hc h.o (fun b hb e=>by have:=ht b hb;rw[e,hg]at this;cases this)⟩
theorem PMd.done {av':Value}{s1:Nat}{y:PP}(h:PMd w0 w ρ rb s0 g cap q R sv cv tv x sh p out W) (h0:RdAt w ρ rb R sv (.slice (some ⟨g,0,none⟩) R.wns.length cap)) (hx:R.wns[q]? = some x) (hsh:rShift x p.nu=sh) (hs0:ρ s0=0) (hs0l:s0<w.heap.size) (ht:∀b,tv.ownBlock=some b->ρ b=0/\b<w.heap.size) (hcv:IsC (fun b=>ρ b=4) w cv p.cl)
  (hr:W.ownsRow 0 152 12 av' (x.all.length+1) ((x.all++[(⟨rPassX x p,cv,-1⟩:Re)]).flatMap cRe)) (ho:∀b,av'.ownBlock=some b->ρ b=1000+x.id.toNat\/w.heap.size<=b) (hy:PxAt s1 W y cv) (hs1:w.heap.size<=s1) (hav:av'.ownBlock≠some s1) :
  ∃ρ2,RdAt (W.setCell ⟨g,q*11+8,none⟩ av') ρ2 rb { R with wns:=R.wns.set q (rPassW x p cv av') } sv (.slice (some ⟨g,0,none⟩) R.wns.length cap)/\RMv w ρ (W.setCell ⟨g,q*11+8,none⟩ av') ρ2/\(W.setCell ⟨g,q*11+8,none⟩ av').ownsRow w0.heap.size 9 1 tv out.length (out.map Value.string)/\(∀b,tv.ownBlock=some b->ρ2 b=0)/\PxAt s0 (W.setCell ⟨g,q*11+8,none⟩ av') p cv/\IsC (fun b=>ρ2 b=4) (W.setCell ⟨g,q*11+8,none⟩ av') cv p.cl/\ρ2 s0=0/\PxAt s1 (W.setCell ⟨g,q*11+8,none⟩ av') y cv/\ρ2 s1=0:=by
 subst hsh
 have hg3:ρ g=3:=h0.wr.2 g rfl
 have hgl:g<w.heap.size:=(h0.wr.1.lt g rfl).2
 have hc:Chg (fun b=>b=g) W (W.setCell ⟨g,q*11+8,none⟩ av'):=(Chg.refl (fun b=>b=g) _).setCell ⟨g,q*11+8,none⟩ (.inl rfl) _
 obtain⟨a1,a2⟩:=h0.pass hx h.m hr ho hcv
 refine⟨_,a1,a2,rowA_chg hc h.o (fun b hb e=>by have:=(ht b hb).1;rw[e,hg3]at this;cases this),fun b hb=>a2.1 b (ht b hb).2 (ht b hb).1,h.p.chg hc (fun e=>by rw[e,hg3]at hs0;cases hs0),?_,a2.1 s0 hs0l hs0,hy.chg hc (fun e=>by omega),?_⟩
 ·have hC2:=(hcv.mono (C':=fun b=>ρ b=4/\b<w.heap.size) (fun b hb e=>⟨e,hb⟩)).chg h.m.c (fun b hb e=>by
   have:=hb.1
   rcases e with e|e|e<;>omega)
  refine(hC2.chg hc (fun b hb e=>by rw[e,hg3]at hb;omega)).mono (fun b _ e=>?_)
  rw[role_out (fun e'=>by
   have:=e.1
   rcases ho b e' with o|o<;>omega)]
  exact e.1
 ·rw[role_out hav]
  exact h0.hi s1 hs1
end
end Pk
namespace Pk
structure RS (w W:World) (x0 x1 x2 x3 x4 x5 x6 x7 x8 x9 x10:Value):Prop where
 bel:Below w.heap.size w W
 siz:w.heap.size+1+1<W.heap.size
 r0:W.cell? ⟨w.heap.size,0,none⟩=some (.bool false)
 r1:W.cell? ⟨w.heap.size,1,none⟩=some (.int .i64 0)
 r2:W.cell? ⟨w.heap.size,2,none⟩=some (.int .i64 0)
 r3:W.cell? ⟨w.heap.size,3,none⟩=some (.int .i64 0)
 r4:W.cell? ⟨w.heap.size,4,none⟩=some (.int .i64 0)
 r5:W.cell? ⟨w.heap.size,5,none⟩=some (.slice none 0 0)
 r6:W.cell? ⟨w.heap.size,6,none⟩=some (.bool false)
 r7:W.cell? ⟨w.heap.size,7,none⟩=some (.int .i64 0)
 r8:W.cell? ⟨w.heap.size,8,none⟩=some (.string ⟨#[]⟩)
 r9:W.cell? ⟨w.heap.size,9,none⟩=some (.string ⟨#[]⟩)
 r10:W.cell? ⟨w.heap.size,10,none⟩=some (.int .i64 0)
 n0:W.cell? ⟨w.heap.size+1,0,none⟩=some (.bool false)
 n1:W.cell? ⟨w.heap.size+1,1,none⟩=some (.int .i64 0)
 n2:W.cell? ⟨w.heap.size+1,2,none⟩=some (.int .i64 0)
 n3:W.cell? ⟨w.heap.size+1,3,none⟩=some (.int .i64 0)
 n4:W.cell? ⟨w.heap.size+1,4,none⟩=some (.int .i64 0)
 n5:W.cell? ⟨w.heap.size+1,5,none⟩=some (.slice none 0 0)
 n6:W.cell? ⟨w.heap.size+1,6,none⟩=some (.bool false)
 n7:W.cell? ⟨w.heap.size+1,7,none⟩=some (.int .i64 0)
 n8:W.cell? ⟨w.heap.size+1,8,none⟩=some (.string ⟨#[]⟩)
 n9:W.cell? ⟨w.heap.size+1,9,none⟩=some (.string ⟨#[]⟩)
 n10:W.cell? ⟨w.heap.size+1,10,none⟩=some (.int .i64 0)
 y0:W.cell? ⟨w.heap.size+1+1,0,none⟩=some x0
 y1:W.cell? ⟨w.heap.size+1+1,1,none⟩=some x1
 y2:W.cell? ⟨w.heap.size+1+1,2,none⟩=some x2
 y3:W.cell? ⟨w.heap.size+1+1,3,none⟩=some x3
 y4:W.cell? ⟨w.heap.size+1+1,4,none⟩=some x4
 y5:W.cell? ⟨w.heap.size+1+1,5,none⟩=some x5
 y6:W.cell? ⟨w.heap.size+1+1,6,none⟩=some x6
 y7:W.cell? ⟨w.heap.size+1+1,7,none⟩=some x7
 y8:W.cell? ⟨w.heap.size+1+1,8,none⟩=some x8
 y9:W.cell? ⟨w.heap.size+1+1,9,none⟩=some x9
 y10:W.cell? ⟨w.heap.size+1+1,10,none⟩=some x10
 fr:∀o,W.frozen? ⟨w.heap.size,o,none⟩=false
 fy:∀o,W.frozen? ⟨w.heap.size+1+1,o,none⟩=false
theorem RS.below {w W:World}{x0 x1 x2 x3 x4 x5 x6 x7 x8 x9 x10:Value}{W':World}(h:RS w W x0 x1 x2 x3 x4 x5 x6 x7 x8 x9 x10) (hb:Below (w.heap.size+1+1+1) W W'):RS w W' x0 x1 x2 x3 x4 x5 x6 x7 x8 x9 x10:=by
 have hs:=h.siz
 obtain⟨a1,a2⟩:=kept_below hb w.heap.size (by omega)
 obtain⟨b1,_⟩:=kept_below hb (w.heap.size+1) (by omega)
 obtain⟨c1,c2⟩:=kept_below hb (w.heap.size+1+1) (by omega)
 exact⟨h.bel.trans (hb.mono (by omega)),by have:=hb.size;omega,(a1 0).trans h.r0,(a1 1).trans h.r1,(a1 2).trans h.r2,(a1 3).trans h.r3,(a1 4).trans h.r4,(a1 5).trans h.r5,(a1 6).trans h.r6,(a1 7).trans h.r7,(a1 8).trans h.r8,(a1 9).trans h.r9,(a1 10).trans h.r10,(b1 0).trans h.n0,(b1 1).trans h.n1,(b1 2).trans h.n2,(b1 3).trans h.n3,(b1 4).trans h.n4,(b1 5).trans h.n5,(b1 6).trans h.n6,(b1 7).trans h.n7,(b1 8).trans h.n8,(b1 9).trans h.n9,(b1 10).trans h.n10,(c1 0).trans h.y0,(c1 1).trans h.y1,(c1 2).trans h.y2,(c1 3).trans h.y3,(c1 4).trans h.y4,(c1 5).trans h.y5,(c1 6).trans h.y6,(c1 7).trans h.y7,(c1 8).trans h.y8,(c1 9).trans h.y9,(c1 10).trans h.y10,fun o=>(a2 o).trans (h.fr o),fun o=>(c2 o).trans (h.fy o)⟩
theorem RS.set5 {w W:World}{x0 x1 x2 x3 x4 x5 x6 x7 x8 x9 x10:Value}(h:RS w W x0 x1 x2 x3 x4 x5 x6 x7 x8 x9 x10) (v:Value):RS w (W.setCell ⟨w.heap.size+1+1,5,none⟩ v) x0 x1 x2 x3 x4 v x6 x7 x8 x9 x10:=
 ⟨h.bel.setCell (by simp<;>omega) _,by have:=h.siz;simpa using this,cso h.r0,cso h.r1,cso h.r2,cso h.r3,cso h.r4,cso h.r5,cso h.r6,cso h.r7,cso h.r8,cso h.r9,cso h.r10,cso h.n0,cso h.n1,cso h.n2,cso h.n3,cso h.n4,cso h.n5,cso h.n6,cso h.n7,cso h.n8,cso h.n9,cso h.n10,cso h.y0,cso h.y1,cso h.y2,cso h.y3,cso h.y4,World.cell?_setCell_same _ _ _ h.y5,cso h.y6,cso h.y7,cso h.y8,cso h.y9,cso h.y10,fun o=>cfo (h.fr o),fun o=>cfo (h.fy o)⟩
theorem RS.set6 {w W:World}{x0 x1 x2 x3 x4 x5 x6 x7 x8 x9 x10:Value}(h:RS w W x0 x1 x2 x3 x4 x5 x6 x7 x8 x9 x10) (v:Value):RS w (W.setCell ⟨w.heap.size+1+1,6,none⟩ v) x0 x1 x2 x3 x4 x5 v x7 x8 x9 x10:=
 ⟨h.bel.setCell (by simp<;>omega) _,by have:=h.siz;simpa using this,cso h.r0,cso h.r1,cso h.r2,cso h.r3,cso h.r4,cso h.r5,cso h.r6,cso h.r7,cso h.r8,cso h.r9,cso h.r10,cso h.n0,cso h.n1,cso h.n2,cso h.n3,cso h.n4,cso h.n5,cso h.n6,cso h.n7,cso h.n8,cso h.n9,cso h.n10,cso h.y0,cso h.y1,cso h.y2,cso h.y3,cso h.y4,cso h.y5,World.cell?_setCell_same _ _ _ h.y6,cso h.y7,cso h.y8,cso h.y9,cso h.y10,fun o=>cfo (h.fr o),fun o=>cfo (h.fy o)⟩
theorem RS.set7 {w W:World}{x0 x1 x2 x3 x4 x5 x6 x7 x8 x9 x10:Value}(h:RS w W x0 x1 x2 x3 x4 x5 x6 x7 x8 x9 x10) (v:Value):RS w (W.setCell ⟨w.heap.size+1+1,7,none⟩ v) x0 x1 x2 x3 x4 x5 x6 v x8 x9 x10:=
 ⟨h.bel.setCell (by simp<;>omega) _,by have:=h.siz;simpa using this,cso h.r0,cso h.r1,cso h.r2,cso h.r3,cso h.r4,cso h.r5,cso h.r6,cso h.r7,cso h.r8,cso h.r9,cso h.r10,cso h.n0,cso h.n1,cso h.n2,cso h.n3,cso h.n4,cso h.n5,cso h.n6,cso h.n7,cso h.n8,cso h.n9,cso h.n10,cso h.y0,cso h.y1,cso h.y2,cso h.y3,cso h.y4,cso h.y5,cso h.y6,World.cell?_setCell_same _ _ _ h.y7,cso h.y8,cso h.y9,cso h.y10,fun o=>cfo (h.fr o),fun o=>cfo (h.fy o)⟩
theorem RS.set8 {w W:World}{x0 x1 x2 x3 x4 x5 x6 x7 x8 x9 x10:Value}(h:RS w W x0 x1 x2 x3 x4 x5 x6 x7 x8 x9 x10) (v:Value):RS w (W.setCell ⟨w.heap.size+1+1,8,none⟩ v) x0 x1 x2 x3 x4 x5 x6 x7 v x9 x10:=
 ⟨h.bel.setCell (by simp<;>omega) _,by have:=h.siz;simpa using this,cso h.r0,cso h.r1,cso h.r2,cso h.r3,cso h.r4,cso h.r5,cso h.r6,cso h.r7,cso h.r8,cso h.r9,cso h.r10,cso h.n0,cso h.n1,cso h.n2,cso h.n3,cso h.n4,cso h.n5,cso h.n6,cso h.n7,cso h.n8,cso h.n9,cso h.n10,cso h.y0,cso h.y1,cso h.y2,cso h.y3,cso h.y4,cso h.y5,cso h.y6,cso h.y7,World.cell?_setCell_same _ _ _ h.y8,cso h.y9,cso h.y10,fun o=>cfo (h.fr o),fun o=>cfo (h.fy o)⟩
theorem RS.set9 {w W:World}{x0 x1 x2 x3 x4 x5 x6 x7 x8 x9 x10:Value}(h:RS w W x0 x1 x2 x3 x4 x5 x6 x7 x8 x9 x10) (v:Value):RS w (W.setCell ⟨w.heap.size+1+1,9,none⟩ v) x0 x1 x2 x3 x4 x5 x6 x7 x8 v x10:=
 ⟨h.bel.setCell (by simp<;>omega) _,by have:=h.siz;simpa using this,cso h.r0,cso h.r1,cso h.r2,cso h.r3,cso h.r4,cso h.r5,cso h.r6,cso h.r7,cso h.r8,cso h.r9,cso h.r10,cso h.n0,cso h.n1,cso h.n2,cso h.n3,cso h.n4,cso h.n5,cso h.n6,cso h.n7,cso h.n8,cso h.n9,cso h.n10,cso h.y0,cso h.y1,cso h.y2,cso h.y3,cso h.y4,cso h.y5,cso h.y6,cso h.y7,cso h.y8,World.cell?_setCell_same _ _ _ h.y9,cso h.y10,fun o=>cfo (h.fr o),fun o=>cfo (h.fy o)⟩
theorem RS.set10 {w W:World}{x0 x1 x2 x3 x4 x5 x6 x7 x8 x9 x10:Value}(h:RS w W x0 x1 x2 x3 x4 x5 x6 x7 x8 x9 x10) (v:Value):RS w (W.setCell ⟨w.heap.size+1+1,10,none⟩ v) x0 x1 x2 x3 x4 x5 x6 x7 x8 x9 v:=
 ⟨h.bel.setCell (by simp<;>omega) _,by have:=h.siz;simpa using this,cso h.r0,cso h.r1,cso h.r2,cso h.r3,cso h.r4,cso h.r5,cso h.r6,cso h.r7,cso h.r8,cso h.r9,cso h.r10,cso h.n0,cso h.n1,cso h.n2,cso h.n3,cso h.n4,cso h.n5,cso h.n6,cso h.n7,cso h.n8,cso h.n9,cso h.n10,cso h.y0,cso h.y1,cso h.y2,cso h.y3,cso h.y4,cso h.y5,cso h.y6,cso h.y7,cso h.y8,cso h.y9,World.cell?_setCell_same _ _ _ h.y10,fun o=>cfo (h.fr o),fun o=>cfo (h.fy o)⟩
theorem RS.init (w:World) (t:TypeId) (p0 p1 p2 p3 p4 p5 p6 p7 p8 p9 p10:Value) :
  RS w ((((w.alloc (.cells #[.bool false,.int .i64 0,.int .i64 0,.int .i64 0,.int .i64 0,.slice none 0 0,.bool false,.int .i64 0,.string ⟨#[]⟩,.string ⟨#[]⟩,.int .i64 0] t)).alloc (.cells #[.bool false,.int .i64 0,.int .i64 0,.int .i64 0,.int .i64 0,.slice none 0 0,.bool false,.int .i64 0,.string ⟨#[]⟩,.string ⟨#[]⟩,.int .i64 0] t)).alloc (.cells #[p0,p1,p2,p3,p4,p5,p6,p7,p8,p9,p10] t)).drew) p0 p1 p2 p3 p4 p5 p6 p7 p8 p9 p10:=by
 refine⟨((((Below.refl _ _).alloc (Nat.le_refl _) _).alloc (by simp) _).alloc (by simp;omega) _).drew,by simp,?_,?_,?_,?_,?_,?_,?_,?_,?_,?_,?_,?_,?_,?_,?_,?_,?_,?_,?_,?_,?_,?_,?_,?_,?_,?_,?_,?_,?_,?_,?_,?_,?_,?_,?_⟩
 all_goals first|(intro o;simp[go_sem];done)|(simp[go_sem];done)|go_simp
theorem words_get (n:Nat):∀l:List UInt8,l.length=4*n->∀k,k<n->(words l).getD k 0=(num ((l.drop (4*k)).take 4):Int):=by
 induction n with
 | zero=>intro l _ k hk;omega
 | succ n ih=>
  intro l h k hk
  rw[words_step l (by omega)]
  cases k with
  | zero=>simp
  | succ k=>
   rw[List.getD_cons_succ,ih (l.drop 4) (by rw[List.length_drop];omega) k (by omega),List.drop_drop]
   congr 4
   omega
end Pk
open Pk
theorem refNumber_at (s:ByteArray) (a n:Int) (a' n':Nat) (w:World) (hs:s.size<=1500) (ha:a=a') (hn:n=n') (h4:n'<=4) (hl:a'+n'<=s.size) :
  Calls Tryz.prog 82 #[.string s,.int .i64 a,.int .i64 n] w fun e w'=>e = .returned (.int .i64 (num ((s.data.toList.drop a').take n')))/\w'=w:=by
 subst ha hn
 exact refNumber_any s a' n' w (by unfold maxLen;omega) h4 hl
theorem refBit_at (B k:Int) (B' k':Nat) (w:World) (hB:B=B') (hk:k=k') (h1:B'<=255) (h2:k'<=16) :
  Calls Tryz.prog 83 #[.int .i64 B,.int .i64 k] w fun e w'=>e = .returned (.bool (decide (B'/2 ^ k'%2=1)))/\w'=w:=by
 subst hB hk
 exact refBit_any B' k' w (by omega) h2
end Go.Proofs.YtdjhhnolcafkiaaGreat
namespace Go.Proofs.YtdjhhnolcafkiaaGreat
open Go.RowKit Pk
set_option maxRecDepth 100000 in
theorem rp_short (s:ByteArray) (w:World) (hs:s.size<12) :
  Calls Tryz.prog 55 #[.string s] w fun e w'=>Below w.heap.size w w'/\ReadAs (readP s) w.heap.size e w':=by
 have hi:(s.size:Int)<12:=by omega
 have HR:Hid (readP s=none):=readP_bad s (by unfold bad1;exact decide_eq_true (.inl hs))
 go_enter Tryz.func55,Tryz.ntmps55
 go_wp2
 refine bodyPost_ret (v:=wrongV) (by simp[results,Tryz.results55,wrongV,go_sem]) rfl ⟨?_,?_⟩
 ·exact((Below.refl _ _).alloc (Nat.le_refl _) _).alloc (by simp) _
 ·rw[HR.out]
  rfl
set_option maxRecDepth 100000 in
theorem rp_long (s:ByteArray) (w:World) (hs:1500<s.size) (hs2:s.size<=maxLen) :
  Calls Tryz.prog 55 #[.string s] w fun e w'=>Below w.heap.size w w'/\ReadAs (readP s) w.heap.size e w':=by
 unfold maxLen at hs2
 have hi:(1500:Int)<s.size:=by omega
 have HR:Hid (readP s=none):=readP_bad s (by unfold bad1;exact decide_eq_true (.inr (.inl hs)))
 go_enter Tryz.func55,Tryz.ntmps55
 go_wp2
 refine bodyPost_ret (v:=wrongV) (by simp[results,Tryz.results55,wrongV,go_sem]) rfl ⟨?_,?_⟩
 ·exact((Below.refl _ _).alloc (Nat.le_refl _) _).alloc (by simp) _
 ·rw[HR.out]
  rfl
set_option maxRecDepth 100000 in
theorem rp_mark (s:ByteArray) (w:World) (hs:12<=s.size) (hs2:s.size<=1500) (hm:(B0 s).toNat/64≠2) :
  Calls Tryz.prog 55 #[.string s] w fun e w'=>Below w.heap.size w w'/\ReadAs (readP s) w.heap.size e w':=by
 have hi:(12:Int)<=s.size:=by omega
 have hi2:(s.size:Int)<=1500:=by omega
 have i0:(0:Int)<s.size:=by omega
 have j0:∀W:World,(Instr.index 9 (.string s) (.int .i64 0)).run Tryz.prog W = .ok (.int .u8 ((B0 s).toNat:Int)) W:=fun W=>by
  rw[run_index_string W 9 s .i64 0 Tryz.underlying9,dif_pos ⟨by omega,i0⟩,<-get0 s (by omega)];rfl
 have hb:=(B0 s).toNat_lt
 have HR:Hid (readP s=none):=readP_bad s (by unfold bad1;exact decide_eq_true (.inr (.inr hm)))
 by_cases hlo:(B0 s).toNat<128
 ·have hlo':((B0 s).toNat:Int)<128:=by omega
  go_enter Tryz.func55,Tryz.ntmps55
  go_wp2
  refine bodyPost_ret (v:=wrongV) (by simp[results,Tryz.results55,wrongV,go_sem]) rfl ⟨?_,?_⟩
  ·exact((Below.refl _ _).alloc (Nat.le_refl _) _).alloc (by simp) _
  ·rw[HR.out]
   rfl
 ·have hlo':¬((B0 s).toNat:Int)<128:=by omega
  have hhi:(191:Int)<((B0 s).toNat:Int):=by omega
  go_enter Tryz.func55,Tryz.ntmps55
  go_wp2
  refine bodyPost_ret (v:=wrongV) (by simp[results,Tryz.results55,wrongV,go_sem]) rfl ⟨?_,?_⟩
  ·exact((Below.refl _ _).alloc (Nat.le_refl _) _).alloc (by simp) _
  ·rw[HR.out]
   rfl
set_option maxRecDepth 100000 in
theorem rp_at (s:ByteArray) (w:World) (hs:12<=s.size) (hs2:s.size<=1500) (hm:(B0 s).toNat/64=2) (hat:s.size<at0 s) :
  Calls Tryz.prog 55 #[.string s] w fun e w'=>Below w.heap.size w w'/\ReadAs (readP s) w.heap.size e w':=by
 have hi:(12:Int)<=s.size:=by omega
 have hi2:(s.size:Int)<=1500:=by omega
 have i0:(0:Int)<s.size:=by omega
 have hbad:bad1 s=false:=by unfold bad1;exact decide_eq_false (by omega)
 have HR:Hid (readP s=none):=readP_at s hbad hat
 clear hbad
 have j0:∀W:World,(Instr.index 9 (.string s) (.int .i64 0)).run Tryz.prog W = .ok (.int .u8 ((B0 s).toNat:Int)) W:=fun W=>by
  rw[run_index_string W 9 s .i64 0 Tryz.underlying9,dif_pos ⟨by omega,i0⟩,<-get0 s (by omega)];rfl
 have hlo:¬((B0 s).toNat:Int)<128:=by omega
 have hhi:¬(191:Int)<((B0 s).toNat:Int):=by omega
 obtain⟨A,hA⟩:∃A,A=at0 s:=⟨_,rfl⟩
 have hA1:(12+4*(((B0 s).toNat:Int)%16))=(A:Int):=by rw[hA];unfold at0;omega
 have hA2:(s.size:Int)<A:=by rw[hA];omega
 have hA3:12<=A/\A<=72:=by rw[hA];unfold at0;omega
 clear hm hat hA
 go_enter Tryz.func55,Tryz.ntmps55
 go_wp2
 refine bodyPost_ret (v:=wrongV) (by simp[results,Tryz.results55,wrongV,go_sem]) rfl ⟨?_,?_⟩
 ·exact((Below.refl _ _).alloc (Nat.le_refl _) _).alloc (by simp) _
 ·rw[HR.out]
  rfl
end Go.Proofs.YtdjhhnolcafkiaaGreat
