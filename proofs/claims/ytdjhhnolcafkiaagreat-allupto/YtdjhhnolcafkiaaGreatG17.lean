import Derived.Test.YtdjhhnolcafkiaaGreatG15
import Derived.Test.YtdjhhnolcafkiaaGreatG09
import Derived.Test.YtdjhhnolcafkiaaGreatG07
import Derived.Test.YtdjhhnolcafkiaaGreatG01
import Derived.Test.YtdjhhnolcafkiaaGreatG12
import Derived.Deep.RegionHeld
import Derived.Deep.QuietTactic
import Derived.BigQuiet
import Derived.Outline
import Derived.Test.YtdjhhnolcafkiaaGreatG13
import Derived.Test.YtdjhhnolcafkiaaGreatG03
import Derived.Test.YtdjhhnolcafkiaaGreatG16
set_option linter.unusedVariables false
set_option linter.unusedSimpArgs false
set_option maxHeartbeats 40000000
set_option maxRecDepth 20000
namespace Go.Proofs.YtdjhhnolcafkiaaGreat
open Go.RowKit Pk
theorem samePacket_any (mk ex:Bool) (ty nu ti so pr pa:Int) (v1 v2:Value) (cl:List Int) (en py:ByteArray) (w:World) (h1:IsInts w.heap.size w v1 cl) (h2:IsInts w.heap.size w v2 cl) (hl:cl.length<=17592186044416) :
  Calls Tryz.prog 56 #[.agg #[.bool mk,.int .i64 ty,.int .i64 nu,.int .i64 ti,.int .i64 so,v1,.bool ex,.int .i64 pr,.string en,.string py,.int .i64 pa],.agg #[.bool mk,.int .i64 ty,.int .i64 nu,.int .i64 ti,.int .i64 so,v2,.bool ex,.int .i64 pr,.string en,.string py,.int .i64 pa]] w
   fun e w'=>e = .returned (.bool true)/\Below w.heap.size w w':=by
 have H1:Hid (∀o o',IsInts w.heap.size ((w.alloc o).alloc o') v1 cl):=fun o o'=>(h1.alloc (Nat.le_refl _) o).alloc (by simp) o'
 have H2:Hid (∀o o',IsInts w.heap.size ((w.alloc o).alloc o') v2 cl):=fun o o'=>(h2.alloc (Nat.le_refl _) o).alloc (by simp) o'
 obtain⟨a1,c1,rfl,_⟩:=h1
 obtain⟨a2,c2,rfl,_⟩:=h2
 go_enter Tryz.func56,Tryz.ntmps56
 go_wp2_with fail
 refine(sameNumbers_any w.heap.size _ _ cl cl _ (H1.out _ _) (H2.out _ _) hl hl).mono ?_
 rintro e w1 ⟨rfl,n,rfl⟩
 rw[decide_eq_true (rfl:cl=cl)]
 go_wp2
 go_ret
 exact⟨rfl,below_drewN (((Below.refl _ _).alloc (Nat.le_refl _) _).alloc (by simp) _) _⟩
end Go.Proofs.YtdjhhnolcafkiaaGreat
namespace Go.Proofs.YtdjhhnolcafkiaaGreat
open Go.RowKit
namespace Pk
def zP:PP:=⟨false,false,0,0,0,0,0,0,[],⟨#[]⟩,⟨#[]⟩⟩
def errP (r:Option PP):Int:=if r.isSome then 0 else 1
def tupV (x:PP) (v:Value) (e:Int):Value:=.tuple #[.agg #[.bool x.mrk,.int .i64 x.ty,.int .i64 x.nu,.int .i64 x.ti,.int .i64 x.so,v,.bool x.ex,.int .i64 x.pr,.string x.en,.string x.py,.int .i64 x.pa],.int .i64 e]
theorem read_one {r:Option PP}{B:Nat}{e:Ending}{w:World}(h:ReadAs r B e w):∃v,e = .returned (tupV (r.getD zP) v (errP r))/\OwnInts w B v (r.getD zP).cl:=by
 cases r with
 | none=>exact⟨.slice none 0 0,h,World.ownsRow_nil _ _ _ _⟩
 | some x=>
  obtain⟨v,he,ho⟩:=h
  exact⟨v,he,ho⟩
theorem readP_cl (s:ByteArray):((readP s).getD zP).cl.length<=15:=by
 unfold readP
 split
 ·exact Nat.zero_le _
 ·split
  ·exact Nat.zero_le _
  ·rename_i h1 h2
   cases he:extPart s with
   | none=>exact Nat.zero_le _
   | some x=>
    simp only[Option.bind_some]
    cases hp:padPart s x.2.2 with
    | none=>exact Nat.zero_le _
    | some y=>
     show(words (s.extract 12 (at0 s)).data.toList).length<=15
     rw[words_length ((B0 s).toNat%16) _ (by rw[<-Lib.size_eq,ByteArray.size_extract];unfold at0 at h2 ⊢;omega)]
     omega
structure Bx (W:World) (b:Nat) (mk ex:Bool) (ty nu ti so pr pa:Int) (v:Value) (en py:ByteArray):Prop where
 x0:W.cell? ⟨b,0,none⟩=some (.bool mk)
 x1:W.cell? ⟨b,1,none⟩=some (.int .i64 ty)
 x2:W.cell? ⟨b,2,none⟩=some (.int .i64 nu)
 x3:W.cell? ⟨b,3,none⟩=some (.int .i64 ti)
 x4:W.cell? ⟨b,4,none⟩=some (.int .i64 so)
 x5:W.cell? ⟨b,5,none⟩=some (v)
 x6:W.cell? ⟨b,6,none⟩=some (.bool ex)
 x7:W.cell? ⟨b,7,none⟩=some (.int .i64 pr)
 x8:W.cell? ⟨b,8,none⟩=some (.string en)
 x9:W.cell? ⟨b,9,none⟩=some (.string py)
 x10:W.cell? ⟨b,10,none⟩=some (.int .i64 pa)
theorem Bx.new (w:World) (t:TypeId) (mk ex:Bool) (ty nu ti so pr pa:Int) (v:Value) (en py:ByteArray):Bx (w.alloc (.cells #[.bool mk,.int .i64 ty,.int .i64 nu,.int .i64 ti,.int .i64 so,v,.bool ex,.int .i64 pr,.string en,.string py,.int .i64 pa] t)) w.heap.size mk ex ty nu ti so pr pa v en py:=by
 constructor
 all_goals first|(simp[go_sem];done)|go_simp
theorem Bx.chg {T:Nat->Prop}{W W':World}{b:Nat}{mk ex:Bool}{ty nu ti so pr pa:Int}{v:Value}{en py:ByteArray}(h:Bx W b mk ex ty nu ti so pr pa v en py) (hc:Chg T W W') (hn:¬T b):Bx W' b mk ex ty nu ti so pr pa v en py:=
 ⟨hc.cell h.x0 hn,hc.cell h.x1 hn,hc.cell h.x2 hn,hc.cell h.x3 hn,hc.cell h.x4 hn,hc.cell h.x5 hn,hc.cell h.x6 hn,hc.cell h.x7 hn,hc.cell h.x8 hn,hc.cell h.x9 hn,hc.cell h.x10 hn⟩
theorem Bx.below {W W':World}{b:Nat}{mk ex:Bool}{ty nu ti so pr pa:Int}{v:Value}{en py:ByteArray}(h:Bx W b mk ex ty nu ti so pr pa v en py) (hb:Below W.heap.size W W'):Bx W' b mk ex ty nu ti so pr pa v en py:=
 h.chg (T:=fun _=>False) (Chg.ofBelow hb) (fun e=>e)
theorem Bx.lt {W:World}{b:Nat}{mk ex:Bool}{ty nu ti so pr pa:Int}{v:Value}{en py:ByteArray}(h:Bx W b mk ex ty nu ti so pr pa v en py):b<W.heap.size:=lt_of_cell h.x0
end Pk
open Pk
end Go.Proofs.YtdjhhnolcafkiaaGreat
namespace Go.Proofs.YtdjhhnolcafkiaaGreat
open Go.RowKit
namespace Pk
theorem OwnAsks.at {W:World}{base n cap:Nat}{ao:Option Addr}{xs:List Ask1}(h:OwnAsks W base (.slice ao n cap) xs) (k:Nat) (hk:k<xs.length) :
  ∃g,ao=some ⟨g,0,none⟩/\g<W.heap.size/\W.cell? ⟨g,k*3,none⟩=some (.int .i64 (xs[k]).a)/\W.cell? ⟨g,k*3+1,none⟩=some (.int .i64 (xs[k]).b)/\W.cell? ⟨g,k*3+2,none⟩=some (xs[k]).v/\OwnInts W base (xs[k]).v (xs[k]).l:=by
 obtain⟨a',c',e⟩:=rowA_shape h.row
 simp only[Value.slice.injEq]at e
 obtain⟨rfl,hn,rfl⟩:=e
 have hr:=h.row
 rw[hn]at hr
 obtain⟨g,rfl⟩:=rowA_some hr (by omega)
 obtain⟨f0,f1⟩:=flatA_at0 xs k hk
 have f2:=flatA_at xs k hk
 exact⟨g,rfl,(hr.lt g rfl).2,(hr.cellAt (k*3) (by omega)).trans f0,(hr.cellAt (k*3+1) (by omega)).trans f1,(hr.cellAt (k*3+2) (by omega)).trans f2,(h.each k _ (List.getElem?_eq_getElem hk)).1⟩
theorem mapA_at {xs ys:List Ask1}(h:mapA xs=mapA ys):xs.length=ys.length/\∀k (h1:k<xs.length) (h2:k<ys.length),(xs[k]).a=(ys[k]).a/\(xs[k]).b=(ys[k]).b/\(xs[k]).l=(ys[k]).l:=by
 unfold mapA at h
 have hl:xs.length=ys.length:=by simpa using congrArg List.length h
 refine⟨hl,fun k h1 h2=>?_⟩
 have:=List.getElem_of_eq h (i:=k) (by simpa using h1)
 simpa using this
theorem OwnAsks.drewN {W:World}{base:Nat}{lv:Value}{xs:List Ask1}(h:OwnAsks W base lv xs) (n:Nat):OwnAsks (W.drewN n) base lv xs:=
 ⟨rowA_chg (Chg.ofBelow (T:=fun _=>False) (below_drewN (Below.refl _ _) n)) h.row (fun _ _ e=>e),fun i x hx=>⟨(h.each i x hx).1.below (below_drewN (Below.refl _ _) n),(h.each i x hx).2⟩,h.apart,h.out⟩
end Pk
open Pk
theorem sameAskings_any (B1 B2:Nat) (v1 v2:Value) (xs ys:List Ask1) (w:World) (h1:OwnAsks w B1 v1 xs) (h2:OwnAsks w B2 v2 ys) (hm:mapA xs=mapA ys) (hl:xs.length<=400) :
  Calls Tryz.prog 59 #[v1,v2] w fun e w'=>e = .returned (.bool true)/\∃n,w'=w.drewN n:=by
 obtain⟨hll,hat⟩:=mapA_at hm
 obtain⟨a1,c1,rfl⟩:=rowA_shape h1.row
 obtain⟨a2,c2,rfl⟩:=rowA_shape h2.row
 rw[<-hll]at h2 ⊢
 have H1:=hyd h1
 have H2:=hyd h2
 have Hat:=hyd hat
 have Hll:=hyd hll
 clear h1 h2 hm hll hat
 go_enter Tryz.func59,Tryz.ntmps59
 go_wp2
 go_loopw [5,6] (fun s5 s6 wr=>∃(k q:Nat),k<=xs.length/\s5 = .bool true/\s6 = .int .i64 k/\wr=w.drewN q) (fun _ s6 _=>xs.length-(intOf s6).toNat)
 case atStart=>exact⟨0,0,Nat.zero_le _,by simp,rfl,rfl⟩
 case round=>
  obtain⟨k,q,hk,rfl,rfl,rfl⟩:=hrel
  by_cases hlt:k<xs.length
  ·have hlt':(k:Int)<xs.length:=by omega
   obtain⟨g1,rfl,hg1,x0,x1,x2,xo⟩:=H1.out.at k hlt
   obtain⟨g2,rfl,hg2,y0,y1,y2,yo⟩:=H2.out.at k (by have:=Hll.out;omega)
   obtain⟨e1,e2,e3⟩:=Hat.out k hlt (by have:=Hll.out;omega)
   rw[<-e1]at y0
   rw[<-e2]at y1
   rw[<-e3]at yo
   have hbl:=(H1.out.each k _ (List.getElem?_eq_getElem hlt)).2
   generalize (xs[k]).a=sa at *
   generalize (xs[k]).b=sb at *
   generalize (xs[k]).l=li at *
   generalize (xs[k]).v=va at *
   generalize (ys[k]'_).v=vb at *
   obtain⟨b1,d1,rfl⟩:=xo.shape
   obtain⟨b2,d2,rfl⟩:=yo.shape
   have I1:Hid (∀n,IsInts w.heap.size (w.drewN n) (.slice b1 li.length d1) li):=fun n=>xo.isInts.carry (below_drewN (Below.refl _ _) n)
   have I2:Hid (∀n,IsInts w.heap.size (w.drewN n) (.slice b2 li.length d2) li):=fun n=>yo.isInts.carry (below_drewN (Below.refl _ _) n)
   clear xo yo e1 e2 e3
   go_wp2
   refine wp_region_noPanic ?_
   refine wp_region_held_drew (S:=fun W=>W.cell? ⟨g1,k*3+2,none⟩=some (.slice b1 li.length d1)/\W.cell? ⟨g2,k*3+2,none⟩=some (.slice b2 li.length d2)) (by kernel_rfl) (by simp only[World.drew];exact⟨x2,y2⟩) (fun zH=>?_)
   refine tka 0 ?_
   refine tka 1 ?_
   refine tka 2 ?_
   refine tka 3 ?_
   refine tka 4 ?_
   refine tka 5 ?_
   refine tka 6 ?_
   refine tka 7 ?_
   refine tka 8 ?_
   refine tka 9 ?_
   refine rd1 10 fun K hK=>?_
   go_simp
   refine(sameNumbers_any w.heap.size _ _ li li _ (I1.out _) (I2.out _) (by omega) (by omega)).mono ?_
   rintro e w1 ⟨rfl,n,rfl⟩
   rw[decide_eq_true rfl]
   go_wp2_with fail
   refine hK.out _ _ (by simp only[World.cell?_drewN];exact⟨x2,y2⟩) (fun zH=>?_)
   clear hK K
   refine tka 11 ?_
   refine doN ?_
   go_wp2
   go_quiet (fail)
   go_wp2
   go_roundw
   case rel=>exact⟨k+1,_,by omega,rfl,by go_num,rfl⟩
   case measure=>simp[intOf];omega
  ·have hlt':¬(k:Int)<xs.length:=by omega
   go_wp2
   go_ret
   exact⟨rfl,_,rfl⟩
end Go.Proofs.YtdjhhnolcafkiaaGreat
namespace Go.Proofs.YtdjhhnolcafkiaaGreat
open Go.RowKit
namespace Pk
def errR (r:Option (List (Nat × Nat × List Int))):Int:=if r.isSome then 0 else 1
theorem rep_as {r:Option (List (Nat × Nat × List Int))}{B:Nat}{e:Ending}{w:World}(h:RepAs r B e w):∃lv xs,e = .returned (.tuple #[lv,.int .i64 (errR r)])/\OwnAsks w B lv xs/\mapA xs=mapN (r.getD []):=by
 cases r with
 | none=>exact⟨.slice none 0 0,[],h,OwnAsks.nil _ _,rfl⟩
 | some x=>
  obtain⟨lv,xs,he,ho,hm⟩:=h
  exact⟨lv,xs,he,ho,hm⟩
theorem partsL_len:∀(n:Nat) (l:List UInt8) (L:List (Nat × Nat × List Int)),partsR n l=some L->16*L.length<=l.length:=by
 intro n
 induction n with
 | zero=>
  intro l L h
  unfold partsR at h
  split at h
  ·cases h;simp
  ·cases h
 | succ n ih=>
  intro l L h
  unfold partsR at h
  split at h
  ·cases h;simp
  ·split at h
   ·cases h
   ·split at h
    ·cases h
    ·rename_i h3
     split at h
     ·split at h
      ·cases h
      ·rename_i h4
       obtain⟨L',hL',e⟩:=Option.map_eq_some_iff.1 h
       have:=ih _ _ hL'
       rw[List.length_drop]at this
       rw[<-e,List.length_cons]
       omega
     ·have:=ih _ _ h
      rw[List.length_drop]at this
      omega
theorem repL_len (s:ByteArray):((repR s).getD []).length<=93:=by
 unfold repR
 split
 ·exact Nat.zero_le _
 ·rename_i h
  cases hp:partsF s.data.toList with
  | none=>exact Nat.zero_le _
  | some L=>
   have:=partsL_len _ _ _ hp
   rw[<-Lib.size_eq]at this
   show L.length<=93
   omega
theorem OwnAsks.chg {T:Nat->Prop}{w w':World}{base:Nat}{lv:Value}{xs:List Ask1}(h:OwnAsks w base lv xs) (hc:Chg T w w') (hl:∀b,lv.ownBlock=some b->¬T b) (hx:∀(i:Nat) (x:Ask1),xs[i]? = some x->∀b,x.v.ownBlock=some b->¬T b):OwnAsks w' base lv xs:=
 ⟨rowA_chg hc h.row hl,fun i x e=>⟨hc.row (h.each i x e).1 (hx i x e),(h.each i x e).2⟩,h.apart,h.out⟩
theorem OwnAsks.mono {w:World}{base base':Nat}{lv:Value}{xs:List Ask1}(h:OwnAsks w base lv xs) (hb:base'<=base):OwnAsks w base' lv xs:=
 ⟨by
  obtain⟨h1,h2|⟨g,cap,cur,e,hg,r⟩⟩:=h.row
  ·exact⟨h1,.inl h2⟩
  ·exact⟨h1,.inr ⟨g,cap,cur,e,by omega,r⟩⟩,fun i x e=>⟨(h.each i x e).1.mono hb,(h.each i x e).2⟩,h.apart,h.out⟩
theorem OwnAsks.lt {w:World}{base:Nat}{lv:Value}{xs:List Ask1}(h:OwnAsks w base lv xs):(∀b,lv.ownBlock=some b->base<=b/\b<w.heap.size)/\∀(i:Nat) (x:Ask1),xs[i]? = some x->∀b,x.v.ownBlock=some b->base<=b/\b<w.heap.size:=
 ⟨fun b hb=>h.row.lt b hb,fun i x e b hb=>World.ownsRow.lt (h.each i x e).1 b hb⟩
end Pk
open Pk
theorem lawRep_any (g:Nat) (ρ:Nat->Nat) (tv tk nv nk av ak:Value) (TL TM NL AL:List Value) (NS AS:List Int) (nx:Int) (s:ByteArray) (w:World) (hB:BkN w g ρ tv tk nv nk av ak TL TM NL (NS.map (Value.int .i64)) AL (AS.map (Value.int .i64)) nx)
  (hs:s.size<=maxLen) (hN:NL.length<=890000000) (hAL:AL.length<=890000000) (hx0:0<=nx) (hx1:nx<=890000000) :
  Calls Tryz.prog 24 #[.pointer (some ⟨g,0,none⟩),.string s] w fun e w'=>e = .returned (.bool true)/\Chg (fun b=>ρ b≠0) w w'/\
   ∃(ρ':Nat->Nat) (nv' nk' av' ak':Value) (NL':List Value) (NS':List Int) (AL':List Value) (AS':List Int) (n:Nat),n<=93/\BkN w' g ρ' tv tk nv' nk' av' ak' TL TM NL' (NS'.map (Value.int .i64)) AL' (AS'.map (Value.int .i64)) (nx+2*n+2)/\
    NL'.length=NL.length+8*n/\AL'.length=AL.length+8/\(∀b,b<w.heap.size->ρ' b=ρ b):=by
 have HB:=hyd hB
 have hgw:=hB.lt
 have Hcl:=repL_len s
 obtain⟨R,hR⟩:∃R,mapN ((repR s).getD [])=R:=⟨_,rfl⟩
 obtain⟨er,her⟩:∃er,errR (repR s)=er:=⟨_,rfl⟩
 have P1:Hid (∀W,Calls Tryz.prog 57 #[.string s] W fun e w'=>Below W.heap.size W w'/\∃lv xs,e = .returned (.tuple #[lv,.int .i64 er])/\OwnAsks w' W.heap.size lv xs/\mapA xs=R):=fun W=>
  (parseReport_any s W hs).mono fun e w' h=>⟨h.1,by rw[<-hR,<-her];exact rep_as h.2⟩
 have P2:Hid (∀W,Calls Tryz.prog 58 #[.string s] W fun e w'=>Below W.heap.size W w'/\∃lv xs,e = .returned (.tuple #[lv,.int .i64 er])/\OwnAsks w' W.heap.size lv xs/\mapA xs=R):=fun W=>
  (refRep_any s W hs).mono fun e w' h=>⟨h.1,by rw[<-hR,<-her];exact rep_as h.2⟩
 have hRl:R.length<=93:=by rw[<-hR];unfold mapN;rw[List.length_map];exact Hcl
 clear hR her hB hs Hcl
 go_enter Tryz.func24,Tryz.ntmps24
 go_wp2_with fail
 refine(P1.out _).mono ?_
 rintro e w1 ⟨hb1,v1,xs1,rfl,ho1,hm1⟩
 obtain⟨a1,c1,rfl⟩:=rowA_shape ho1.row
 have Hb1:=hyd hb1
 have Ho1:=hyd ho1
 have Hm1:=hyd hm1
 have s1:=hb1.size
 have hl1:xs1.length<=93:=by rw[<-hm1]at hRl;unfold mapA at hRl;rw[List.length_map]at hRl;exact hRl
 clear hb1 ho1 hm1
 go_wp2_with fail
 refine(P1.out _).mono ?_
 rintro e w2 ⟨hb2,v2,xs2,rfl,ho2,hm2⟩
 obtain⟨a2,c2,rfl⟩:=rowA_shape ho2.row
 have Ho1':Hid (OwnAsks w2 w.heap.size (.slice a1 xs1.length c1) xs1):=Ho1.out.below hb2
 have Hb2:Hid (Below w.heap.size w w2):=Hb1.out.trans (hb2.mono s1)
 have s2:=hb2.size
 have Ho2:=hyd ho2
 have Hm2:=hyd hm2
 have hl2:xs2.length<=93:=by rw[<-hm2]at hRl;unfold mapA at hRl;rw[List.length_map]at hRl;exact hRl
 have Hl1:Hid _:=Ho1.out.lt
 clear hb2 ho2 Ho1 Hb1 hm2
 go_wp2_with fail
 refine(P2.out _).mono ?_
 rintro e w3 ⟨hb3,v3,xs3,rfl,ho3,hm3⟩
 obtain⟨a3,c3,rfl⟩:=rowA_shape ho3.row
 have Ho1:Hid (OwnAsks w3 w.heap.size (.slice a1 xs1.length c1) xs1):=Ho1'.out.below hb3
 have Ho2':Hid (OwnAsks w3 w1.heap.size (.slice a2 xs2.length c2) xs2):=Ho2.out.below hb3
 have Hb3:Hid (Below w.heap.size w w3):=Hb2.out.trans (hb3.mono (by omega))
 have s3:=hb3.size
 have Hl2:Hid _:=Ho2.out.lt
 have Ho3:=hyd ho3
 have Hm3:=hyd hm3
 clear hb3 ho3 Ho2 Hb2 Ho1' hm3
 go_wp2_with fail
 refine(sameAskings_any w.heap.size w2.heap.size _ _ xs1 xs3 _ Ho1.out Ho3.out (by rw[Hm1.out,Hm3.out]) (by omega)).mono ?_
 rintro e w4 ⟨rfl,n4,rfl⟩
 go_wp2_with fail
 refine(sameAskings_any w1.heap.size w2.heap.size _ _ xs2 xs3 _ (Ho2'.out.drewN _) (Ho3.out.drewN _) (by rw[Hm2.out,Hm3.out]) (by omega)).mono ?_
 rintro e w5 ⟨rfl,n5,rfl⟩
 have Hb5:Hid (Below w.heap.size w ((w3.drewN n4).drewN n5)):=below_drewN (below_drewN Hb3.out _) _
 have Q1:Hid (OwnAsks ((w3.drewN n4).drewN n5) w.heap.size (.slice a1 xs1.length c1) xs1):=(Ho1.out.drewN _).drewN _
 have Q2:Hid (OwnAsks ((w3.drewN n4).drewN n5) w1.heap.size (.slice a2 xs2.length c2) xs2):=(Ho2'.out.drewN _).drewN _
 have hs5:((w3.drewN n4).drewN n5).heap.size=w3.heap.size:=by simp
 generalize hw5:(w3.drewN n4).drewN n5=w5 at *
 have B5:Hid (BkN w5 g ρ tv tk nv nk av ak TL TM NL (NS.map (Value.int .i64)) AL (AS.map (Value.int .i64)) nx):=HB.out.chg (T:=fun _=>False) (Chg.ofBelow Hb5.out) (fun _ h=>h.elim)
 have hz:Hid (∀b,w.heap.size<=b->ρ b=0):=HB.out.hi
 clear Hb3 Ho1 Ho2' Ho3 hw5 n4 n5
 have HF:Hid (∀b,((Value.slice a2 xs2.length c2).ownBlock=some b\/∃(i:Nat) (x:Ask1),xs2[i]? = some x/\x.v.ownBlock=some b)->w1.heap.size<=b/\b<w2.heap.size):=by
  rintro b (hb|⟨i,x,hx,hb⟩)
  ·exact Hl2.out.1 b hb
  ·exact Hl2.out.2 i x hx b hb
 go_wp2_with fail
 refine(ownsA_any (fun b=>((Value.slice a2 xs2.length c2).ownBlock=some b\/∃(i:Nat) (x:Ask1),xs2[i]? = some x/\x.v.ownBlock=some b)\/(b<w.heap.size/\ρ b=0)) g ρ tv tk nv nk av ak TL TM NL AL NS AS nx _ xs1 _ B5.out (Q1.out.mono (by omega)) (fun b hb=>hz.out b (Hl1.out.1 b hb).1) (fun i x hx b hb=>hz.out b (Hl1.out.2 i x hx b hb).1) ?_ (by omega) (by omega) (by omega) hx0 (by omega)).mono ?_
 ·rintro b (hb|⟨hb,h0⟩)
  ·have h:=HF.out b hb
   refine⟨hz.out b (by omega),by omega,fun e=>by have:=(Hl1.out.1 b e).2;omega,fun i x hx e=>by have:=(Hl1.out.2 i x hx b e).2;omega⟩
  ·refine⟨h0,by omega,fun e=>by have:=(Hl1.out.1 b e).1;omega,fun i x hx e=>by have:=(Hl1.out.2 i x hx b e).1;omega⟩
 rintro e w6 ⟨rfl,ρ6,nv6,nk6,av6,ak6,NL6,NS6,AL6,AS6,B6,hn6,ha6,r6,C6,F6⟩
 have HB6:=hyd B6
 have Q2':Hid (OwnAsks w6 w1.heap.size (.slice a2 xs2.length c2) xs2):=Q2.out.chg C6 (fun b hb e=>e.2 (.inl (.inl hb))) (fun i x hx b hb e=>e.2 (.inl (.inr ⟨i,x,hx,hb⟩)))
 have Hn6:=hyd hn6
 have Ha6:=hyd ha6
 have hn6':NL6.length<=890000400:=by omega
 have ha6':AL6.length<=890000400:=by omega
 have s6:=C6.size
 have HC6:Hid (Chg (fun b=>ρ b≠0) w w6):=(Chg.ofBelow Hb5.out).trans C6 (fun b hb e h0=>e.2 (.inr ⟨hb,h0⟩))
 have R6:Hid (∀b,b<w.heap.size->ρ6 b=ρ b):=fun b hb=>by
  by_cases h0:ρ b=0
  ·rw[h0];exact F6 b (.inr ⟨hb,h0⟩)
  ·exact r6 b (by omega) h0
 have G6:Hid (∀b,((Value.slice a2 xs2.length c2).ownBlock=some b\/∃(i:Nat) (x:Ask1),xs2[i]? = some x/\x.v.ownBlock=some b)->ρ6 b=0):=fun b hb=>F6 b (.inl hb)
 clear B6 C6 hn6 ha6 r6 F6 B5 Q1 Q2
 go_wp2_with fail
 refine(ownsA_any (fun b=>b<w.heap.size/\ρ b=0) g ρ6 tv tk nv6 nk6 av6 ak6 TL TM NL6 AL6 NS6 AS6 (nx+xs1.length+1) _ xs2 _ HB6.out (Q2'.out.mono (by omega)) (fun b hb=>G6.out b (.inl hb)) (fun i x hx b hb=>G6.out b (.inr ⟨i,x,hx,hb⟩)) ?_ (by omega) (by omega) (by omega) (by omega) (by omega)).mono ?_
 ·rintro b ⟨hb,h0⟩
  refine⟨by rw[R6.out b hb];exact h0,by omega,fun e=>by have:=(Hl2.out.1 b e).1;omega,fun i x hx e=>by have:=(Hl2.out.2 i x hx b e).1;omega⟩
 rintro e w7 ⟨rfl,ρ7,nv7,nk7,av7,ak7,NL7,NS7,AL7,AS7,B7,hn7,ha7,r7,C7,F7⟩
 have F1:Hid (Chg (fun b=>ρ b≠0) w w7):=HC6.out.trans C7 (fun b hb e h0=>e.2 ⟨hb,h0⟩)
 have hxx:xs2.length=xs1.length:=by
  have:=congrArg List.length (Hm2.out.trans Hm1.out.symm)
  unfold mapA at this
  simpa using this
 have F2:Hid (∃(ρ':Nat->Nat) (nv' nk' av' ak':Value) (NL':List Value) (NS':List Int) (AL':List Value) (AS':List Int) (n:Nat),n<=93/\BkN w7 g ρ' tv tk nv' nk' av' ak' TL TM NL' (NS'.map (Value.int .i64)) AL' (AS'.map (Value.int .i64)) (nx+2*n+2)/\
    NL'.length=NL.length+8*n/\AL'.length=AL.length+8/\(∀b,b<w.heap.size->ρ' b=ρ b)):=by
  refine⟨ρ7,nv7,nk7,av7,ak7,NL7,NS7,AL7,AS7,xs1.length,hl1,?_,?_,?_,?_⟩
  ·have e:nx+2*(xs1.length:Int)+2=nx+xs1.length+1+xs2.length+1:=by rw[hxx];omega
   rw[e]
   exact B7
  ·rw[hn7,Hn6.out];omega
  ·rw[ha7,Ha6.out]
  ·intro b hb
   by_cases h0:ρ b=0
   ·rw[h0];exact F7 b ⟨hb,h0⟩
   ·rw[r7 b (by omega) (by rw[R6.out b hb];exact h0),R6.out b hb]
 clear B7 C7 hn7 ha7 r7 F7 HB6 HC6 Hn6 Ha6 hxx
 go_wp2_with fail
 refine(errNum_any _ _).mono ?_
 rintro e w8 ⟨rfl,rfl⟩
 go_wp2_with fail
 refine(errNum_any _ _).mono ?_
 rintro e w8 ⟨rfl,rfl⟩
 go_wp2
 go_ret
 exact⟨rfl,F1.out,F2.out⟩
end Go.Proofs.YtdjhhnolcafkiaaGreat
namespace Go.Proofs.YtdjhhnolcafkiaaGreat
open Go.RowKit Pk Rl
theorem created_any (c:Cfg) (w:World) :
  Calls Tryz.prog 22 #[.agg #[.int .i64 c.ring,.int .i64 c.window,.int .i64 c.delay,.int .i64 c.rate,.int .i64 c.burst,.int .i64 c.retry,.int .i64 c.tries]] w fun e w'=>e = .returned (.bool true)/\Below w.heap.size w w':=by
 go_enter Tryz.func22,Tryz.ntmps22
 go_wp2_with fail
 refine(new_any c _).mono ?_
 rintro e w1 ⟨hb1,hc1⟩
 have hB1:Below w.heap.size w w1:=((Below.refl w.heap.size w).alloc (Nat.le_refl _) _).trans (hb1.mono (by simp))
 have hz1:w.heap.size<w1.heap.size:=by have:=hb1.size;simp at this;omega
 have q0:∀j:Nat,w1.cell? ⟨w.heap.size,j,none⟩=#[.int .i64 c.ring,.int .i64 c.window,.int .i64 c.delay,.int .i64 c.rate,.int .i64 c.burst,.int .i64 c.retry,.int .i64 c.tries][j]?:=fun j=>by
  rw[hb1.cell (p:=⟨w.heap.size,j,none⟩) (by simp)]
  exact cell_new _ _ _ j
 have k0:=q0 0
 have k1:=q0 1
 have k2:=q0 2
 have k3:=q0 3
 have k4:=q0 4
 have k5:=q0 5
 have k6:=q0 6
 simp at k0 k1 k2 k3 k4 k5 k6
 have HB1:=hyd hB1
 clear hB1 q0
 rcases hc1 with⟨hf,rfl⟩|⟨hf,mb,ρm,hmb,rfl,hmd,hρ⟩
 ·have Hf:Hid (cfgOk c=false):=hf
  clear hb1 hf
  go_wp2_with fail
  refine(refNew_any c _).mono ?_
  rintro e w2 ⟨hb2,⟨hf2,rfl⟩|⟨hf2,rb,hrb,rfl,hrd⟩⟩
  ·have HB2:Hid (Below w.heap.size w w2):=HB1.out.trans (hb2.mono (Nat.le_of_lt hz1))
   clear hb2 hf2 k0 k1 k2 k3 k4 k5 k6
   go_wp2_with fail
   refine(errNum_any _ _).mono ?_
   rintro e w3 ⟨rfl,hw3⟩
   rw[hw3]
   clear hw3
   go_wp2
   go_ret
   exact⟨rfl,HB2.out⟩
  ·exact absurd (Hf.out.symm.trans hf2) (by decide)
 ·have Hf:Hid (cfgOk c=true):=hf
  have HM:=hyd hmd
  have HR:Hid (∀b,ρm b≠0->w.heap.size<=b):=fun b hb=>by have:=hρ b hb;simp at this;omega
  clear hb1 hf hmd hρ
  go_wp2_with fail
  refine(refNew_any c _).mono ?_
  rintro e w2 ⟨hb2,⟨hf2,rfl⟩|⟨hf2,rb,hrb,rfl,hrd⟩⟩
  ·exact absurd (Hf.out.symm.trans hf2) (by decide)
  ·have HB2:Hid (Below w.heap.size w w2):=HB1.out.trans (hb2.mono (Nat.le_of_lt hz1))
   have HM2:Hid (MdAt w2 ρm mb (newM c) (.slice none 0 0) (.slice none 0 0) [] []):=HM.out.below hb2
   have HR2:=hyd hrd
   have hz2:=hb2.size
   have HZ:Hid (∀b,w1.heap.size<=b->ρm b=0):=HM.out.hi
   clear hb2 hf2 hrd k0 k1 k2 k3 k4 k5 k6 HM
   go_wp2_with fail
   refine(errNum_any _ _).mono ?_
   rintro e w3 ⟨rfl,hw3⟩
   rw[hw3]
   clear hw3
   go_wp2
   go_ret
   exact⟨rfl,HB2.out⟩
theorem parseS_any {w:World}{F:Nat->Nat->Nat}{K:Nat}{pb mb rb:Nat->Nat}{M:Nat->Md}{R:Nat->Rm}{g n:Nat}(h:Sta w F K pb mb rb M R g n) (hn:n<=43000000) (s:ByteArray) (hs:s.size<=maxLen) :
  Calls Tryz.prog 23 #[.pointer (some ⟨g,0,none⟩),.string s] w fun e w'=>e = .returned (.bool true)/\∃F',Sta w' F' K pb mb rb M R g (n+2)/\SMv w F w' F':=by
 have H:=hyd h
 have hgw:=h.glt
 have Hcl:=readP_cl s
 obtain⟨x,hx⟩:∃x,(readP s).getD zP=x:=⟨_,rfl⟩
 obtain⟨er,her⟩:∃er,errP (readP s)=er:=⟨_,rfl⟩
 have P1:Hid (∀W,Calls Tryz.prog 54 #[.string s] W fun e w'=>Below W.heap.size W w'/\∃v,e = .returned (tupV x v er)/\OwnInts w' W.heap.size v x.cl):=fun W=>
  (parsePacket_any s W hs).mono fun e w' h=>⟨h.1,by rw[<-hx,<-her];exact read_one h.2⟩
 have P2:Hid (∀W,Calls Tryz.prog 55 #[.string s] W fun e w'=>Below W.heap.size W w'/\∃v,e = .returned (tupV x v er)/\OwnInts w' W.heap.size v x.cl):=fun W=>
  (refParse_any s W hs).mono fun e w' h=>⟨h.1,by rw[<-hx,<-her];exact read_one h.2⟩
 rw[hx]at Hcl
 clear hx her h hs
 obtain⟨mk,ex,ty,nu,ti,so,pr,pa,cl,en,py⟩:=x
 simp only at Hcl
 simp only[tupV]at P1 P2
 go_enter Tryz.func23,Tryz.ntmps23
 go_wp2_with fail
 refine(P1.out _).mono ?_
 rintro e w1 ⟨hb1,v1,rfl,ho1⟩
 obtain⟨a1,c1,rfl⟩:=ho1.shape
 have Hb1:=hyd hb1
 have Ho1:=hyd ho1
 have s1:=hb1.size
 clear hb1 ho1
 go_wp2_with fail
 refine(P1.out _).mono ?_
 rintro e w2 ⟨hb2,v2,rfl,ho2⟩
 obtain⟨a2,c2,rfl⟩:=ho2.shape
 have X1:Hid (Bx w2 w1.heap.size mk ex ty nu ti so pr pa (.slice a1 cl.length c1) en py):=(Bx.new _ _ _ _ _ _ _ _ _ _ _ _ _).below hb2
 have Ho1':Hid (OwnInts w2 w.heap.size (.slice a1 cl.length c1) cl):=(Ho1.out.alloc _).below hb2
 have Hb2:Hid (Below w.heap.size w w2):=(Hb1.out.alloc s1 _).trans (hb2.mono (by simp;omega))
 have s2:w1.heap.size+1<=w2.heap.size:=by have:=hb2.size;simpa using this
 have Ho2:Hid (OwnInts w2 (w1.heap.size+1) (.slice a2 cl.length c2) cl):=ho2.mono (by simp)
 have Hl1:Hid (∀b,(Value.slice a1 cl.length c1).ownBlock=some b->w.heap.size<=b/\b<w1.heap.size):=fun b hb=>World.ownsRow.lt Ho1.out b hb
 clear hb2 ho2 Ho1 Hb1
 go_wp2_with fail
 refine(P2.out _).mono ?_
 rintro e w3 ⟨hb3,v3,rfl,ho3⟩
 obtain⟨a3,c3,rfl⟩:=ho3.shape
 have Y2:Hid (Bx w3 w2.heap.size mk ex ty nu ti so pr pa (.slice a2 cl.length c2) en py):=(Bx.new _ _ _ _ _ _ _ _ _ _ _ _ _).below hb3
 have Y1:Hid (Bx w3 w1.heap.size mk ex ty nu ti so pr pa (.slice a1 cl.length c1) en py):=(X1.out.below ((Below.refl _ _).alloc (Nat.le_refl _) _)).below hb3
 have Ho1:Hid (OwnInts w3 w.heap.size (.slice a1 cl.length c1) cl):=(Ho1'.out.alloc _).below hb3
 have Ho2':Hid (OwnInts w3 (w1.heap.size+1) (.slice a2 cl.length c2) cl):=(Ho2.out.alloc _).below hb3
 have Hb3:Hid (Below w.heap.size w w3):=(Hb2.out.alloc (by omega) _).trans (hb3.mono (by simp;omega))
 have s3:w2.heap.size+1<=w3.heap.size:=by have:=hb3.size;simpa using this
 have Hl2:Hid (∀b,(Value.slice a2 cl.length c2).ownBlock=some b->w1.heap.size+1<=b/\b<w2.heap.size):=fun b hb=>World.ownsRow.lt Ho2.out b hb
 have Ho3:Hid (∀o,OwnInts (w3.alloc o) w.heap.size (.slice a3 cl.length c3) cl):=fun o=>(ho3.alloc o).mono (by simp;omega)
 clear hb3 ho3 Ho2 Hb2 Ho1' X1
 have z0:∀o,(w3.alloc o).cell? ⟨w1.heap.size,0,none⟩=_:=fun o=>(World.cell?_alloc_lt _ _ _ Y1.out.lt).trans Y1.out.x0
 have z1:∀o,(w3.alloc o).cell? ⟨w1.heap.size,1,none⟩=_:=fun o=>(World.cell?_alloc_lt _ _ _ Y1.out.lt).trans Y1.out.x1
 have z2:∀o,(w3.alloc o).cell? ⟨w1.heap.size,2,none⟩=_:=fun o=>(World.cell?_alloc_lt _ _ _ Y1.out.lt).trans Y1.out.x2
 have z3:∀o,(w3.alloc o).cell? ⟨w1.heap.size,3,none⟩=_:=fun o=>(World.cell?_alloc_lt _ _ _ Y1.out.lt).trans Y1.out.x3
 have z4:∀o,(w3.alloc o).cell? ⟨w1.heap.size,4,none⟩=_:=fun o=>(World.cell?_alloc_lt _ _ _ Y1.out.lt).trans Y1.out.x4
 have z5:∀o,(w3.alloc o).cell? ⟨w1.heap.size,5,none⟩=_:=fun o=>(World.cell?_alloc_lt _ _ _ Y1.out.lt).trans Y1.out.x5
 have z6:∀o,(w3.alloc o).cell? ⟨w1.heap.size,6,none⟩=_:=fun o=>(World.cell?_alloc_lt _ _ _ Y1.out.lt).trans Y1.out.x6
 have z7:∀o,(w3.alloc o).cell? ⟨w1.heap.size,7,none⟩=_:=fun o=>(World.cell?_alloc_lt _ _ _ Y1.out.lt).trans Y1.out.x7
 have z8:∀o,(w3.alloc o).cell? ⟨w1.heap.size,8,none⟩=_:=fun o=>(World.cell?_alloc_lt _ _ _ Y1.out.lt).trans Y1.out.x8
 have z9:∀o,(w3.alloc o).cell? ⟨w1.heap.size,9,none⟩=_:=fun o=>(World.cell?_alloc_lt _ _ _ Y1.out.lt).trans Y1.out.x9
 have z10:∀o,(w3.alloc o).cell? ⟨w1.heap.size,10,none⟩=_:=fun o=>(World.cell?_alloc_lt _ _ _ Y1.out.lt).trans Y1.out.x10
 go_wp2_with fail
 have Z3:Hid (∀t,Bx (w3.alloc (.cells #[.bool mk,.int .i64 ty,.int .i64 nu,.int .i64 ti,.int .i64 so,.slice a3 cl.length c3,.bool ex,.int .i64 pr,.string en,.string py,.int .i64 pa] t)) w3.heap.size mk ex ty nu ti so pr pa (.slice a3 cl.length c3) en py):=fun t=>Bx.new _ _ _ _ _ _ _ _ _ _ _ _ _
 refine(samePacket_any mk ex ty nu ti so pr pa _ _ cl en py _ (Ho1.out.alloc _).isInts (Ho3.out _).isInts (by omega)).mono ?_
 rintro e w4 ⟨rfl,hb4⟩
 have U3:Hid (Bx w4 w3.heap.size mk ex ty nu ti so pr pa (.slice a3 cl.length c3) en py):=(Z3.out _).below hb4
 have U2:Hid (Bx w4 w2.heap.size mk ex ty nu ti so pr pa (.slice a2 cl.length c2) en py):=(Y2.out.below ((Below.refl _ _).alloc (Nat.le_refl _) _)).below hb4
 have U1:Hid (Bx w4 w1.heap.size mk ex ty nu ti so pr pa (.slice a1 cl.length c1) en py):=(Y1.out.below ((Below.refl _ _).alloc (Nat.le_refl _) _)).below hb4
 have O1:Hid (OwnInts w4 w.heap.size (.slice a1 cl.length c1) cl):=(Ho1.out.alloc _).below hb4
 have O2:Hid (OwnInts w4 (w1.heap.size+1) (.slice a2 cl.length c2) cl):=(Ho2'.out.alloc _).below hb4
 have O3:Hid (OwnInts w4 w.heap.size (.slice a3 cl.length c3) cl):=(Ho3.out _).below hb4
 have Hb4:Hid (Below w.heap.size w w4):=(Hb3.out.alloc (by omega) _).trans (hb4.mono (by simp;omega))
 clear hb4 Hb3 Ho1 Ho2' Ho3 Y1 Y2 Z3 z0 z1 z2 z3 z4 z5 z6 z7 z8 z9 z10
 obtain⟨t0,t1,t2,t3,t4,t5,t6,t7,t8,t9,t10⟩:=U2.out
 obtain⟨f0,f1,f2,f3,f4,f5,f6,f7,f8,f9,f10⟩:=U3.out
 go_wp2_with fail
 refine(samePacket_any mk ex ty nu ti so pr pa _ _ cl en py _ O2.out.isInts O3.out.isInts (by omega)).mono ?_
 rintro e w5 ⟨rfl,hb5⟩
 have V2:Hid (Bx w5 w2.heap.size mk ex ty nu ti so pr pa (.slice a2 cl.length c2) en py):=U2.out.below hb5
 have V1:Hid (Bx w5 w1.heap.size mk ex ty nu ti so pr pa (.slice a1 cl.length c1) en py):=U1.out.below hb5
 have Q1:Hid (OwnInts w5 w.heap.size (.slice a1 cl.length c1) cl):=O1.out.below hb5
 have Q2:Hid (OwnInts w5 (w1.heap.size+1) (.slice a2 cl.length c2) cl):=O2.out.below hb5
 have Hb5:Hid (Below w.heap.size w w5):=Hb4.out.trans (hb5.mono Hb4.out.size)
 have H5:Hid (Sta w5 F K pb mb rb M R g n):=H.out.below Hb5.out
 clear hb5 Hb4 O1 O2 O3 U1 U2 U3 t0 t1 t2 t3 t4 t5 t6 t7 t8 t9 t10 f0 f1 f2 f3 f4 f5 f6 f7 f8 f9 f10
 have p5:=V1.out.x5
 go_wp2_with fail
 refine(st_ownsN H5.out (by omega) _ cl (Q1.out.mono (by omega)) (Nat.le_trans Hcl (by decide)) (fun b hb=>H.out.free (Hl1.out b hb).1)).mono ?_
 rintro e w6 ⟨rfl,F6,s6,k6⟩
 have V2':Hid (Bx w6 w2.heap.size mk ex ty nu ti so pr pa (.slice a2 cl.length c2) en py):=V2.out.chg k6.2 (by
  rintro(⟨i,hi⟩|h)
  ·exact hi (H.out.hi i _ (by omega))
  ·have:=(Hl1.out _ h).2;omega)
 have Q2':Hid (OwnInts w6 (w1.heap.size+1) (.slice a2 cl.length c2) cl):=rowA_chg k6.2 Q2.out (by
  intro x hx
  have h2:=Hl2.out x hx
  rintro(⟨i,hi⟩|h)
  ·exact hi (H.out.hi i _ (by omega))
  ·have:=(Hl1.out _ h).2;omega)
 have hw5:w2.heap.size<=w5.heap.size:=by have:=V2.out.lt;omega
 have HF2:Hid (∀b,(Value.slice a2 cl.length c2).ownBlock=some b->(∀j,F6 j b=0)/\∀k,k<K->b≠pb k):=fun b hb=>by
  have h1:=Hl2.out b hb
  have h2:=H.out.free (b:=b) (by omega)
  exact⟨k6.1 b (by omega) (fun e=>by have:=Hl1.out b e;omega) h2.1,h2.2⟩
 have H6:=hyd s6
 have HV6:Hid (SMv w F w6 F6):=SMv.took (SMv.below Hb5.out) k6 (fun b hb=>(Hl1.out b hb).1)
 clear s6 k6 p5 V1 V2 Q1 Q2
 have p5:=V2'.out.x5
 go_wp2_with fail
 refine(st_ownsN H6.out (by omega) _ cl (Q2'.out.mono (by omega)) (Nat.le_trans Hcl (by decide)) HF2.out).mono ?_
 rintro e w7 ⟨rfl,F7,s7,k7⟩
 have HE:Hid (∃F',Sta w7 F' K pb mb rb M R g (n+2)/\SMv w F w7 F'):=⟨F7,s7,HV6.out.took k7 (fun b hb=>by have:=(Hl2.out b hb).1;omega)⟩
 clear s7 k7 p5 V2' Q2' H6 HV6 HF2
 go_wp2_with fail
 refine(errNum_any _ _).mono ?_
 rintro e w8 ⟨rfl,rfl⟩
 go_wp2_with fail
 refine(errNum_any _ _).mono ?_
 rintro e w9 ⟨rfl,rfl⟩
 go_wp2
 go_ret
 exact⟨rfl,HE.out⟩
namespace Rl
theorem st_parseR {w:World}{F:Nat->Nat->Nat}{K:Nat}{pb mb rb:Nat->Nat}{M:Nat->Md}{R:Nat->Rm}{g n:Nat}(h:Sta w F K pb mb rb M R g n) (hn:n<=43000000) (s:ByteArray) (hs:s.size<=maxLen) :
  Calls Tryz.prog 24 #[.pointer (some ⟨g,0,none⟩),.string s] w fun e w'=>e = .returned (.bool true)/\∃F',Sta w' F' K pb mb rb M R g (n+38)/\SMv w F w' F':=by
 obtain⟨tv,tk,nv,nk,av,ak,TL,NL,AL,TS,NS,AS,nx,b1,b2,b3,b4,b5,b6⟩:=h.bk
 refine(lawRep_any g _ tv tk nv nk av ak TL _ NL AL NS AS nx s w b1 hs (by omega) (by omega) b5 (by omega)).mono ?_
 rintro e w' ⟨rfl,hc,ρ',nv',nk',av',ak',NL',NS',AL',AS',m,hm,z1,z2,z3,z4⟩
 refine⟨rfl,upd F 0 ρ',h.turnB (.slice none 0 0) ⟨tv,tk,nv',nk',av',ak',TL,NL',AL',TS,NS',AS',nx+2*m+2,z1,by omega,by omega,by omega,by omega,by omega⟩ z1.hi (fun b hb=>by cases hb) (fun b hb _ e=>(z4 b hb).trans e) (hc.mono (fun _ _ e=>.inl e)),fun b hb e i=>?_,hc.mono (fun b _ e=>⟨0,e⟩)⟩
 unfold upd
 split
 ·exact(z4 b hb).trans (e 0)
 ·exact e i
end Rl
theorem stepx10_any {w:World}{F:Nat->Nat->Nat}{K:Nat}{pb mb rb:Nat->Nat}{M:Nat->Md}{R:Nat->Rm}{g n q k:Nat}(o:OpD) (A:Nat) (h:Sta w F K pb mb rb M R g n) (_hk:k<K) (hr:Rel2 q (M k) (R k)) (_hq:q<=1999999) (_hn:n<=42000000) (_ho:OpOx A w o) (_hA:A<=w.heap.size) :
  Calls Tryz.prog 8 #[.pointer (some ⟨pb k,0,none⟩),.pointer (some ⟨g,0,none⟩),.agg (opK 10 o)] w fun e w'=>e = .returned (.bool true)/\∃F' M1 R1,Sta w' F' K pb mb rb (upd M k M1) (upd R k R1) g (n+40)/\Rel2 (q+1) M1 R1/\SMv w F w' F':=by
 have H:=hyd h
 have Hr:=hyd hr
 have HB0:Hid (∀bk,Below w.heap.size w (w.alloc bk)):=fun bk=>(Below.refl _ _).alloc (Nat.le_refl _) bk
 clear h hr
 unfold opK opKL
 go_enter Tryz.func8,Tryz.ntmps8
 go_wp2_with fail
 have HB1':=HB0.out (.cells (opK 10 o) 45)
 have HC1:∀j:Nat,(w.alloc (.cells (opK 10 o) 45)).cell? ⟨w.heap.size,j,none⟩=(opK 10 o)[j]?:=fun j=>cell_new _ _ _ j
 generalize w.alloc (.cells (opK 10 o) 45)=w1 at *
 have HB1:Hid (Below w.heap.size w w1):=HB1'
 have H1:Hid (Sta w1 F K pb mb rb M R g n):=H.out.below HB1'
 clear HB1' HC1
 refine(created_any o.cf _).mono ?_
 rintro e w2 ⟨rfl,hb2⟩
 have hB2:Below w.heap.size w w2:=HB1.out.trans (hb2.mono HB1.out.size)
 have HE:Hid (∃F' M1 R1,Sta w2 F' K pb mb rb (upd M k M1) (upd R k R1) g (n+40)/\Rel2 (q+1) M1 R1/\SMv w F w2 F'):=⟨F,M k,R k,by rw[upd_same,upd_same];exact(H.out.below hB2).mono (by omega),Hr.out.mono (Nat.le_succ _),SMv.below hB2⟩
 clear hb2 hB2
 go_wp2
 go_ret
 exact⟨rfl,HE.out⟩
theorem stepx11_any {w:World}{F:Nat->Nat->Nat}{K:Nat}{pb mb rb:Nat->Nat}{M:Nat->Md}{R:Nat->Rm}{g n q k:Nat}(o:OpD) (A:Nat) (h:Sta w F K pb mb rb M R g n) (_hk:k<K) (hr:Rel2 q (M k) (R k)) (_hq:q<=1999999) (hn:n<=42000000) (ho:OpOx A w o) (_hA:A<=w.heap.size) :
  Calls Tryz.prog 8 #[.pointer (some ⟨pb k,0,none⟩),.pointer (some ⟨g,0,none⟩),.agg (opK 11 o)] w fun e w'=>e = .returned (.bool true)/\∃F' M1 R1,Sta w' F' K pb mb rb (upd M k M1) (upd R k R1) g (n+40)/\Rel2 (q+1) M1 R1/\SMv w F w' F':=by
 have H:=hyd h
 have Hr:=hyd hr
 have htx:=ho.tx
 have HB0:Hid (∀bk,Below w.heap.size w (w.alloc bk)):=fun bk=>(Below.refl _ _).alloc (Nat.le_refl _) bk
 clear h hr ho
 unfold opK opKL
 go_enter Tryz.func8,Tryz.ntmps8
 go_wp2_with fail
 have HB1':=HB0.out (.cells (opK 11 o) 45)
 have HC1:∀j:Nat,(w.alloc (.cells (opK 11 o) 45)).cell? ⟨w.heap.size,j,none⟩=(opK 11 o)[j]?:=fun j=>cell_new _ _ _ j
 generalize w.alloc (.cells (opK 11 o) 45)=w1 at *
 have HB1:Hid (Below w.heap.size w w1):=HB1'
 have H1:Hid (Sta w1 F K pb mb rb M R g n):=H.out.below HB1'
 have c2:w1.cell? ⟨w.heap.size,2,none⟩=some (.string o.tx):=HC1 2
 have HZ:Hid (∀i,F i w.heap.size=0):=fun i=>H.out.hi i _ (Nat.le_refl _)
 clear HB1' HC1
 refine(parseS_any H1.out (by omega) o.tx htx).mono ?_
 rintro e w2 ⟨rfl,F2,s1,s2⟩
 have H2:=hyd s1
 have V2:=hyd s2
 have c3:w2.cell? ⟨w.heap.size,2,none⟩=some (.string o.tx):=s2.cell c2 HZ.out
 clear s1 s2 c2
 go_wp2_with fail
 refine(st_parseR H2.out (by omega) o.tx htx).mono ?_
 rintro e w3 ⟨rfl,F3,s1,s2⟩
 have HE:Hid (∃F' M1 R1,Sta w3 F' K pb mb rb (upd M k M1) (upd R k R1) g (n+40)/\Rel2 (q+1) M1 R1/\SMv w F w3 F'):=⟨F3,M k,R k,by rw[upd_same,upd_same];exact s1.mono (by omega),Hr.out.mono (Nat.le_succ _),((SMv.below HB1.out).trans V2.out).trans s2⟩
 clear s1 s2 c3
 go_wp2
 go_ret
 exact⟨rfl,HE.out⟩
theorem stepa_any {w:World}{F:Nat->Nat->Nat}{K:Nat}{pb mb rb:Nat->Nat}{M:Nat->Md}{R:Nat->Rm}{g n q k:Nat}(o:OpD) (A:Nat) (h:Sta w F K pb mb rb M R g n) (hk:k<K) (hr:Rel2 q (M k) (R k)) (hq:q<=1999999) (hn:n<=42000000) (ho:OpOx A w o) (hA:A<=w.heap.size) (h9:o.kind<=11) (h7:¬o.kind=7) :
  Calls Tryz.prog 8 #[.pointer (some ⟨pb k,0,none⟩),.pointer (some ⟨g,0,none⟩),.agg (opK o.kind o)] w fun e w'=>e = .returned (.bool true)/\∃F' M1 R1,Sta w' F' K pb mb rb (upd M k M1) (upd R k R1) g (n+40)/\Rel2 (q+1) M1 R1/\SMv w F w' F':=by
 rcases(by omega:o.kind<=9\/o.kind=10\/o.kind=11)with e|e|e
 ·refine(stepx_any o A h hk hr hq hn ho hA e h7).mono ?_
  rintro e w' ⟨e1,F',M1,R1,s1,s2⟩
  exact⟨e1,F',M1,R1,s1.mono (by omega),s2⟩
 ·rw[e];exact stepx10_any o A h hk hr hq hn ho hA
 ·rw[e];exact stepx11_any o A h hk hr hq hn ho hA
namespace Rl
def LkS2 (PA ma ra:Nat) (s:Stt) (PB mb rb:Nat) (t:Stt) (W:World):Prop:=W.cell? ⟨PA,0,none⟩=some (.pointer (some ⟨ma,0,none⟩))/\W.cell? ⟨PA,1,none⟩=some (.pointer (some ⟨ra,0,none⟩))/\W.cell? ⟨ra,7,none⟩=some (.int .i64 s.now)/\W.cell? ⟨ra,8,none⟩=some (.int .i64 s.tokens)/\W.cell? ⟨ra,9,none⟩=some (.int .i64 s.passed)/\W.cell? ⟨ra,10,none⟩=some (.int .i64 s.late)/\W.cell? ⟨ra,11,none⟩=some (.int .i64 s.doubled)/\W.cell? ⟨ra,12,none⟩=some (.int .i64 s.wrong)/\W.cell? ⟨ra,13,none⟩=some (.int .i64 s.unknown)/\W.cell? ⟨ra,14,none⟩=some (.int .i64 s.again)/\W.cell? ⟨ra,15,none⟩=some (.int .i64 s.refused)/\W.cell? ⟨ra,16,none⟩=some (.int .i64 s.asked)/\W.cell? ⟨ra,17,none⟩=some (.int .i64 s.givenUp)/\W.cell? ⟨PB,0,none⟩=some (.pointer (some ⟨mb,0,none⟩))/\W.cell? ⟨PB,1,none⟩=some (.pointer (some ⟨rb,0,none⟩))/\W.cell? ⟨rb,7,none⟩=some (.int .i64 t.now)/\W.cell? ⟨rb,8,none⟩=some (.int .i64 t.tokens)/\W.cell? ⟨rb,9,none⟩=some (.int .i64 t.passed)/\W.cell? ⟨rb,10,none⟩=some (.int .i64 t.late)/\W.cell? ⟨rb,11,none⟩=some (.int .i64 t.doubled)/\W.cell? ⟨rb,12,none⟩=some (.int .i64 t.wrong)/\W.cell? ⟨rb,13,none⟩=some (.int .i64 t.unknown)/\W.cell? ⟨rb,14,none⟩=some (.int .i64 t.again)/\W.cell? ⟨rb,15,none⟩=some (.int .i64 t.refused)/\W.cell? ⟨rb,16,none⟩=some (.int .i64 t.asked)/\W.cell? ⟨rb,17,none⟩=some (.int .i64 t.givenUp)
theorem LkS.two {PA ma ra PB mb rb:Nat}{s t:Stt}{W:World}(h:LkS PA ma ra s W) (k:LkS PB mb rb t W):LkS2 PA ma ra s PB mb rb t W:=by
 obtain⟨a0,a1,a2,a3,a4,a5,a6,a7,a8,a9,a10,a11,a12⟩:=h
 obtain⟨b0,b1,b2,b3,b4,b5,b6,b7,b8,b9,b10,b11,b12⟩:=k
 exact⟨a0,a1,a2,a3,a4,a5,a6,a7,a8,a9,a10,a11,a12,b0,b1,b2,b3,b4,b5,b6,b7,b8,b9,b10,b11,b12⟩
structure PLA (w:World) (K:Nat) (pb mb rb:Nat->Nat) (g n i p q:Nat) (F:Nat->Nat->Nat) (M:Nat->Md) (R:Nat->Rm) (W:World):Prop where
 p:p<K
 q:q<K
 st:Sta W F K pb mb rb M R g n
 rel:∀k,k<K->Rel2 i (M k) (R k)
 af:∀b,b<w.heap.size->∀j,F j b=0
 bl:Below w.heap.size w W
section
variable {w W W' : World} {K : Nat} {pb mb rb : Nat -> Nat} {g n i p q : Nat} {F F' : Nat -> Nat -> Nat} {M : Nat -> Md} {R : Nat -> Rm}
theorem PLA.vary (h:PLA w K pb mb rb g n i p q F M R W){M':Nat->Md}{R':Nat->Rm}{n' i':Nat}(hs:Sta W' F' K pb mb rb M' R' g n') (hr:∀k,k<K->Rel2 i' (M' k) (R' k)) (hv:SMv W F W' F'):PLA w K pb mb rb g n' i' p q F' M' R' W':=
 ⟨h.p,h.q,hs,hr,fun b hb=>hv.1 b (Nat.lt_of_lt_of_le hb h.bl.size) (h.af b hb),h.bl.trans (hv.2.below h.bl.size (fun x ⟨j,e⟩=>Nat.le_of_not_lt fun hx=>e (h.af x hx j)))⟩
theorem PLA.step (h:PLA w K pb mb rb g n i p q F M R W){M1:Md}{R1:Rm}(hs:Sta W' F' K pb mb rb (upd M p M1) (upd R p R1) g (n+40)) (hr:Rel2 (i+1) M1 R1) (hv:SMv W F W' F'):PLA w K pb mb rb g (n+40) (i+1) p q F' (upd M p M1) (upd R p R1) W':=
 h.vary hs (fun k hk=>by
  unfold upd
  split
  ·exact hr
  ·exact(h.rel k hk).mono (Nat.le_succ _)) hv
theorem PLA.idle (h:PLA w K pb mb rb g n i p q F M R W) (hb:Below W.heap.size W W'):PLA w K pb mb rb g n i p q F M R W':=h.vary (h.st.below hb) h.rel (SMv.below hb)
theorem PLA.up (h:PLA w K pb mb rb g n i p q F M R W):PLA w K pb mb rb g (n+40) (i+1) p q F M R W:=⟨h.p,h.q,h.st.mono (by omega),fun k hk=>(h.rel k hk).mono (Nat.le_succ _),h.af,h.bl⟩
theorem PLA.swap (h:PLA w K pb mb rb g n i p q F M R W):PLA w K pb mb rb g n i q p F M R W:=⟨h.q,h.p,h.st,h.rel,h.af,h.bl⟩
end
def knownC:Cfg:=⟨4,8,10,5,100,20,2⟩
theorem knownC_ok:cfgOk knownC=true:=by decide
end Rl
set_option maxRecDepth 40000 in
theorem playsA_any (c:Cfg) (L:List OpD) (sv:Value) (w:World) (hsv:IsOps w.heap.size w sv L) (hL:L.length<=1048576) (hok:∀o∈L,OpOx w.heap.size w o) :
  Calls Tryz.prog 6 #[.agg #[.int .i64 c.ring,.int .i64 c.window,.int .i64 c.delay,.int .i64 c.rate,.int .i64 c.burst,.int .i64 c.retry,.int .i64 c.tries],sv,.int .i64 11] w fun e w'=>e = .returned (.bool true)/\Below w.heap.size w w':=by
 obtain⟨ao,cap,rfl,hcs⟩:=hsv
 have Hcs:=hyd hcs
 have Hok:=hyd hok
 obtain⟨N,hN⟩:∃N,L.length=N:=⟨_,rfl⟩
 have HN:=hyd hN
 rw[hN]at hL ⊢
 clear hcs hok hN
 have hp75:Tryz.prog.stoodInHeld 49=false:=by kernel_rfl
 have hm75:Tryz.prog.eqGuardType Tryz.prog.depth 49=false:=by kernel_rfl
 have HBa:Hid (∀bk,Below w.heap.size w (w.alloc bk)):=fun bk=>(Below.refl _ _).alloc (Nat.le_refl _) bk
 go_enter Tryz.func6,Tryz.ntmps6
 go_wp2_with fail
 refine(begun_any c _).mono ?_
 rintro e w1 ⟨hb1,hc1⟩
 have HB1:Hid (Below w.heap.size w w1):=(HBa.out _).trans (hb1.mono (HBa.out _).size)
 have hz1:w.heap.size<=(w.alloc (.cells #[.int .i64 c.ring,.int .i64 c.window,.int .i64 c.delay,.int .i64 c.rate,.int .i64 c.burst,.int .i64 c.retry,.int .i64 c.tries] 23)).heap.size:=by simp
 generalize w.alloc (.cells #[.int .i64 c.ring,.int .i64 c.window,.int .i64 c.delay,.int .i64 c.rate,.int .i64 c.burst,.int .i64 c.retry,.int .i64 c.tries] 23)=w0 at *
 rcases hc1 with⟨hf1,rfl⟩|⟨hf1,pa,ma,ra,ρa,ρb,rfl,hP1⟩
 focus
  clear hb1
  go_wp2_with fail
  refine(begun_any knownC _).mono ?_
  rintro e w2 ⟨hb2,⟨hf2,rfl⟩|⟨hf2,p2,m2,r2,ρm,ρr,rfl,hP2⟩⟩
  ·exact absurd (hf2.symm.trans knownC_ok) (by decide)
  have HB2:Hid (Below w.heap.size w w2):=HB1.out.trans (hb2.mono HB1.out.size)
  have HP2:=hyd hP2
  clear hb2 hP2 hf2
  go_wp2
  have HS0:Hid (∃(K:Nat) (pb mb rb:Nat->Nat) (g p q:Nat) (F:Nat->Nat->Nat) (M:Nat->Md) (R:Nat->Rm),w2.heap.size=g/\p2=pb p/\p2=pb q/\PLA w K pb mb rb g 0 0 p q F M R (w2.alloc (.cells #[.slice none 0 0,.slice none 0 0,.slice none 0 0,.slice none 0 0,.slice none 0 0,.slice none 0 0,.int .i64 0] 37))):=by
   refine⟨1,_,_,_,_,0,0,_,_,_,rfl,rfl,rfl,Nat.one_pos,Nat.one_pos,Sta.init1 _ HP2.out,fun k hk=>Rel2.new _ knownC_ok,fun b hb j=>?_,HB2.out.alloc HB2.out.size _⟩
   have h1:=HB1.out.size
   have h2:=HB2.out.size
   have hpz:w1.heap.size<=p2:=HP2.out.np
   match j with
   | 0=>
    show newRole _ b=0
    unfold newRole
    exact if_neg (by omega)
   | 1=>exact Decidable.byContradiction fun e=>by have:=(HP2.out.nm b e).1;omega
   | 2=>exact Decidable.byContradiction fun e=>by have:=(HP2.out.nr b e).1;omega
   | _+3=>rfl
  generalize w2.alloc (.cells #[.slice none 0 0,.slice none 0 0,.slice none 0 0,.slice none 0 0,.slice none 0 0,.slice none 0 0,.int .i64 0] 37)=W7 at *
  obtain⟨K,pb,mb,rb,g,p0,q0,F0,M0,R0,hg,e1,e2,hPL⟩:=HS0.out
  rw[hg]
  rw[e2]at e1
  rw[e2]
  have HPL:Hid (PLA w K pb mb rb g 0 0 q0 q0 F0 M0 R0 W7):=⟨hPL.q,hPL.q,hPL.st,hPL.rel,hPL.af,hPL.bl⟩
  clear hPL HS0 HB1 HB2 HP2 HBa e1 e2 hg hf1
  go_loopw [7,8,9,12] (fun s7 s8 s9 s12 wr=>∃(i p q:Nat) (F:Nat->Nat->Nat) (M:Nat->Md) (R:Nat->Rm),i<=N/\s12 = .int .i64 i/\s7 = .pointer (some ⟨pb p,0,none⟩)/\s9 = .pointer (some ⟨pb q,0,none⟩)/\s8 = .bool true/\PLA w K pb mb rb g (40*i) i p q F M R wr) (fun _ _ _ s12 _=>N-(intOf s12).toNat)
  case atStart=>exact⟨0,q0,q0,F0,M0,R0,Nat.zero_le _,rfl,rfl,rfl,rfl,HPL.out⟩
 rotate_left
 focus
  have HP1:=hyd hP1
  have Hf1:=hyd hf1
  clear hb1 hP1 hf1
  go_wp2_with fail
  refine(begun_any knownC _).mono ?_
  rintro e w2 ⟨hb2,⟨hf2,rfl⟩|⟨hf2,p2,m2,r2,ρm,ρr,rfl,hP2⟩⟩
  ·exact absurd (hf2.symm.trans knownC_ok) (by decide)
  have HB2:Hid (Below w.heap.size w w2):=HB1.out.trans (hb2.mono HB1.out.size)
  have HV:=hyd hb2
  have HP2:=hyd hP2
  clear hb2 hP2 hf2
  go_wp2
  have HS0:Hid (∃(K:Nat) (pb mb rb:Nat->Nat) (g p q:Nat) (F:Nat->Nat->Nat) (M:Nat->Md) (R:Nat->Rm),w2.heap.size=g/\pa=pb p/\p2=pb q/\PLA w K pb mb rb g 0 0 p q F M R (w2.alloc (.cells #[.slice none 0 0,.slice none 0 0,.slice none 0 0,.slice none 0 0,.slice none 0 0,.slice none 0 0,.int .i64 0] 37))):=by
   refine⟨2,_,_,_,_,0,1,_,_,_,rfl,rfl,rfl,Nat.two_pos,by omega,Sta.init2 _ HP1.out HV.out HP2.out,fun k hk=>?_,fun b hb j=>?_,HB2.out.alloc HB2.out.size _⟩
   ·rcases(by omega:k=0\/k=1)with rfl|rfl
    ·exact Rel2.new _ Hf1.out
    ·exact Rel2.new _ knownC_ok
   have h1:=HB1.out.size
   have h2:=HB2.out.size
   match j with
   | 0=>
    show newRole _ b=0
    unfold newRole
    exact if_neg (by omega)
   | 1=>exact Decidable.byContradiction fun e=>by have:=(HP1.out.nm b e).1;omega
   | 2=>exact Decidable.byContradiction fun e=>by have:=(HP1.out.nr b e).1;omega
   | 3=>exact Decidable.byContradiction fun e=>by have:=(HP2.out.nm b e).1;omega
   | 4=>exact Decidable.byContradiction fun e=>by have:=(HP2.out.nr b e).1;omega
   | _+5=>rfl
  generalize w2.alloc (.cells #[.slice none 0 0,.slice none 0 0,.slice none 0 0,.slice none 0 0,.slice none 0 0,.slice none 0 0,.int .i64 0] 37)=W7 at *
  obtain⟨K,pb,mb,rb,g,p0,q0,F0,M0,R0,hg,e1,e2,hPL⟩:=HS0.out
  rw[hg,e1,e2]
  have HPL:=hyd hPL
  clear hPL HS0 HB1 HB2 HP1 HP2 HV HBa e1 e2 hg Hf1
  go_loopw [7,8,9,12] (fun s7 s8 s9 s12 wr=>∃(i p q:Nat) (F:Nat->Nat->Nat) (M:Nat->Md) (R:Nat->Rm),i<=N/\s12 = .int .i64 i/\s7 = .pointer (some ⟨pb p,0,none⟩)/\s9 = .pointer (some ⟨pb q,0,none⟩)/\s8 = .bool true/\PLA w K pb mb rb g (40*i) i p q F M R wr) (fun _ _ _ s12 _=>N-(intOf s12).toNat)
  case atStart=>exact⟨0,p0,q0,F0,M0,R0,Nat.zero_le _,rfl,rfl,rfl,rfl,HPL.out⟩
 all_goals
  case round=>
   obtain⟨i,p,q,F,M,R,hi,rfl,rfl,rfl,rfl,hP⟩:=hrel
   have HP:=hyd hP
   clear hP HPL
   by_cases hiN:i<N
   ·have hiN':(i:Int)<N:=by omega
    obtain⟨o,ho⟩:∃o,L[i]? = some o:=⟨_,List.getElem?_eq_getElem (by rw[HN.out];exact hiN)⟩
    obtain⟨sb,off,rfl,hsb,hcl⟩:=Hcs.out i o ho
    have HOk:Hid (OpOx w.heap.size w o):=Hok.out o (List.mem_of_getElem? ho)
    have HCl:Hid (∀j u,(opL o)[j]? = some u->wr.cell? (Addr.add ⟨sb,off+i*30,none⟩ j)=some u):=fun j u hu=>by
     have h1:=(HP.out.bl.cell (p:=⟨sb,off+i*30+j,none⟩) hsb).trans (hcl j u hu)
     rw[show(⟨sb,off+i*30,none⟩:Addr).add j=⟨sb,off+i*30+j,none⟩ by unfold Addr.add;split<;>simp_all]
     exact h1
    clear hcl ho hsb
    go_wp2_with (refine wpList_load_list rfl 45 (.tmp 50) rfl ⟨sb,off+i*30,none⟩ rfl (opKL o.kind o) (by kernel_rfl) (by kernel_rfl) HCl.out ?_;refine stop_here ?_)
    refine hid_in ?_
    go_wp2_with (refine wpList_store_new rfl 45 (.tmp 13) (.tmp 51) rfl wr #[.int .i64 0,.int .i64 0,.string ⟨#[]⟩,.int .i64 0,.int .i64 0,.int .i64 0,.int .i64 0,.int .i64 0,.int .i64 0,.int .i64 0,.int .i64 0,.int .i64 0,.int .i64 0,.int .i64 0,.int .i64 0,.int .i64 0,.bool false,.int .i64 0,.int .i64 0,.int .i64 0,.int .i64 0,.slice none 0 0,.bool false,.int .i64 0,.string ⟨#[]⟩,.string ⟨#[]⟩,.int .i64 0,.int .i64 0,.int .i64 0,.slice none 0 0] (opK o.kind o) rfl rfl rfl (by kernel_rfl) rfl (by kernel_rfl) ?_;refine stop_here ?_)
    refine hid_in ?_
    have hC1:∀j u,((opKL o.kind o):List Value)[j]? = some u->(wr.alloc (.cells (opK o.kind o) 45)).cell? (Addr.add ⟨wr.heap.size,0,none⟩ j)=some u:=cells_new _ (opKL o.kind o) _
    have k0:(wr.alloc (.cells (opK o.kind o) 45)).cell? ⟨wr.heap.size,0,none⟩=some (.int .i64 o.kind):=cell_new _ _ _ 0
    have hBb:Below wr.heap.size wr (wr.alloc (.cells (opK o.kind o) 45)):=(Below.refl _ _).alloc (Nat.le_refl _) _
    have HP1:Hid (PLA w K pb mb rb g (40*i) i p q F M R (wr.alloc (.cells (opK o.kind o) 45))):=HP.out.idle hBb
    have HOk1:Hid (OpOx w.heap.size (wr.alloc (.cells (opK o.kind o) 45)) o):=HOk.out.below HP1.out.bl
    have HC1:=hyd hC1
    have hwz:w.heap.size<=(wr.alloc (.cells (opK o.kind o) 45)).heap.size:=HP1.out.bl.size
    clear hBb HP HOk HCl hC1
    generalize wr.alloc (.cells (opK o.kind o) 45)=wb at *
    generalize wr.heap.size=B at *
    by_cases h7:o.kind=7
    ·have h7':(o.kind == 7)=true:=by simp[h7]
     clear h7
     go_wp2_with fail
     refine(st_looks HP1.out.st (by omega)).mono ?_
     rintro e w3 ⟨rfl,s1,s2⟩
     have HP3:Hid (PLA w K pb mb rb g (40*i+40) (i+1) q p F M R w3):=((HP1.out.vary s1 HP1.out.rel s2).up).swap
     clear s1 s2 k0
     go_wp2
     go_roundw
     case rel=>exact⟨i+1,q,p,F,M,R,by omega,by go_num,rfl,rfl,rfl,HP3.out⟩
     case measure=>simp[intOf];omega
    ·have h7':(o.kind == 7)=false:=by rw[beq_eq_false_iff_ne];exact h7
     by_cases h8:o.kind<=11
     ·have h8':decide (o.kind<=11)=true:=decide_eq_true h8
      have hpk:=HP1.out.p
      go_wp2_with (refine wpList_load_list rfl 45 (.tmp 13) rfl ⟨B,0,none⟩ rfl (opKL o.kind o) (by kernel_rfl) (by kernel_rfl) HC1.out ?_;refine stop_here ?_)
      refine hid_in ?_
      go_wp2_with fail
      refine(stepa_any o w.heap.size HP1.out.st hpk (HP1.out.rel p hpk) (by omega) (by omega) HOk1.out hwz h8 h7).mono ?_
      rintro e w2 ⟨rfl,F2,M1,R1,s1,s2,s3⟩
      have HP2:Hid (PLA w K pb mb rb g (40*i+40) (i+1) p q F2 (upd M p M1) (upd R p R1) w2):=HP1.out.step s1 s2 s3
      clear s1 s2 s3 k0
      go_wp2_with fail
      refine(st_looks HP2.out.st (by omega)).mono ?_
      rintro e w3 ⟨rfl,s1,s2⟩
      have HP3:Hid (PLA w K pb mb rb g (40*i+40) (i+1) p q F2 (upd M p M1) (upd R p R1) w3):=HP2.out.vary s1 HP2.out.rel s2
      clear s1 s2
      go_wp2
      go_roundw
      case rel=>exact⟨i+1,p,q,F2,_,_,by omega,by go_num,rfl,rfl,rfl,HP3.out⟩
      case measure=>simp[intOf];omega
     ·have h8':decide (o.kind<=11)=false:=decide_eq_false h8
      go_wp2_with fail
      refine(st_looks HP1.out.st (by omega)).mono ?_
      rintro e w3 ⟨rfl,s1,s2⟩
      have HP3:Hid (PLA w K pb mb rb g (40*i+40) (i+1) p q F M R w3):=(HP1.out.vary s1 HP1.out.rel s2).up
      clear s1 s2 k0
      go_wp2
      go_roundw
      case rel=>exact⟨i+1,p,q,F,M,R,by omega,by go_num,rfl,rfl,rfl,HP3.out⟩
      case measure=>simp[intOf];omega
   ·have hiN':¬(i:Int)<N:=by omega
    obtain⟨S,hS⟩:∃S,(R p).sds.length=S:=⟨_,rfl⟩
    have HS:=hyd hS
    have hS4:S<=4:=by
     have h1:=(HP.out.rel p HP.out.p).r
     have h2:=h1.sl
     have h3:=h1.s4
     omega
    clear hS
    go_wp2
    generalize wr=wo at *
    go_loopw [8,16] (fun s8 s16 wr=>∃(j:Nat) (F:Nat->Nat->Nat),j<=S/\s16 = .int .i64 j/\s8 = .bool true/\PLA w K pb mb rb g (40*i+2*j) i p q F M R wr) (fun _ s16 _=>S-(intOf s16).toNat)
    case atStart=>exact⟨0,F,Nat.zero_le _,rfl,rfl,HP.out⟩
    case round=>
     obtain⟨j,F3,hj,rfl,rfl,hP⟩:=hrel
     have HP3:=hyd hP
     have hpk:=hP.p
     obtain⟨y0,y1,-⟩:=hP.st.pc p hpk
     unfold ptr at y0 y1
     obtain⟨sv,wv,hR⟩:=hP.st.rd p hpk
     obtain⟨aS,cS,hsv⟩:=rowA_shape hR.sr.1
     have y18:wr.cell? ⟨rb p,18,none⟩=some sv:=hR.k 18 _ rfl
     rw[HS.out]at hsv
     rw[hsv]at y18
     clear hP HP
     by_cases hjS:j<S
     ·have hjS':(j:Int)<S:=by omega
      obtain⟨s,hs⟩:∃s,(R p).sds[j]? = some s:=⟨_,List.getElem?_eq_getElem (by rw[HS.out];exact hjS)⟩
      obtain⟨sg,scap,hsl,x0,-⟩:=hR.sndAt hs
      rw[hsv,HS.out]at hsl
      simp only[Value.slice.injEq,true_and]at hsl
      obtain⟨rfl,rfl⟩:=hsl
      clear hR hs hsv
      go_wp2_with fail
      refine(lmissing_any HP3.out.st hpk (HP3.out.rel p hpk).r (by omega) _).mono ?_
      rintro e w4 ⟨rfl,F4,s1,s2⟩
      have HP4:Hid (PLA w K pb mb rb g (40*i+2*j+2) i p q F4 M R w4):=HP3.out.vary s1 HP3.out.rel s2
      clear s1 s2 y0 y1 y18 x0
      go_wp2
      go_roundw
      case rel=>exact⟨j+1,F4,by omega,by go_num,rfl,HP4.out⟩
      case measure=>simp[intOf];omega
     ·have hjS':¬(j:Int)<S:=by omega
      have hqk:=HP3.out.q
      have es:=(HP3.out.rel p hpk).r.s
      have et:=(HP3.out.rel q hqk).r.s
      have Hes:=hyd es
      have Het:=hyd et
      have hS1:LkS2 (pb p) (mb p) (rb p) (R p).s (pb q) (mb q) (rb q) (R q).s wr:=(HP3.out.st.lk hpk).two (HP3.out.st.lk hqk)
      clear hR hsv es et
      go_wp2
      clear y0 y1 y18
      refine wp_region_noPanic ?_
      refine wp_region_held_drew (S:=LkS2 (pb p) (mb p) (rb p) (R p).s (pb q) (mb q) (rb q) (R q).s) (by kernel_rfl) hS1 (fun zH=>?_)
      refine tka 0 ?_
      refine tka 1 ?_
      refine tka 2 ?_
      refine tka 3 ?_
      refine tka 5 ?_
      refine tka 6 ?_
      refine tka 7 ?_
      refine tka 8 ?_
      refine tka 9 ?_
      refine tka 10 ?_
      refine tka 11 ?_
      refine rd1 4 fun K' hK=>?_
      go_simp
      refine(st_look (by first|exact HP3.out.st|exact HP3.out.st.below (Below.refl _ _).drew) hpk).mono ?_
      rintro e w5 ⟨rfl,hb5⟩
      have hB5:Below wr.heap.size wr w5:=by first|exact hb5|exact(Below.refl _ _).drew.trans (hb5.mono (by simp))
      have HP5:Hid (PLA w K pb mb rb g (40*i+2*j) i p q F3 M R w5):=HP3.out.idle hB5
      have hS5:LkS2 (pb p) (mb p) (rb p) (R p).s (pb q) (mb q) (rb q) (R q).s w5:=(HP5.out.st.lk hpk).two (HP5.out.st.lk hqk)
      rw[Hes.out]
      unfold sttA
      clear hb5 hB5
      go_simp
      refine hK.out _ _ hS5 (fun zH=>?_)
      clear hK K' hS1
      refine tka 12 ?_
      refine tka 13 ?_
      refine tka 14 ?_
      refine tka 15 ?_
      refine tka 16 ?_
      refine tka 17 ?_
      refine tka 19 ?_
      refine tka 20 ?_
      refine tka 21 ?_
      refine tka 22 ?_
      refine tka 23 ?_
      refine tka 24 ?_
      refine tka 25 ?_
      refine rd1 18 fun K' hK=>?_
      go_simp
      refine(st_look (by first|exact HP5.out.st|exact HP5.out.st.below (Below.refl _ _).drew) hqk).mono ?_
      rintro e w6 ⟨rfl,hb6⟩
      have hB6:Below w5.heap.size w5 w6:=by first|exact hb6|exact(Below.refl _ _).drew.trans (hb6.mono (by simp))
      have HP6:Hid (PLA w K pb mb rb g (40*i+2*j) i p q F3 M R w6):=HP5.out.idle hB6
      have hS6:LkS2 (pb p) (mb p) (rb p) (R p).s (pb q) (mb q) (rb q) (R q).s w6:=(HP6.out.st.lk hpk).two (HP6.out.st.lk hqk)
      rw[Het.out]
      unfold sttA
      clear hb6 hB6
      go_simp
      refine hK.out _ _ hS6 (fun zH=>?_)
      clear hK K' hS5
      refine tka 26 ?_
      refine tka 27 ?_
      refine tka 28 ?_
      refine doN ?_
      clear zH hS6
      go_wp2
      go_ret
      exact⟨rfl,HP6.out.bl⟩
end Go.Proofs.YtdjhhnolcafkiaaGreat
