import Derived.Test.YtdjhhnolcafkiaaGreatG07
import Derived.Test.YtdjhhnolcafkiaaGreatG02
import Derived.Test.YtdjhhnolcafkiaaGreatG12
import Derived.Test.YtdjhhnolcafkiaaGreatG01
import Derived.Test.YtdjhhnolcafkiaaGreatG05
import Derived.Deep.RegionHeld
import Derived.Outline
import Derived.Test.YtdjhhnolcafkiaaGreatG06
import Derived.Test.YtdjhhnolcafkiaaGreatG08
set_option linter.unusedVariables false
set_option linter.unusedSimpArgs false
set_option maxHeartbeats 40000000
set_option maxRecDepth 20000
namespace Go.Proofs.YtdjhhnolcafkiaaGreat
open Go.RowKit
namespace Pk
def rNum (at_ ring:Nat) (S:Rm × List ByteArray) (n:Int):Rm × List ByteArray:=
 match S.1.wns[at_]? with
 | none=>S
 | some x=>
  match (rAgain S.1 at_ x n ring).2 with
  | none=>({ (rAgain S.1 at_ x n ring).1 with s:={ (rAgain S.1 at_ x n ring).1.s with refused:=(rAgain S.1 at_ x n ring).1.s.refused+1 } },S.2)
  | some t=>({ (rAgain S.1 at_ x n ring).1 with s:={ (rAgain S.1 at_ x n ring).1.s with again:=(rAgain S.1 at_ x n ring).1.s.again+1 } },S.2++[t])
def rNums1 (at_ ring:Nat) (S:Rm × List ByteArray) (l:List Int):Rm × List ByteArray:=l.foldl (rNum at_ ring) S
def rAsks (at_ ring:Nat) (src:Int) (S:Rm × List ByteArray) (l:List (Int × List Int)):Rm × List ByteArray:=l.foldl (fun S a=>if a.1=src then rNums1 at_ ring S a.2 else S) S
def rReport (R:Rm) (id:Int) (t:ByteArray) (ring:Nat):Rm × List ByteArray × Int:=
 match rwPos R id with
 | none=>(R,[],4)
 | some k=>
  match repR t with
  | none=>({ R with s:={ R.s with wrong:=R.s.wrong+1 } },[],1)
  | some L=>
   match R.wns[k]? with
   | none=>(R,[],4)
   | some x=>((rAsks k ring x.pl.source (R,[]) (L.map fun y=>((y.2.1:Int),y.2.2))).1,(rAsks k ring x.pl.source (R,[]) (L.map fun y=>((y.2.1:Int),y.2.2))).2,0)
structure RB (R:Rm) (m:Nat):Prop where
 now:0<=R.s.now/\R.s.now<=1000000000000000
 tok:0<=R.s.tokens/\R.s.tokens<=1000000000
 ag:0<=R.s.again/\R.s.again<=100000000000000+(m:Int)
 rf:0<=R.s.refused/\R.s.refused<=100000000000000+(m:Int)
 w:∀x∈R.wns,x.all.length<=2000000/\(∀e∈x.all,-1<=e.again/\e.again<=1000000000000000)/\(∀e∈x.all,e.x.cl.length<=100000/\e.x.en.size<=1000000/\e.x.py.size<=1000000)/\0<=x.second/\x.second<=100000000000+(m:Int)/\0<=x.pl.secondFirst/\x.pl.secondFirst<=65535
theorem rAgain_cases (R:Rm) (i:Nat) (x:Rw) (n:Int) (ring:Nat):rAgain R i x n ring=(R,none)\/∃k e,x.all[k]? = some e/\((tellX (rAgainX x e n)).1.size:Int)<=R.s.tokens/\rAgain R i x n ring=({ R with s:={ R.s with tokens:=R.s.tokens-(tellX (rAgainX x e n)).1.size },wns:=R.wns.set i { x with all:=x.all.set k { e with again:=R.s.now },second:=x.second+1 } },some (tellX (rAgainX x e n)).1):=by
 unfold rAgain
 split
 ·exact .inl rfl
 ·rename_i k _
  split
  ·exact .inl rfl
  ·rename_i e he
   split
   ·exact .inl rfl
   ·split
    ·exact .inl rfl
    ·rename_i h
     exact .inr ⟨k,e,he,by omega,rfl⟩
theorem RB.num {R:Rm}{m at_ ring:Nat}{out:List ByteArray}{n:Int}(h:RB R m):RB (rNum at_ ring (R,out) n).1 (m+1)/\(rNum at_ ring (R,out) n).1.c=R.c/\(rNum at_ ring (R,out) n).1.wns.length=R.wns.length/\(rNum at_ ring (R,out) n).1.s.now=R.s.now/\(∀x,R.wns[at_]? = some x->∃x',(rNum at_ ring (R,out) n).1.wns[at_]? = some x'/\x'.pl=x.pl)/\(rNum at_ ring (R,out) n).2.length<=out.length+1:=by
 have hw:∀x∈R.wns,x.all.length<=2000000/\(∀e∈x.all,-1<=e.again/\e.again<=1000000000000000)/\(∀e∈x.all,e.x.cl.length<=100000/\e.x.en.size<=1000000/\e.x.py.size<=1000000)/\0<=x.second/\x.second<=100000000000+((m+1:Nat):Int)/\0<=x.pl.secondFirst/\x.pl.secondFirst<=65535:=fun x hx=>by
  obtain⟨a,b,c,d,e,f⟩:=h.w x hx
  exact⟨a,b,c,d,by omega,f⟩
 have h1:=h.ag
 have h2:=h.rf
 have h3:=h.tok
 unfold rNum
 simp only
 cases hx:R.wns[at_]? with
 | none=>
  dsimp only
  exact⟨⟨h.now,h.tok,by omega,by omega,hw⟩,rfl,rfl,rfl,fun x e=>by(cases e),by omega⟩
 | some x=>
  have hil:=(List.getElem?_eq_some_iff.1 hx).1
  have hxm:x∈R.wns:=List.mem_of_getElem? hx
  simp only
  rcases rAgain_cases R at_ x n ring with e|⟨k,e,he,hs,e'⟩
  ·rw[e]
   exact⟨⟨h.now,h.tok,by simp only;omega,by simp only;omega,hw⟩,rfl,rfl,rfl,fun y hy=>⟨x,hx,by rw[Option.some.injEq]at hy;rw[hy]⟩,by simp⟩
  ·rw[e']
   refine⟨⟨h.now,by simp only;omega,by simp only;omega,by simp only;omega,fun y hy=>?_⟩,rfl,by simp,rfl,fun y hy=>?_,by simp⟩
   ·simp only at hy
    rcases List.mem_or_eq_of_mem_set hy with h4|rfl
    ·exact hw y h4
    ·obtain⟨a,b,c,d,e1,f⟩:=h.w x hxm
     have hem:e∈x.all:=List.mem_of_getElem? he
     refine⟨by simp only[List.length_set];exact a,fun q hq=>?_,fun q hq=>?_,by simp only;omega,by simp only;omega,f⟩
     ·rcases List.mem_or_eq_of_mem_set hq with h5|rfl
      ·exact b q h5
      ·have:=h.now
       simp only
       omega
     ·rcases List.mem_or_eq_of_mem_set hq with h5|rfl
      ·exact c q h5
      ·exact c e hem
   ·rw[Option.some.injEq]at hy
    subst hy
    exact⟨{ x with all:=x.all.set k { e with again:=R.s.now },second:=x.second+1 },by simp only;rw[List.getElem?_set_self hil],rfl⟩
theorem entNums_in16 (a b:Nat) (ha:a<65536):In16 (entNums a b):=by
 intro n hn
 unfold entNums at hn
 rcases List.mem_cons.1 hn with rfl|hn
 ·omega
 ·obtain⟨r,hr,rfl⟩:=List.mem_map.1 hn
  omega
theorem num_two (a b:UInt8):num [a,b]<65536:=by
 have h1:=a.toNat_lt
 have h2:=b.toNat_lt
 simp only[num,List.foldl_cons,List.foldl_nil]
 omega
theorem entsR_in16:∀l:List UInt8,In16 (entsR l)
 | a::b::c::d::r=>by
  intro n hn
  rw[entsR]at hn
  rcases List.mem_append.1 hn with h|h
  ·exact entNums_in16 _ _ (num_two a b) n h
  ·exact entsR_in16 r n h
 | []=>fun n hn=>by simp[entsR]at hn
 | [_]=>fun n hn=>by simp[entsR]at hn
 | [_,_]=>fun n hn=>by simp[entsR]at hn
 | [_,_,_]=>fun n hn=>by simp[entsR]at hn
theorem partsR_in16:∀(n:Nat) (l:List UInt8) (L:List (Nat × Nat × List Int)),partsR n l=some L->∀y∈L,In16 y.2.2
 | 0,l,L,h=>by
  rw[partsR]at h
  split at h
  ·rw[Option.some.injEq]at h;subst h;intro y hy;cases hy
  ·cases h
 | n+1,l,L,h=>by
  rw[partsR]at h
  split at h
  ·rw[Option.some.injEq]at h;subst h;intro y hy;cases hy
  ·split at h
   ·cases h
   ·split at h
    ·cases h
    ·split at h
     ·split at h
      ·cases h
      ·cases hp:partsR n (l.drop (partLen l))with
       | none=>rw[hp]at h;cases h
       | some L'=>
        rw[hp,Option.map_some,Option.some.injEq]at h
        subst h
        intro y hy
        rcases List.mem_cons.1 hy with rfl|hy
        ·exact entsR_in16 _
        ·exact partsR_in16 n _ L' hp y hy
     ·exact partsR_in16 n _ L h
theorem repR_in16 {t:ByteArray}{L:List (Nat × Nat × List Int)}(h:repR t=some L):∀y∈L,In16 y.2.2:=by
 unfold repR at h
 split at h
 ·cases h
 ·exact partsR_in16 _ _ _ h
theorem askR_no {se so:Int}{l:List Int}(h:askOk se so l=false):askR se so l=(⟨#[]⟩,2):=by
 unfold askR
 rw[if_neg (by rw[h];simp)]
theorem askOk_no {se so:Int}{l:List Int}(h:¬((0<=se/\se<=4294967295)/\(0<=so/\so<=4294967295)/\1<=l.length/\l.length<=300)):askOk se so l=false:=by
 cases e:askOk se so l with
 | false=>rfl
 | true=>
  simp only[askOk,Bool.and_eq_true,decide_eq_true_eq]at e
  exact absurd ⟨e.1.1.1.1,e.1.1.1.2,e.1.1.2,e.1.2⟩ h
theorem askOk_in {se so:Int}{l:List Int}(h:allIn l 65535=false):askOk se so l=false:=by
 unfold askOk
 rw[h,Bool.and_false]
theorem entriesF_next (l:List Int) (i p:Nat) (E:List (Nat × Nat)) (hi:i<l.length) (hp:l.getD i 0=p) (hE:entriesF (l.take i)=E) (hb:Brk E p):entriesF (l.take (i+1))=E++[(p,0)]:=by
 rw[entriesF_succ l i hi,hE,hp,Int.toNat_natCast]
 exact hb
structure Grp (l:List Int) (E:List (Nat × Nat)) (p j:Nat) (S:List Nat) (more:Bool):Prop where
 jl:j<=l.length
 ent:entriesF (l.take j)=E++[(p,orF S 0)]
 ran:∀d∈S,1<=d/\d<=16
 len:S.length<=j
 stop:more=false->∃_h:j<l.length,¬(1<=stepsTo (l.getD j 0).toNat p/\stepsTo (l.getD j 0).toNat p<=16)
theorem Grp.brk {l:List Int}{E:List (Nat × Nat)}{p j:Nat}{S:List Nat}{more:Bool}(h:Grp l E p j S more) (hj:more=false\/j=l.length):∀i,i=j->i<l.length->Brk (E++[(p,orF S 0)]) (l.getD i 0).toNat:=by
 rintro i rfl hi
 rcases hj with hj|hj
 ·obtain⟨_,hn⟩:=h.stop hj
  exact pushE_no _ _ _ _ hn
 ·omega
def mz:Value->Nat | .bool true=>1|_=>0
theorem Grp.add {l:List Int}{E:List (Nat × Nat)}{p j x:Nat}{S:List Nat}(h:Grp l E p j S true) (hj:j<l.length) (hx:l.getD j 0=(x:Int)) (h1:1<=stepsTo x p) (h2:stepsTo x p<=16):Grp l E p (j+1) (S++[stepsTo x p]) true:=by
 refine⟨by omega,?_,?_,?_,fun e=>by cases e⟩
 ·rw[entriesF_succ l j hj,h.ent,hx,Int.toNat_natCast,pushE_yes _ _ _ _ h1 h2,orF_snoc]
 ·intro d hd
  rcases List.mem_append.1 hd with hd|hd
  ·exact h.ran d hd
  ·simp at hd;subst hd;exact⟨h1,h2⟩
 ·have:=h.len;simp;omega
theorem Grp.end {l:List Int}{E:List (Nat × Nat)}{p j x:Nat}{S:List Nat}(h:Grp l E p j S true) (hj:j<l.length) (hx:l.getD j 0=(x:Int)) (hn:¬(1<=stepsTo x p/\stepsTo x p<=16)):Grp l E p j S false:=
 ⟨h.jl,h.ent,h.ran,h.len,fun _=>⟨hj,by rw[hx,Int.toNat_natCast];exact hn⟩⟩
theorem entB_snoc (E:List (Nat × Nat)) (p b:Nat):entB (E++[(p,b)])=entB E++told p 2++told b 2:=by
 unfold entB
 rw[List.flatMap_append]
 simp
theorem map_snoc (S:List Nat) (d:Nat):(S++[d]).map (fun n:Nat=>(n:Int))=S.map (fun n:Nat=>(n:Int))++[(d:Int)]:=by simp
theorem fold_len:∀(l:List Int) (E:List (Nat × Nat)),(l.foldl (fun E n=>pushE E n.toNat) E).length<=E.length+l.length:=by
 intro l
 induction l with
 | nil=>intro E;simp
 | cons n l ih=>
  intro E
  have h1:=(pushE_len E n.toNat).1
  have h2:=ih (pushE E n.toNat)
  rw[List.foldl_cons,List.length_cons]
  omega
end Pk
open Pk
theorem refAsk_any (se so:Int) (nv:Value) (l:List Int) (w:World) (hv:IsInts w.heap.size w nv l) (hl:l.length<=17592186044416) :
  Calls Tryz.prog 49 #[.agg #[.int .i64 se,.int .i64 so,nv]] w fun e w'=>e = .returned (.tuple #[.string (askR se so l).1,.int .i64 (askR se so l).2])/\Below w.heap.size w w':=by
 obtain⟨ao,cap,rfl,hc⟩:=hv
 have Hc:=hyd hc
 clear hc
 by_cases hall:(0<=se/\se<=4294967295)/\(0<=so/\so<=4294967295)/\1<=l.length/\l.length<=300
 case neg=>
  have HA:Hid (askR se so l=(⟨#[]⟩,2)):=askR_no (askOk_no hall)
  have Hw:Hid (Below w.heap.size w (w.alloc (.cells #[.int .i64 se,.int .i64 so,.slice ao l.length cap] 43))):=(Below.refl _ _).alloc (Nat.le_refl _) _
  by_cases h1:0<=se/\se<=4294967295
  case neg=>
   clear hall
   go_enter Tryz.func49,Tryz.ntmps49
   go_wp2_with fail
   refine(refIn_any _ _ _).mono ?_
   rintro e w1 ⟨rfl,rfl⟩
   rw[decide_eq_false h1]
   go_wp2_with fail
   refine(refIn_any _ _ _).mono ?_
   rintro e w1 ⟨rfl,rfl⟩
   generalize decide (0<=so/\so<=4294967295)=b2
   go_wp2
   go_ret2
   rw[HA.out]
   exact⟨rfl,Hw.out⟩
  by_cases h2:0<=so/\so<=4294967295
  case neg=>
   clear hall
   go_enter Tryz.func49,Tryz.ntmps49
   go_wp2_with fail
   refine(refIn_any _ _ _).mono ?_
   rintro e w1 ⟨rfl,rfl⟩
   rw[decide_eq_true h1]
   go_wp2_with fail
   refine(refIn_any _ _ _).mono ?_
   rintro e w1 ⟨rfl,rfl⟩
   rw[decide_eq_false h2]
   go_wp2
   go_ret2
   rw[HA.out]
   exact⟨rfl,Hw.out⟩
  by_cases h3:1<=l.length
  case neg=>
   clear hall
   have h3i:(l.length:Int)<1:=by omega
   go_enter Tryz.func49,Tryz.ntmps49
   go_wp2_with fail
   refine(refIn_any _ _ _).mono ?_
   rintro e w1 ⟨rfl,rfl⟩
   rw[decide_eq_true h1]
   go_wp2_with fail
   refine(refIn_any _ _ _).mono ?_
   rintro e w1 ⟨rfl,rfl⟩
   rw[decide_eq_true h2]
   go_wp2
   go_ret2
   rw[HA.out]
   exact⟨rfl,Hw.out⟩
  have h3i:¬(l.length:Int)<1:=by omega
  have h4i:(300:Int)<l.length:=by omega
  clear hall
  go_enter Tryz.func49,Tryz.ntmps49
  go_wp2_with fail
  refine(refIn_any _ _ _).mono ?_
  rintro e w1 ⟨rfl,rfl⟩
  rw[decide_eq_true h1]
  go_wp2_with fail
  refine(refIn_any _ _ _).mono ?_
  rintro e w1 ⟨rfl,rfl⟩
  rw[decide_eq_true h2]
  go_wp2
  go_ret2
  rw[HA.out]
  exact⟨rfl,Hw.out⟩
 obtain⟨h1,h2,h3,h4⟩:=hall
 have h3i:¬(l.length:Int)<1:=by omega
 have h4i:¬(300:Int)<l.length:=by omega
 go_enter Tryz.func49,Tryz.ntmps49
 go_wp2_with fail
 refine(refIn_any _ _ _).mono ?_
 rintro e w1 ⟨rfl,rfl⟩
 rw[decide_eq_true h1]
 go_wp2_with fail
 refine(refIn_any _ _ _).mono ?_
 rintro e w1 ⟨rfl,rfl⟩
 rw[decide_eq_true h2]
 go_wp2
 obtain⟨W1,hW1⟩:∃W1,W1=w.alloc (.cells #[.int .i64 se,.int .i64 so,.slice ao l.length cap] 43):=⟨_,rfl⟩
 rw[<-hW1]
 have hx0:W1.cell? ⟨w.heap.size,0,none⟩=some (.int .i64 se):=by rw[hW1];exact cell_new _ _ _ 0
 have hx1:W1.cell? ⟨w.heap.size,1,none⟩=some (.int .i64 so):=by rw[hW1];exact cell_new _ _ _ 1
 have hx2:W1.cell? ⟨w.heap.size,2,none⟩=some (.slice ao l.length cap):=by rw[hW1];exact cell_new _ _ _ 2
 have HW1:Hid (Below w.heap.size w W1):=by show Below _ _ _;rw[hW1];exact(Below.refl _ _).alloc (Nat.le_refl _) _
 have hW1s:w.heap.size<W1.heap.size:=by rw[hW1];simp
 clear hW1
 go_loopw [6] (fun s6 wr=>∃k:Nat,k<=l.length/\s6 = .int .i64 k/\wr=W1/\allIn (l.take k) 65535=true) (fun s6 _=>l.length-(intOf s6).toNat)
 case atStart=>exact⟨0,Nat.zero_le _,rfl,rfl,rfl⟩
 case round=>
  obtain⟨k,hk,rfl,rfl,hin⟩:=hrel
  have Hin:=hyd hin
  clear hin
  by_cases hlt:k<l.length
  ·have hlt':(k:Int)<l.length:=by omega
   obtain⟨b,off,rfl,hb,hx⟩:=Hc.out k hlt
   have hx':=(HW1.out.cell (p:=⟨b,off+k,none⟩) hb).trans hx
   obtain⟨q,hq⟩:∃q,l.getD k 0=q:=⟨_,rfl⟩
   have Hq:=hyd hq
   have Hsu:Hid (allIn (l.take (k+1)) 65535=(allIn (l.take k) 65535 && decide (0<=l.getD k 0/\l.getD k 0<=65535))):=allIn_take_succ l k 65535 hlt
   rw[hq]at hx' Hsu
   clear hq hx
   go_wp2_with fail
   refine(refIn_any _ _ _).mono ?_
   rintro e w1 ⟨rfl,rfl⟩
   by_cases hr:0<=q/\q<=65535
   ·rw[decide_eq_true hr]
    have hQ:allIn (l.take (k+1)) 65535=true:=by rw[Hsu.out,Hin.out,decide_eq_true hr];rfl
    have HQ:=hyd hQ
    clear hQ
    go_wp2
    go_roundw
    case rel=>exact⟨k+1,by omega,by go_num,trivial,HQ.out⟩
    case measure=>simp[intOf];omega
   ·rw[decide_eq_false hr]
    have HA:Hid (askR se so l=(⟨#[]⟩,2)):=askR_no (askOk_in (allIn_false l (k+1) 65535 (by rw[Hsu.out,decide_eq_false hr,Bool.and_false])))
    go_wp2
    go_ret2
    rw[HA.out]
    exact⟨rfl,HW1.out⟩
  ·have hlt':¬(k:Int)<l.length:=by omega
   have hke:k=l.length:=by omega
   have hin:=Hin.out
   rw[hke,List.take_of_length_le (Nat.le_refl _)]at hin
   have HAll:Hid (∀n∈l,0<=n/\n<=65535):=allIn_mem hin
   have HA:Hid (askR se so l=(⟨(askB se.toNat so.toNat (entriesF l)).toArray⟩,0)):=by
    show _=_
    unfold askR
    rw[if_pos]
    unfold askOk
    rw[decide_eq_true h1,decide_eq_true h2,decide_eq_true h3,decide_eq_true h4,hin]
    rfl
   clear hin Hin
   have hx0':Hid (∀W,Below (w.heap.size+1) wr W->W.cell? ⟨w.heap.size,0,none⟩=some (.int .i64 se)):=fun W hW=>(hW.cell (p:=⟨w.heap.size,0,none⟩) (Nat.lt_succ_self _)).trans hx0
   have hx1':Hid (∀W,Below (w.heap.size+1) wr W->W.cell? ⟨w.heap.size,1,none⟩=some (.int .i64 so)):=fun W hW=>(hW.cell (p:=⟨w.heap.size,1,none⟩) (Nat.lt_succ_self _)).trans hx1
   have hx2':Hid (∀W,Below (w.heap.size+1) wr W->W.cell? ⟨w.heap.size,2,none⟩=some (.slice ao l.length cap)):=fun W hW=>(hW.cell (p:=⟨w.heap.size,2,none⟩) (Nat.lt_succ_self _)).trans hx2
   clear hx0 hx1
   go_wp2
   clear hx2
   generalize hw1:wr=W1 at *
   clear hw1 hlt hlt' hk
   go_loopw [8,9] (fun s8 s9 wr=>∃(i:Nat) (t:ByteArray) (E:List (Nat × Nat)),i<=l.length/\s8 = .string t/\s9 = .int .i64 i/\t.data.toList=entB E/\entriesF (l.take i)=E/\E.length<=i/\(∀j,j=i->j<l.length->Brk E (l.getD j 0).toNat)/\Below (w.heap.size+1) W1 wr) (fun _ s9 _=>l.length-(intOf s9).toNat)
   case atStart=>exact⟨0,⟨#[]⟩,[],Nat.zero_le _,rfl,rfl,rfl,rfl,Nat.le_refl _,fun j _ _=>rfl,Below.refl _ _⟩
   case round=>
    obtain⟨i,t,E,hi,rfl,rfl,ht,hE,hEl,hbrk,hbel⟩:=hrel
    have Ht:=hyd ht
    have hts:t.size=4*E.length:=by rw[Lib.size_eq,ht,entB_length]
    have hts':t.size<=1200:=by omega
    have HE:=hyd hE
    have Hbrk:=hyd hbrk
    have Hbel:=hyd hbel
    have Hts:=hyd hts
    have hwr:=hbel.size
    have hx2:=hx2'.out wr hbel
    clear ht hE hbrk hbel hts
    by_cases hlt:i<l.length
    ·have hlt':(i:Int)<l.length:=by omega
     obtain⟨b,off,rfl,hb,hx⟩:=Hc.out i hlt
     have hx':=(Hbel.out.cell (p:=⟨b,off+i,none⟩) (by simp only;omega)).trans ((HW1.out.cell (p:=⟨b,off+i,none⟩) hb).trans hx)
     obtain⟨p,hp⟩:∃p:Nat,l.getD i 0=(p:Int):=by
      have:=HAll.out (l.getD i 0) (by rw[List.getD_eq_getElem?_getD,List.getElem?_eq_getElem hlt];exact List.getElem_mem hlt)
      exact⟨_,(Int.toNat_of_nonneg this.1).symm⟩
     have hp16:p<65536:=by
      have:=HAll.out (l.getD i 0) (by rw[List.getD_eq_getElem?_getD,List.getElem?_eq_getElem hlt];exact List.getElem_mem hlt)
      omega
     have HG:Hid (Grp l E p (i+1) [] true):=by
      refine⟨by omega,?_,fun d hd=>by simp at hd,by simp,fun e=>by cases e⟩
      refine entriesF_next l i p E hlt hp HE.out ?_
      have:=Hbrk.out i rfl hlt
      rwa [hp,Int.toNat_natCast]at this
     rw[hp]at hx'
     clear hx hp
     go_wp2
     clear hx2 hx'
     go_loopw [9,11,12] (fun s9 s11 s12 wi=>∃(j:Nat) (S:List Nat) (more:Bool),s9 = .int .i64 j/\s12 = .bool more/\OwnInts wi (w.heap.size+1) s11 (S.map fun n:Nat=>(n:Int))/\Grp l E p j S more/\i+1<=j/\Below (w.heap.size+1) W1 wi) (fun s9 _ s12 _=>2*(l.length-(intOf s9).toNat)+mz s12)
     case atStart=>exact⟨i+1,[],true,by go_num,rfl,World.ownsRow_nil _ _ _ _,HG.out,Nat.le_refl _,Hbel.out⟩
     case round=>
      clear Hbel
      obtain⟨j,S,more,rfl,rfl,hown,hG,hij,hbel⟩:=hrel
      obtain⟨a1,c1,rfl⟩:=hown.shape
      rw[List.length_map]at hown ⊢
      have Hown:=hyd hown
      have HG:=hyd hG
      have hjl:=hG.jl
      have hSl:=hG.len
      have Hbel:=hyd hbel
      have hwr:=hbel.size
      have hx2:=hx2'.out wr hbel
      clear hown hG hbel
      by_cases hgo:more=true/\j<l.length
      ·obtain⟨rfl,hjlt⟩:=hgo
       have hjlt':(j:Int)<l.length:=by omega
       obtain⟨b',off',hbo,_,hx⟩:=Hc.out j hjlt
       simp only[Option.some.injEq,Addr.mk.injEq,and_true]at hbo
       obtain⟨rfl,rfl⟩:=hbo
       have hx':=(Hbel.out.cell (p:=⟨b,off+j,none⟩) (by simp only;omega)).trans ((HW1.out.cell (p:=⟨b,off+j,none⟩) hb).trans hx)
       obtain⟨x,hxx⟩:∃x:Nat,l.getD j 0=(x:Int):=by
        have:=HAll.out (l.getD j 0) (by rw[List.getD_eq_getElem?_getD,List.getElem?_eq_getElem hjlt];exact List.getElem_mem hjlt)
        exact⟨_,(Int.toNat_of_nonneg this.1).symm⟩
       have hx16:x<65536:=by
        have:=HAll.out (l.getD j 0) (by rw[List.getD_eq_getElem?_getD,List.getElem?_eq_getElem hjlt];exact List.getElem_mem hjlt)
        omega
       have Hxx:=hyd hxx
       have Hrs:Hid (((x:Int)-(p:Int))%65536=(stepsTo x p:Int)):=round_steps x p hx16 hp16
       rw[hxx]at hx'
       clear hx hxx
       go_wp2_with fail
       refine(refRound_any _ _).mono ?_
       rintro e w1 ⟨rfl,hw1⟩
       rw[hw1,Hrs.out]
       clear hw1 w1
       obtain⟨d,hd⟩:∃d,stepsTo x p=d:=⟨_,rfl⟩
       have Hd:=hyd hd
       rw[hd]
       by_cases hr:1<=d/\d<=16
       ·obtain⟨hr1,hr2⟩:=hr
        have HG2:Hid (Grp l E p (j+1) (S++[d]) true):=by
         have:=HG.out.add hjlt Hxx.out (by omega) (by omega)
         rwa [hd]at this
        clear hd
        go_wp2_with (at_builtin;(
         refine wpList_append_int rfl (.tmp 92) (.tmp 94) rfl (w.heap.size+1) _ (S.map fun n:Nat=>(n:Int)) (d:Int) rfl (Hown.out.alloc _) _ 1 rfl ?_ (by simp;omega) (by simp;omega) ?_
         ·exact cell_one_new _ _ _ 0 _ rfl
         intro v' w2 hown' hgrow _
         refine stop_here ?_))
        have R1:Hid (OwnInts w2 (w.heap.size+1) v' ((S++[d]).map fun n:Nat=>(n:Int))):=by show OwnInts _ _ _ _;rw[map_snoc];exact hown'
        have R2:Hid (Below (w.heap.size+1) W1 w2):=(Hbel.out.alloc (by omega) _).grown hgrow (by simp;omega) (fun x hx=>(World.ownsRow.lt Hown.out x hx).1)
        obtain⟨a2,c2,rfl⟩:=hown'.shape
        clear hown' hgrow hx2 hx'
        refine hid_in ?_
        go_wp2
        go_roundw
        case rel=>exact⟨j+1,S++[d],true,by go_num,rfl,R1.out,HG2.out,by omega,R2.out⟩
        case measure=>simp[intOf,mz];omega
       ·have HG2:Hid (Grp l E p j S false):=HG.out.end hjlt Hxx.out (by rw[hd];exact hr)
        clear hd
        by_cases hr1:1<=d
        ·have hr1':(1:Int)<=d:=by omega
         have hr2':decide ((d:Int)<=16)=false:=decide_eq_false (by omega)
         clear hr
         go_wp2
         go_roundw
         case rel=>exact⟨j,S,false,rfl,rfl,Hown.out,HG2.out,by omega,Hbel.out⟩
         case measure=>simp[intOf,mz]
        ·have hr1':¬(1:Int)<=d:=by omega
         clear hr
         go_wp2
         go_roundw
         case rel=>exact⟨j,S,false,rfl,rfl,Hown.out,HG2.out,by omega,Hbel.out⟩
         case measure=>simp[intOf,mz]
      ·have Hend:Hid (more=false\/j=l.length):=by
        show _\/_
        cases more
        ·exact .inl rfl
        ·exact .inr (by have:¬j<l.length:=fun h=>hgo ⟨rfl,h⟩;omega)
       have Hown2:Hid (∀m,m<S.length->∃b2 o2,a1=some ⟨b2,o2,none⟩/\wr.cell? ⟨b2,o2+m,none⟩=some (.int .i64 (S.getD m 0:Nat))):=by
        intro m hm
        obtain⟨aa,cc,he,hh⟩:=OwnInts.isInts Hown.out
        simp only[Value.slice.injEq]at he
        obtain⟨rfl,_,rfl⟩:=he
        obtain⟨b2,o2,rfl,_,hx⟩:=hh m (by simpa using hm)
        refine⟨b2,o2,rfl,hx.trans ?_⟩
        simp[List.getD,hm]
       have hO16:=orF_lt S HG.out.ran 0 (by omega)
       have Hbits:Hid (∀k,(orF S 0).testBit k=S.contains (k+1)):=fun k=>by
        have:=orF_bit S k (fun d hd=>(HG.out.ran d hd).1) 0
        rw[this]
        simp
       have hS300:S.length<=300:=by omega
       have HBR:Hid (∀i,i=j->i<l.length->Brk (E++[(p,orF S 0)]) (l.getD i 0).toNat):=HG.out.brk Hend.out
       clear Hown Hend
       rcases(show more=false\/(more=true/\¬j<l.length) by
        cases more
        ·exact .inl rfl
        ·exact .inr ⟨rfl,fun h=>hgo ⟨rfl,h⟩⟩)with rfl|⟨rfl,hjn⟩
       focus
        clear hx2
        go_wp2
       rotate_left
       focus
        have hjn':¬(j:Int)<l.length:=by omega
        go_wp2
        clear hx2
       all_goals
        go_loopw [14,15,16] (fun s14 s15 s16 wi=>∃d:Nat,1<=d/\d<=17/\s14 = .int .i64 ((orF S 0%2 ^ (d-1):Nat):Int)/\s15 = .int .i64 ((2 ^ (d-1):Nat):Int)/\s16 = .int .i64 d/\wi=wr) (fun _ _ s16 _=>17-(intOf s16).toNat)
        case atStart=>exact⟨1,by omega,by omega,by simp[Nat.mod_one],rfl,rfl,rfl⟩
        case round=>
         obtain⟨d,hd1,hd2,rfl,rfl,rfl,rfl⟩:=hrel
         by_cases hd:d<=16
         ·have hd':(d:Int)<=16:=by omega
          have hnx:=mod_next (orF S 0) (d-1)
          rw[Hbits.out (d-1),show d-1+1=d by omega]at hnx
          have hU2:(2:Nat) ^ d=2*2 ^ (d-1):=by rw[<-Nat.pow_succ',show(d-1).succ=d by omega]
          have hUl:(2:Nat) ^ (d-1)<=2 ^ 15:=Nat.pow_le_pow_right (by omega) (by omega)
          have hBl:orF S 0%2 ^ (d-1)<=orF S 0:=Nat.mod_le _ _
          have Hnx:=hyd hnx
          have HU2:=hyd hU2
          clear hnx hU2
          generalize hBB:orF S 0%2 ^ (d-1)=B at *
          generalize hUU:(2:Nat) ^ (d-1)=U at *
          have HBB:Hid (orF S 0%2 ^ (d-1)=B):=by show _=_;rw[hUU];exact hBB
          clear hBB
          have HUU:=hyd hUU
          clear hUU
          go_wp2
          go_loopw [14,17] (fun s14 s17 wi=>∃k:Nat,k<=S.length/\s14 = .int .i64 B/\s17 = .int .i64 k/\(∀m,m<k->S.getD m 0≠d)/\wi=wr) (fun _ s17 _=>S.length-(intOf s17).toNat)
          case atStart=>exact⟨0,Nat.zero_le _,rfl,rfl,fun m hm=>absurd hm (by omega),rfl⟩
          case round=>
           obtain⟨k,hk,rfl,rfl,hno,rfl⟩:=hrel
           have Hno:=hyd hno
           clear hno
           by_cases hks:k<S.length
           ·have hks':(k:Int)<S.length:=by omega
            obtain⟨b2,o2,rfl,hcl⟩:=Hown2.out k hks
            obtain⟨q,hq⟩:∃q,S.getD k 0=q:=⟨_,rfl⟩
            have Hq:=hyd hq
            rw[hq]at hcl
            clear hq
            by_cases hqd:q=d
            ·have hqd':((q:Int) == (d:Int))=true:=by simp[hqd]
             have hcon:S.contains d=true:=by
              rw[List.contains_iff_mem,<-hqd,<-Hq.out,List.getD_eq_getElem?_getD,List.getElem?_eq_getElem hks]
              exact List.getElem_mem hks
             have Hcon:=hyd hcon
             clear hqd hcon
             go_wp2
             go_roundw
             case rel=>exact⟨d+1,by omega,by omega,by rw[show d+1-1=d by omega,Hnx.out,if_pos Hcon.out];go_num,by rw[show d+1-1=d by omega,HU2.out];go_num,by go_num,trivial⟩
             case measure=>simp[intOf];omega
            ·have hqd':((q:Int) == (d:Int))=false:=by rw[beq_eq_false_iff_ne];omega
             go_wp2
             go_roundw
             case rel=>exact⟨k+1,by omega,rfl,by go_num,fun m hm=>by
              rcases Nat.lt_or_ge m k with h|h
              ·exact Hno.out m h
              ·rw[show m=k by omega,Hq.out];exact hqd,trivial⟩
             case measure=>simp[intOf];omega
           ·have hks':¬(k:Int)<S.length:=by omega
            have hcon:¬S.contains d=true:=by
             rw[List.contains_iff_mem]
             intro hm
             obtain⟨m,hm1,hm2⟩:=List.mem_iff_getElem.1 hm
             exact Hno.out m (by omega) (by rw[List.getD_eq_getElem?_getD,List.getElem?_eq_getElem hm1];exact hm2)
            have Hcon:=hyd hcon
            clear hcon
            go_wp2
            go_roundw
            case rel=>exact⟨d+1,by omega,by omega,by rw[show d+1-1=d by omega,Hnx.out,if_neg Hcon.out];rfl,by rw[show d+1-1=d by omega,HU2.out];go_num,by go_num,trivial⟩
            case measure=>simp[intOf];omega
         ·have hd':¬(d:Int)<=16:=by omega
          have hd17:d=17:=by omega
          subst hd17
          have hfin:orF S 0%2 ^ (17-1)=orF S 0:=Nat.mod_eq_of_lt (by omega)
          rw[hfin]
          have Hent:=HG.out.ent
          generalize orF S 0=B at *
          have HEl:E.length+1<=j:=by
           have h1:(entriesF (l.take j)).length<=(l.take j).length:=by
            have:=(fold_len (l.take j) [])
            simpa[entriesF]using this
           rw[Hent,List.length_append,List.length_take]at h1
           simp at h1
           omega
          have HEnt:=hyd Hent
          have Hbr2:Hid (∀i,i=j->i<l.length->Brk (E++[(p,B)]) (l.getD i 0).toNat):=HBR.out
          clear Hent hfin
          go_wp2_with fail
          refine(refTold_any 2 p _ (by omega) (by omega)).mono ?_
          rintro e w1 ⟨⟨t1,rfl,ht1⟩,hb1⟩
          have hs1:t1.size=2:=by rw[Lib.size_eq,ht1,told_length]
          have Ht1:=hyd ht1
          have Hb1:Hid (Below (w.heap.size+1) W1 w1):=Hbel.out.trans (hb1.mono (by omega))
          have hw1:W1.heap.size<=w1.heap.size:=Hb1.out.size
          clear ht1 hb1
          go_wp2_with fail
          refine(refTold_any 2 B _ (by omega) (by omega)).mono ?_
          rintro e w2 ⟨⟨t2,rfl,ht2⟩,hb2⟩
          have hs2:t2.size=2:=by rw[Lib.size_eq,ht2,told_length]
          have Ht2:=hyd ht2
          have Hb2:Hid (Below (w.heap.size+1) W1 w2):=Hb1.out.trans (hb2.mono (by omega))
          clear ht2 hb2
          go_wp2
          go_roundw
          case rel=>exact⟨j,t++t1++t2,E++[(p,B)],by omega,rfl,rfl,by rw[append_list,append_list,Ht.out,Ht1.out,Ht2.out,entB_snoc],HEnt.out,by simp;omega,Hbr2.out,Hb2.out⟩
          case measure=>simp[intOf];omega
    ·have hlt':¬(i:Int)<l.length:=by omega
     have hil:i=l.length:=by omega
     have hEl2:=HE.out
     rw[hil,List.take_of_length_le (Nat.le_refl _)]at hEl2
     rw[hEl2]at HA
     have HA':Hid (askR se so l=(⟨(askB se.toNat so.toNat E).toArray⟩,0)):=HA
     have hq4:(t.size:Int)/4=(E.length:Int):=by have:=Hts.out;omega
     obtain⟨sn,rfl⟩:=Int.eq_ofNat_of_zero_le h1.1
     obtain⟨tn,rfl⟩:=Int.eq_ofNat_of_zero_le h2.1
     have hy0:=hx0'.out wr Hbel.out
     have hy1:=hx1'.out wr Hbel.out
     have hE3:E.length<=300:=by omega
     have hwa:IntKind.i64.wrap (E.length:Int)=(E.length:Int):=wrapI64 _ (by omega) (by omega)
     have hwb:IntKind.i64.wrap (2+(E.length:Int))=((2+E.length:Nat):Int):=by rw[wrapI64 _ (by omega) (by omega)];omega
     have Hsum:Hid (Below w.heap.size w wr):=HW1.out.trans (Hbel.out.mono (Nat.le_succ _))
     have hs0:=Hsum.out.size
     have hsl:w.heap.size<wr.heap.size:=by omega
     clear HA hEl2
     go_wp2
     refine wp_region_noPanic ?_
     refine wp_region_held_drew (S:=fun W=>W.cell? ⟨w.heap.size,0,none⟩=some (.int .i64 (sn:Int))/\W.cell? ⟨w.heap.size,1,none⟩=some (.int .i64 (tn:Int))) (by kernel_rfl) ⟨hy0,hy1⟩ (fun zH=>?_)
     refine tka 0 ?_
     refine tka 1 ?_
     refine tka 2 ?_
     refine tka 3 ?_
     refine tka 6 ?_
     refine tka 7 ?_
     refine tka 10 ?_
     refine tka 11 ?_
     refine tka 14 ?_
     refine rd1 4 fun K hK=>?_
     go_simp
     refine(refTold_any 2 (2+E.length) _ (by omega) (by omega)).mono ?_
     rintro e w1 ⟨⟨t1,rfl,ht1⟩,hb1⟩
     have hs1:t1.size=2:=by rw[Lib.size_eq,ht1,told_length]
     have Ht1:=hyd ht1
     have hz0:=(hb1.cell (p:=⟨w.heap.size,0,none⟩) (by simpa using hsl)).trans hy0
     have hz1:=(hb1.cell (p:=⟨w.heap.size,1,none⟩) (by simpa using hsl)).trans hy1
     have Hb1:Hid (Below w.heap.size w w1):=Hsum.out.drew.trans (hb1.mono hs0)
     have hsl1:w.heap.size<w1.heap.size:=Nat.lt_of_lt_of_le hsl hb1.size
     clear ht1 hb1 hy0 hy1
     go_wp2_with fail
     refine hK.out _ _ ⟨hz0,hz1⟩ (fun zH=>?_)
     clear hK K
     refine tka 5 ?_
     refine rd1 8 fun K hK=>?_
     go_simp
     refine(refTold_any 4 sn _ (by omega) (by omega)).mono ?_
     rintro e w2 ⟨⟨t2,rfl,ht2⟩,hb2⟩
     have hs2:t2.size=4:=by rw[Lib.size_eq,ht2,told_length]
     have Ht2:=hyd ht2
     have hz0':=(hb2.cell (p:=⟨w.heap.size,0,none⟩) hsl1).trans hz0
     have hz1':=(hb2.cell (p:=⟨w.heap.size,1,none⟩) hsl1).trans hz1
     have Hb2:Hid (Below w.heap.size w w2):=Hb1.out.trans (hb2.mono (Nat.le_of_lt hsl1))
     have hsl2:w.heap.size<w2.heap.size:=Nat.lt_of_lt_of_le hsl1 hb2.size
     clear ht2 hb2 hz0 hz1
     go_wp2_with fail
     refine hK.out _ _ ⟨hz0',hz1'⟩ (fun zH=>?_)
     clear hK K
     refine tka 9 ?_
     refine rd1 12 fun K hK=>?_
     go_simp
     refine(refTold_any 4 tn _ (by omega) (by omega)).mono ?_
     rintro e w3 ⟨⟨t3,rfl,ht3⟩,hb3⟩
     have hs3:t3.size=4:=by rw[Lib.size_eq,ht3,told_length]
     have Ht3:=hyd ht3
     have hz0:=(hb3.cell (p:=⟨w.heap.size,0,none⟩) hsl2).trans hz0'
     have hz1:=(hb3.cell (p:=⟨w.heap.size,1,none⟩) hsl2).trans hz1'
     have Hb3:Hid (Below w.heap.size w w3):=Hb2.out.trans (hb3.mono (Nat.le_of_lt hsl2))
     clear ht3 hb3 hz0' hz1'
     go_wp2_with fail
     refine hK.out _ _ ⟨hz0,hz1⟩ (fun zH=>?_)
     clear hK K
     have hnt:¬9223372036854775807<12+t.size:=by omega
     refine tka 13 ?_
     refine tka 15 ?_
     refine tka 16 ?_
     refine tka 17 ?_
     refine doN ?_
     go_wp2
     go_ret2
     rw[HA'.out]
     refine⟨ret_two (ba_ext ?_) rfl,Hb3.out⟩
     rw[append_list,append_list,append_list,append_list,Ht.out,Ht1.out,Ht2.out,Ht3.out]
     simp[askB]
end Go.Proofs.YtdjhhnolcafkiaaGreat
namespace Go.Proofs.YtdjhhnolcafkiaaGreat
open Go.RowKit
namespace Pk
def rDue (now retry:Int) (g:Rg):Bool:=decide (retry<=now-g.last)
def rGone (now retry tries:Int) (g:Rg):Bool:=rDue now retry g && decide (tries<=g.tries)
def rUpG (now retry:Int) (g:Rg):Rg:=if rDue now retry g=true then⟨g.n,now,g.tries+1⟩else g
def rKeptT (now retry tries:Int) (l:List Rg):List Rg:=l.filter fun g=>!rGone now retry tries g
def rLeftT (now retry tries:Int) (l:List Rg):List Rg:=(rKeptT now retry tries l).map (rUpG now retry)
def rAskT (now retry tries:Int) (l:List Rg):List Int:=((rKeptT now retry tries l).filter (rDue now retry)).map fun g=>g.n%65536
def rTickS (R:Rm) (i:Nat) (s:Rs) (gv:Value):Rm:=
 { R with s:={ R.s with asked:=R.s.asked+(rAskT R.s.now R.c.retry R.c.tries s.gaps).length,givenUp:=R.s.givenUp+((s.gaps.length:Int)-(rKeptT R.s.now R.c.retry R.c.tries s.gaps).length) },sds:=R.sds.set i ⟨s.src,s.newest,gv,rLeftT R.s.now R.c.retry R.c.tries s.gaps⟩ }
def rTickT (R:Rm) (s:Rs):List ByteArray:=if(rAskT R.s.now R.c.retry R.c.tries s.gaps).length=0 then[]else[(askR 0 s.src (rAskT R.s.now R.c.retry R.c.tries s.gaps)).1]
def RTk (R:Rm) (k:Nat) (R':Rm) (out:List ByteArray):Prop:=
 ∀C:Nat->Rm->List ByteArray->Prop,C 0 R []->(∀(k:Nat) (R':Rm) (out:List ByteArray) (s:Rs) (gv:Value),C k R' out->R'.sds[k]? = some s->C (k+1) (rTickS R' k s gv) (out++rTickT R' s))->C k R' out
theorem RTk.zero {R:Rm}:RTk R 0 R []:=fun _ z _=>z
theorem RTk.step {R:Rm}{k:Nat}{R':Rm}{out:List ByteArray}{s:Rs}(gv:Value) (h:RTk R k R' out) (a:R'.sds[k]? = some s):RTk R (k+1) (rTickS R' k s gv) (out++rTickT R' s):=fun C z q=>q _ _ _ _ gv (h C z q) a
theorem RTk.ind {R:Rm}{motive:(k:Nat)->(R':Rm)->(out:List ByteArray)->RTk R k R' out->Prop}(zero:motive 0 R [] .zero)
  (step:∀{k:Nat}{R':Rm}{out:List ByteArray}{s:Rs}(gv:Value) (h:RTk R k R' out) (a:R'.sds[k]? = some s),motive k R' out h->motive (k+1) (rTickS R' k s gv) (out++rTickT R' s) (.step gv h a))
  {k:Nat}{R':Rm}{out:List ByteArray}(h:RTk R k R' out):motive k R' out h:=by
 obtain⟨_,e⟩:=h (fun k R' out=>∃g:RTk R k R' out,motive k R' out g) ⟨.zero,zero⟩ (fun _ _ _ _ gv g a=>⟨.step gv g.1 a,step gv g.1 a g.2⟩)
 exact e
def rWent (R:Rm) (t:Int):Rm:={ R with s:={ R.s with now:=R.s.now+t,tokens:=if R.c.burst<R.s.tokens+R.c.rate*t then R.c.burst else R.s.tokens+R.c.rate*t } }
def RTick (R:Rm) (t:Int) (R':Rm) (out:List ByteArray) (e:Int):Prop:=
 if 0<=t/\t<=1000000 then RTk (rWent R t) R.sds.length R' out/\e=0 else R'=R/\out=[]/\e=2
theorem RTk.keeps {R:Rm}{k:Nat}{R':Rm}{out:List ByteArray}(h:RTk R k R' out):R'.c=R.c/\R'.s.now=R.s.now/\R'.sds.length=R.sds.length/\R'.wns=R.wns/\R'.ids=R.ids/\out.length<=k/\∀j,k<=j->R'.sds[j]? = R.sds[j]?:=by
 induction h using RTk.ind with
 | zero=>exact⟨rfl,rfl,rfl,rfl,rfl,Nat.le_refl _,fun _ _=>rfl⟩
 | @step k R' out s gv _ _ ih=>
  obtain⟨i1,i2,i3,i4,i5,i6,i7⟩:=ih
  refine⟨i1,i2,by simp only[rTickS,List.length_set];exact i3,i4,i5,?_,fun j hj=>?_⟩
  ·rw[List.length_append]
   unfold rTickT
   split<;>simp<;>omega
  ·simp only[rTickS]
   rw[List.getElem?_set_ne (by omega)]
   exact i7 j (by omega)
theorem RTk.counts {R:Rm}{k:Nat}{R':Rm}{out:List ByteArray}(h:RTk R k R' out) (hl:∀s∈R.sds,s.gaps.length<=1000):(R.s.asked<=R'.s.asked/\R'.s.asked<=R.s.asked+1000*k)/\(R.s.givenUp<=R'.s.givenUp/\R'.s.givenUp<=R.s.givenUp+1000*k):=by
 induction h using RTk.ind with
 | zero=>omega
 | @step k R' out s gv hk hs ih=>
  have h1:=hk.keeps.2.2.2.2.2.2 k (Nat.le_refl _)
  rw[hs]at h1
  have h2:=hl s (List.mem_of_getElem? h1.symm)
  have h3:(rKeptT R'.s.now R'.c.retry R'.c.tries s.gaps).length<=s.gaps.length:=List.length_filter_le _ _
  have h4:(rAskT R'.s.now R'.c.retry R'.c.tries s.gaps).length<=s.gaps.length:=by
   unfold rAskT
   rw[List.length_map]
   exact Nat.le_trans (List.length_filter_le _ _) h3
  simp only[rTickS]
  omega
section
variable (now retry tries : Int) (l : List Rg) (k : Nat) (h : k < l.length)
theorem rKeptT_gone (hg:rGone now retry tries l[k]=true):rKeptT now retry tries (l.take (k+1))=rKeptT now retry tries (l.take k):=by
 unfold rKeptT
 rw[filter_take _ _ _ h,if_neg (by rw[hg];decide),List.append_nil]
theorem rKeptT_stays (hg:rGone now retry tries l[k]=false):rKeptT now retry tries (l.take (k+1))=rKeptT now retry tries (l.take k)++[l[k]]:=by
 unfold rKeptT
 rw[filter_take _ _ _ h,if_pos (by rw[hg];rfl)]
theorem rLeftT_gone (hg:rGone now retry tries l[k]=true):rLeftT now retry tries (l.take (k+1))=rLeftT now retry tries (l.take k):=by unfold rLeftT;rw[rKeptT_gone now retry tries l k h hg]
theorem rAskT_gone (hg:rGone now retry tries l[k]=true):rAskT now retry tries (l.take (k+1))=rAskT now retry tries (l.take k):=by unfold rAskT;rw[rKeptT_gone now retry tries l k h hg]
theorem rLeftT_stays (hg:rGone now retry tries l[k]=false):rLeftT now retry tries (l.take (k+1))=rLeftT now retry tries (l.take k)++[rUpG now retry l[k]]:=by unfold rLeftT;rw[rKeptT_stays now retry tries l k h hg,List.map_append];rfl
theorem rAskT_due (hg:rGone now retry tries l[k]=false) (hd:rDue now retry l[k]=true):rAskT now retry tries (l.take (k+1))=rAskT now retry tries (l.take k)++[l[k].n%65536]:=by
 unfold rAskT
 rw[rKeptT_stays now retry tries l k h hg,List.filter_append,List.filter_cons_of_pos hd,List.filter_nil,List.map_append]
 rfl
theorem rAskT_not (hg:rGone now retry tries l[k]=false) (hd:rDue now retry l[k]=false):rAskT now retry tries (l.take (k+1))=rAskT now retry tries (l.take k):=by
 unfold rAskT
 rw[rKeptT_stays now retry tries l k h hg,List.filter_append,List.filter_cons_of_neg (by rw[hd];decide),List.filter_nil,List.append_nil]
end
theorem rKeptT_len (now retry tries:Int) (l:List Rg) (k:Nat):(rKeptT now retry tries (l.take k)).length<=k:=by unfold rKeptT;exact filter_le _ l k
theorem rAskT_len (now retry tries:Int) (l:List Rg) (k:Nat):(rAskT now retry tries (l.take k)).length<=k:=by
 unfold rAskT
 rw[List.length_map]
 exact Nat.le_trans (List.length_filter_le _ _) (rKeptT_len now retry tries l k)
theorem rLeftT_len (now retry tries:Int) (l:List Rg) (k:Nat):(rLeftT now retry tries (l.take k)).length<=k:=by
 unfold rLeftT
 rw[List.length_map]
 exact rKeptT_len now retry tries l k
def TRel (w0:World) (ρ0:Nat->Nat) (rb:Nat) (sv wv:Value) (R:Rm) (out:List ByteArray) (tv:Value) (W:World):Prop:=
 ∃ρ',RdAt W ρ' rb R sv wv/\RMv w0 ρ0 W ρ'/\W.ownsRow w0.heap.size 9 1 tv out.length (out.map Value.string)/\∀b,tv.ownBlock=some b->ρ' b=0
structure TIn (w:World) (ρ:Nat->Nat) (rb:Nat) (R:Rm) (sv wv tv:Value) (T:List ByteArray) (b0 q:Nat) (s:Rs) (gu:Int) (A:List Int) (L:List Rg) (lv fv:Value) (W:World):Prop where
 m:RMid w ρ rb { R with s:={ R.s with givenUp:=gu } } sv wv (fun b=>ρ b=10+q\/ρ b=1\/ρ b=2) W
 g:W.ownsRow 0 126 3 s.gv s.gaps.length (s.gaps.flatMap cRg)
 t:W.ownsRow b0 9 1 tv T.length (T.map Value.string)
 l:OwnInts W w.heap.size lv A
 f:W.ownsRow w.heap.size 126 3 fv L.length (L.flatMap cRg)
 d:∀b,lv.ownBlock=some b->fv.ownBlock≠some b
section
variable {w W W' : World} {ρ : Nat -> Nat} {rb : Nat} {R : Rm} {sv wv tv : Value} {T : List ByteArray} {b0 q : Nat} {s : Rs} {gu : Int} {A : List Int} {L : List Rg} {lv fv v' : Value}
theorem TIn.chg {X:Nat->Prop}(h:TIn w ρ rb R sv wv tv T b0 q s gu A L lv fv W) (h0:RdAt w ρ rb R sv wv) (hs:R.sds[q]? = some s) (ht:∀b,tv.ownBlock=some b->b<w.heap.size) (hc:Chg X W W') (hX:∀b,X b->w.heap.size<=b/\lv.ownBlock≠some b/\fv.ownBlock≠some b):TIn w ρ rb R sv wv tv T b0 q s gu A L lv fv W':=
 ⟨h.m.chg h0.rm hc (fun b hb=>by rw[h0.hi b (hX b hb).1];omega) (fun b hl hb=>absurd (hX b hb).1 (by omega)),rowA_chg hc h.g (fun b hb e=>by have:=((h0.ga q s hs).1.lt b hb).2;have:=(hX b e).1;omega),rowA_chg hc h.t (fun b hb e=>by have:=ht b hb;have:=(hX b e).1;omega),rowA_chg hc h.l (fun b hb e=>(hX b e).2.1 hb),rowA_chg hc h.f (fun b hb e=>(hX b e).2.2 hb),h.d⟩
theorem TIn.below (h:TIn w ρ rb R sv wv tv T b0 q s gu A L lv fv W) (h0:RdAt w ρ rb R sv wv) (hs:R.sds[q]? = some s) (ht:∀b,tv.ownBlock=some b->b<w.heap.size) (hb:Below W.heap.size W W'):TIn w ρ rb R sv wv tv T b0 q s gu A L lv fv W':=h.chg (X:=fun _=>False) h0 hs ht (Chg.ofBelow hb) (fun _ e=>e.elim)
theorem TIn.appL (h:TIn w ρ rb R sv wv tv T b0 q s gu A L lv fv W) (h0:RdAt w ρ rb R sv wv) (hs:R.sds[q]? = some s) (ht:∀b,tv.ownBlock=some b->b<w.heap.size) (x:Int) (hc:Chg (fun b=>lv.ownBlock=some b) W W') (hr:OwnInts W' w.heap.size v' (A++[x])) (ho:v'.ownBlock=lv.ownBlock\/∀b,v'.ownBlock=some b->W.heap.size<=b):TIn w ρ rb R sv wv tv T b0 q s gu (A++[x]) L v' fv W':=by
 have hlv:∀b,lv.ownBlock=some b->w.heap.size<=b/\fv.ownBlock≠some b:=fun b hb=>⟨(h.l.lt b hb).1,h.d b hb⟩
 refine⟨h.m.chg h0.rm hc (fun b hb=>by rw[h0.hi b (hlv b hb).1];omega) (fun b hl hb=>absurd (hlv b hb).1 (by omega)),rowA_chg hc h.g (fun b hb e=>by have:=((h0.ga q s hs).1.lt b hb).2;have:=(hlv b e).1;omega),rowA_chg hc h.t (fun b hb e=>by have:=ht b hb;have:=(hlv b e).1;omega),hr,rowA_chg hc h.f (fun b hb e=>(hlv b e).2 hb),fun b hb=>?_⟩
 rcases ho with o|o
 ·exact h.d b (o▸hb)
 ·intro e
  have h1:=(h.f.lt b e).2
  have h2:=o b hb
  omega
theorem TIn.appF (h:TIn w ρ rb R sv wv tv T b0 q s gu A L lv fv W) (h0:RdAt w ρ rb R sv wv) (hs:R.sds[q]? = some s) (ht:∀b,tv.ownBlock=some b->b<w.heap.size) (x:Rg) (hc:Chg (fun b=>fv.ownBlock=some b) W W') (hr:W'.ownsRow w.heap.size 126 3 v' (L++[x]).length ((L++[x]).flatMap cRg)) (ho:v'.ownBlock=fv.ownBlock\/∀b,v'.ownBlock=some b->W.heap.size<=b):TIn w ρ rb R sv wv tv T b0 q s gu A (L++[x]) lv v' W':=by
 have hfv:∀b,fv.ownBlock=some b->w.heap.size<=b/\lv.ownBlock≠some b:=fun b hb=>⟨(h.f.lt b hb).1,fun e=>h.d b e hb⟩
 refine⟨h.m.chg h0.rm hc (fun b hb=>by rw[h0.hi b (hfv b hb).1];omega) (fun b hl hb=>absurd (hfv b hb).1 (by omega)),rowA_chg hc h.g (fun b hb e=>by have:=((h0.ga q s hs).1.lt b hb).2;have:=(hfv b e).1;omega),rowA_chg hc h.t (fun b hb e=>by have:=ht b hb;have:=(hfv b e).1;omega),rowA_chg hc h.l (fun b hb e=>(hfv b e).2 hb),hr,fun b hb e=>?_⟩
 rcases ho with o|o
 ·exact h.d b hb (o▸e)
 ·have h1:=(h.l.lt b hb).2
  have h2:=o b e
  omega
theorem TIn.gave (h:TIn w ρ rb R sv wv tv T b0 q s gu A L lv fv W) (h0:RdAt w ρ rb R sv wv) (hs:R.sds[q]? = some s) (ht:∀b,tv.ownBlock=some b->ρ b=0/\b<w.heap.size) (gu':Int):TIn w ρ rb R sv wv tv T b0 q s gu' A L lv fv (W.setCell ⟨rb,17,none⟩ (.int .i64 gu')):=by
 have hc:Chg (fun b=>b=rb) W (W.setCell ⟨rb,17,none⟩ (.int .i64 gu')):=(Chg.refl (fun b=>b=rb) _).setCell ⟨rb,17,none⟩ (.inl rfl) _
 have hrl:=h0.lt
 have hrm:=h0.rm
 refine⟨h.m.put hrm (.inr (.inl hrm)) 17 _ rfl rfl rfl,rowA_chg hc h.g (fun b hb e=>by have:=(h0.ga q s hs).2 b hb;rw[e,hrm]at this;omega),rowA_chg hc h.t (fun b hb e=>by have:=(ht b hb).1;rw[e,hrm]at this;cases this),rowA_chg hc h.l (fun b hb e=>by have:=(h.l.lt b hb).1;omega),rowA_chg hc h.f (fun b hb e=>by have:=(h.f.lt b hb).1;omega),h.d⟩
theorem TIn.done (h:TIn w ρ rb R sv wv tv T b0 q s gu A L lv fv W) (h0:RdAt w ρ rb R sv wv) (hs:R.sds[q]? = some s) (ht:∀b,tv.ownBlock=some b->ρ b=0/\b<w.heap.size){sg cap:Nat}(hsv:sv = .slice (some ⟨sg,0,none⟩) R.sds.length cap) (X:Stt) (hX:({ R.s with givenUp:=gu }:Stt)=X) :
  ∃ρ2,RdAt (W.setCell ⟨sg,q*3+2,none⟩ fv) ρ2 rb { R with s:=X,sds:=R.sds.set q ⟨s.src,s.newest,fv,L⟩ } sv wv/\RMv w ρ (W.setCell ⟨sg,q*3+2,none⟩ fv) ρ2/\(W.setCell ⟨sg,q*3+2,none⟩ fv).ownsRow b0 9 1 tv T.length (T.map Value.string)/\(∀b,tv.ownBlock=some b->ρ2 b=0)/\OwnInts (W.setCell ⟨sg,q*3+2,none⟩ fv) w.heap.size lv A/\∀b,lv.ownBlock=some b->ρ2 b=0:=by
 subst hX
 have hq:q<R.sds.length:=(List.getElem?_eq_some_iff.1 hs).1
 have hse:R.sds[q]=s:=(List.getElem?_eq_some_iff.1 hs).2
 have hg2:ρ sg=2:=h0.sr.2 sg (by rw[hsv];rfl)
 have hgl:sg<w.heap.size:=(h0.sr.1.lt sg (by rw[hsv];rfl)).2
 have hc:Chg (fun b=>b=sg) W (W.setCell ⟨sg,q*3+2,none⟩ fv):=(Chg.refl (fun b=>b=sg) _).setCell ⟨sg,q*3+2,none⟩ (.inl rfl) _
 have hset:=h.m.setS (i:=q) (g:=sg) (cap:=cap) h0.rm hsv (.inl (.inr (.inr hg2))) hq 2 (by omega) fv ⟨s.src,s.newest,fv,L⟩ (by simp only;rw[hse];rfl)
 have hf:(W.setCell ⟨sg,q*3+2,none⟩ fv).ownsRow 0 126 3 fv L.length (L.flatMap cRg):=row_mono (rowA_chg hc h.f (fun b hb e=>by have:=(h.f.lt b hb).1;omega)) (Nat.zero_le _)
 obtain⟨a1,a2⟩:=RMid.endS (s':=⟨s.src,s.newest,fv,L⟩) h0 hset (fun b e=>e) hq rfl rfl rfl hf (fun b hb=>(h.f.lt b hb).1)
 refine⟨_,a1,a2,rowA_chg hc h.t (fun b hb e=>by have:=(ht b hb).1;rw[e,hg2]at this;cases this),fun b hb=>a2.1 b (ht b hb).2 (ht b hb).1,rowA_chg hc h.l (fun b hb e=>by have:=(h.l.lt b hb).1;omega),fun b hb=>?_⟩
 rw[role_out (h.d b hb)]
 exact h0.hi b (h.l.lt b hb).1
end
end Pk
namespace Pk
theorem tail_list (s:ByteArray) (a:Nat) (h:a<=s.size):(s.extract a s.size).data.toList=s.data.toList.drop a:=(drop_eq s a h).symm
theorem tail_byte (s:ByteArray) (a k:Nat) (h:a<=s.size):byteAt (s.extract a s.size) k=byteAt s (a+k):=by
 unfold byteAt
 rw[tail_list s a h,List.getD_eq_getElem?_getD,List.getD_eq_getElem?_getD,List.getElem?_drop]
theorem tail_plen (s:ByteArray) (a:Nat) (h:a+4<=s.size):pLen (s.extract a s.size)=4+4*num ((s.data.toList.drop (a+2)).take 2):=by
 unfold pLen
 rw[Lib.extract_data,tail_list s a (by omega),List.drop_drop]
theorem tail_tail (s:ByteArray) (a n:Nat) (h:a+n<=s.size):(s.extract a s.size).extract n (s.extract a s.size).size=s.extract (a+n) s.size:=by
 apply ba_ext
 rw[<-drop_eq _ n (by rw[ByteArray.size_extract];omega),tail_list s a (by omega),tail_list s _ h,List.drop_drop]
def entsAt (s:ByteArray) (k z:Nat):List Int:=entsR ((s.data.toList.drop k).take (z-k))
theorem entsAt_end (s:ByteArray) (k z:Nat) (h:z<=k):entsAt s k z=[]:=by
 unfold entsAt
 rw[show z-k=0 by omega,List.take_zero]
 rfl
theorem setOf_bitsF (p b:Nat):setOf p b=(bitsF b 16).map fun i=>(((p+1+i)%65536:Nat):Int):=rfl
theorem entsAt_step (s:ByteArray) (k z:Nat) (h:k+4<=z) (hz:z<=s.size) :
  entsAt s k z=((num ((s.data.toList.drop k).take 2):Nat):Int)::((bitsF (num ((s.data.toList.drop (k+2)).take 2)) 16).map fun i=>(((num ((s.data.toList.drop k).take 2)+1+i)%65536:Nat):Int))++entsAt s (k+4) z:=by
 have hl:s.data.toList.length=s.size:=(Lib.size_eq s).symm
 unfold entsAt
 rw[entsR_step _ (by rw[List.length_take,List.length_drop];omega),List.drop_take,List.drop_take,List.take_take,List.take_take,List.drop_drop,List.drop_drop,Nat.min_eq_left (by omega),Nat.min_eq_left (by omega),show z-k-4=z-(k+4) by omega,entNums,setOf_bitsF]
theorem parts_askAt (s:ByteArray) (a:Nat) (h4:a+4<=s.size) (hb:(byteAt s a).toNat=129) (hk:(byteAt s (a+1)).toNat=205) (h:a+(4+4*num ((s.data.toList.drop (a+2)).take 2))<=s.size) (h16:16<=4+4*num ((s.data.toList.drop (a+2)).take 2)) :
  partsF (s.extract a s.size).data.toList=(partsF (s.extract (a+(4+4*num ((s.data.toList.drop (a+2)).take 2))) s.size).data.toList).map ((num ((s.data.toList.drop (a+4)).take 4),num ((s.data.toList.drop (a+8)).take 4),entsAt s (a+12) (a+(4+4*num ((s.data.toList.drop (a+2)).take 2))))::·):=by
 have hp:=tail_plen s a h4
 have hsz:(s.extract a s.size).size=s.size-a:=by rw[ByteArray.size_extract];omega
 have h0:(byteAt (s.extract a s.size) 0).toNat=129:=by rw[tail_byte s a 0 (by omega)];exact hb
 have h1:(byteAt (s.extract a s.size) 1).toNat=205:=by rw[tail_byte s a 1 (by omega)];exact hk
 have e:=parts_ask (s.extract a s.size) (by omega) (by rw[h0]) (by rw[hp,hsz];omega) ⟨by rw[h0],h1⟩ (by rw[hp];exact h16)
 rw[hp,tail_tail s a _ h]at e
 have hs2:((s.extract a s.size).extract 0 (4+4*num ((s.data.toList.drop (a+2)).take 2))).size=4+4*num ((s.data.toList.drop (a+2)).take 2):=by rw[ByteArray.size_extract];omega
 rw[hs2]at e
 generalize 4+4*num ((s.data.toList.drop (a+2)).take 2)=n at *
 have e1:∀x y,y<=n->(((s.extract a s.size).extract 0 n).extract x y).data.toList=(s.data.toList.drop (a+x)).take (y-x):=fun x y hy=>by
  rw[Lib.extract_data,Lib.extract_data,List.drop_zero,Nat.sub_zero,List.drop_take,List.take_take,Nat.min_eq_left (by omega),tail_list s a (by omega),List.drop_drop]
 rw[e1 4 8 (by omega),e1 8 12 (by omega),e1 12 n (Nat.le_refl _)]at e
 rw[e]
 unfold entsAt
 rw[show a+n-(a+12)=n-12 by omega]
theorem OwnAsks.below {w w':World}{base:Nat}{lv:Value}{xs:List Ask1}(h:OwnAsks w base lv xs) (hb:Below w.heap.size w w'):OwnAsks w' base lv xs:=
 ⟨rowA_chg (Chg.ofBelow (T:=fun _=>False) hb) h.row (fun _ _ e=>e),fun i x hx=>⟨(h.each i x hx).1.below hb,(h.each i x hx).2⟩,h.apart,h.out⟩
structure BxA (w0 W:World) (a b:Int) (v:Value) (L:List Int):Prop where
 bel:Below w0.heap.size w0 W
 siz:w0.heap.size<W.heap.size
 c0:W.cell? ⟨w0.heap.size,0,none⟩=some (.int .i64 a)
 c1:W.cell? ⟨w0.heap.size,1,none⟩=some (.int .i64 b)
 c2:W.cell? ⟨w0.heap.size,2,none⟩=some v
 fz:∀o,W.frozen? ⟨w0.heap.size,o,none⟩=false
 own:OwnInts W (w0.heap.size+1) v L
theorem BxA.init (w0:World) (a b:Int):BxA w0 (w0.alloc (.cells #[.int .i64 a,.int .i64 b,.slice none 0 0] 43)) a b (.slice none 0 0) []:=
 ⟨(Below.refl _ _).alloc (Nat.le_refl _) _,by simp,cell_new _ _ _ 0,cell_new _ _ _ 1,cell_new _ _ _ 2,fun o=>frozen_new _ _ _ o,World.ownsRow_nil _ _ _ _⟩
theorem BxA.next {w0 W W2:World}{a b:Int}{v v':Value}{L L':List Int}(h:BxA w0 W a b v L) (hown:OwnInts W2 (w0.heap.size+1) v' L') (hg:Below (w0.heap.size+1) W W2):BxA w0 (W2.setCell ⟨w0.heap.size,2,none⟩ v') a b v' L':=by
 have hc:∀o,W2.cell? ⟨w0.heap.size,o,none⟩=W.cell? ⟨w0.heap.size,o,none⟩:=fun o=>hg.cell (p:=⟨w0.heap.size,o,none⟩) (Nat.lt_succ_self _)
 refine⟨(h.bel.trans (hg.mono (Nat.le_succ _))).setCell (p:=⟨w0.heap.size,2,none⟩) (Nat.le_refl _) _,by have:=hg.size;have:=h.siz;simp;omega,?_,?_,World.cell?_setCell_same _ _ _ ((hc 2).trans h.c2),fun o=>?_,hown.setCell (a:=⟨w0.heap.size,2,none⟩) (Nat.lt_succ_self _) _⟩
 ·rw[World.cell?_setCell_other _ _ _ _ (fun e=>by injection e with _ e _;omega),hc];exact h.c0
 ·rw[World.cell?_setCell_other _ _ _ _ (fun e=>by injection e with _ e _;omega),hc];exact h.c1
 ·rw[World.frozen?_setCell,hg.frozen (p:=⟨w0.heap.size,o,none⟩) (Nat.lt_succ_self _)];exact h.fz o
end Pk
open Pk
end Go.Proofs.YtdjhhnolcafkiaaGreat
namespace Go.Proofs.YtdjhhnolcafkiaaGreat
open Go.RowKit Pk
theorem refRep_mid (s:ByteArray) (w:World) (h0:0<s.size) (hs:s.size<=1500) :
  Calls Tryz.prog 58 #[.string s] w fun e w'=>Below w.heap.size w w'/\RepAs (partsF s.data.toList) w.heap.size e w':=by
 have hne:s.toList.isEmpty=false:=by rw[isEmpty_size];exact decide_eq_false (by omega)
 have hsi:(s.size:Int)<=1500:=by omega
 have hsm:s.size<=maxLen:=by unfold maxLen;omega
 go_enter Tryz.func58,Tryz.ntmps58
 go_wp2
 go_loopw [4,5] (fun s4 s5 wr=>∃(a:Nat) (xs:List Ask1),s5 = .int .i64 a/\a<=s.size/\RestR s (s.extract a s.size) xs/\16*xs.length<=a/\OwnAsks wr w.heap.size s4 xs/\Below w.heap.size w wr) (fun _ s5 _=>s.size-(intOf s5).toNat)
 case atStart=>exact⟨0,[],rfl,Nat.zero_le _,by rw[show s.extract 0 s.size=s from ba_ext (by rw[tail_list s 0 (Nat.zero_le _),List.drop_zero])];exact RestR.start s,Nat.le_refl _,OwnAsks.nil _ _,Below.refl _ _⟩
 case round=>
  obtain⟨a,xs,rfl,has,hR,hlen,hown,hb⟩:=hrel
  have HR:=hyd hR
  obtain⟨a1,c1,rfl⟩:=rowA_shape hown.row
  have Hown:=hyd hown
  have Hb:=hyd hb
  have hws:=hb.size
  have hTs:(s.extract a s.size).size=s.size-a:=by rw[ByteArray.size_extract];omega
  clear hR hown hb
  have Hg0:Hid (∀e w',e = .returned wrongR->Below w.heap.size w w'->partsF (s.extract a s.size).data.toList=none->Below w.heap.size w w'/\RepAs (partsF s.data.toList) w.heap.size e w'):=fun e w' he hbe hpe=>by
   refine⟨hbe,?_⟩
   rw[HR.out.wrong hpe]
   exact he
  by_cases hend:a=s.size
  ·have hai:¬(a:Int)<s.size:=by omega
   clear hTs
   have HD:Hid (∃L,partsF s.data.toList=some L/\mapA xs=mapN L):=HR.out.done (by rw[ByteArray.size_extract];omega)
   go_wp2
   go_ret2
   refine⟨Hb.out,?_⟩
   obtain⟨L,hL,hm⟩:=HD.out
   rw[hL]
   exact⟨_,xs,rfl,Hown.out,hm⟩
  have hai:(a:Int)<s.size:=by omega
  by_cases h4:s.size<a+4
  ·have h4i:(s.size:Int)<(a:Int)+4:=by omega
   have Hn:Hid (partsF (s.extract a s.size).data.toList=none):=parts_short _ (by omega) (by omega)
   clear hTs
   go_wp2
   go_ret2
   exact Hg0.out _ _ rfl Hb.out Hn.out
  have h4i:¬(s.size:Int)<(a:Int)+4:=by omega
  have j0:∀W:World,(Instr.index 9 (.string s) (.int .i64 (a:Int))).run Tryz.prog W = .ok (.int .u8 ((byteAt s a).toNat:Int)) W:=fun W=>index_at s a (by omega) W
  have j1:∀W:World,(Instr.index 9 (.string s) (.int .i64 ((a:Int)+1))).run Tryz.prog W = .ok (.int .u8 ((byteAt s (a+1)).toNat:Int)) W:=fun W=>index_at s (a+1) (by omega) W
  have hb0:=(byteAt s a).toNat_lt
  have hb1:=(byteAt s (a+1)).toNat_lt
  have tb0:byteAt (s.extract a s.size) 0=byteAt s a:=tail_byte s a 0 has
  have tb1:byteAt (s.extract a s.size) 1=byteAt s (a+1):=tail_byte s a 1 has
  by_cases hm:(byteAt s a).toNat/32=4
  case neg=>
   have Hn:Hid (partsF (s.extract a s.size).data.toList=none):=parts_mark _ (by omega) (by rw[tb0];exact hm)
   clear tb0 tb1 hTs j1 hb1
   generalize (byteAt s a).toNat=b at *
   by_cases hlo:b<128
   ·have hlo':(b:Int)<128:=by omega
    clear hm
    go_wp2
    go_ret2
    exact Hg0.out _ _ rfl Hb.out Hn.out
   ·have hlo':¬(b:Int)<128:=by omega
    have hhi':(159:Int)<b:=by omega
    clear hm
    go_wp2
    go_ret2
    exact Hg0.out _ _ rfl Hb.out Hn.out
  have hlo':¬((byteAt s a).toNat:Int)<128:=by omega
  have hhi':¬(159:Int)<((byteAt s a).toNat:Int):=by omega
  have hpl:=tail_plen s a (by omega)
  have hq:num ((s.data.toList.drop (a+2)).take 2)<65536:=num_lt_two _ (by rw[List.length_take];omega)
  have Hask:=parts_askAt s a (by omega)
  obtain⟨q,hqq⟩:∃q,num ((s.data.toList.drop (a+2)).take 2)=q:=⟨_,rfl⟩
  have Hqq:=hyd hqq
  rw[hqq]at hpl hq Hask
  clear hqq
  have hcn:Hid (∀W:World,Calls Tryz.prog 82 #[.string s,.int .i64 ((a:Int)+2),.int .i64 2] W fun e w'=>e = .returned (.int .i64 (q:Int))/\w'=W):=fun W=>by
   have h:=refNumber_any s (a+2) 2 W hsm (by omega) (by omega)
   rw[Hqq.out]at h
   exact h
  by_cases hp:s.size<a+(4+4*q)
  ·have Hn:Hid (partsF (s.extract a s.size).data.toList=none):=parts_long _ (by omega) (by rw[hpl];omega)
   have hpi:(s.size:Int)<(a:Int)+4+4*(q:Int):=by omega
   clear tb0 tb1 hTs j1 hb1 Hask hm hpl
   generalize (byteAt s a).toNat=b at *
   go_wp2_with fail
   refine(hcn.out _).mono ?_
   rintro e w1 ⟨rfl,hw1⟩
   rw[hw1]
   clear hw1 w1
   go_wp2
   go_ret2
   exact Hg0.out _ _ rfl Hb.out Hn.out
  have hpi:¬(s.size:Int)<(a:Int)+4+4*(q:Int):=by omega
  by_cases hf:(byteAt s a).toNat=129/\(byteAt s (a+1)).toNat=205
  case neg=>
   have Hsk:Hid (RestR s (s.extract (a+(4+4*q)) s.size) xs):=by
    refine HR.out.skip ?_
    rw[parts_other _ (by omega) (by rw[tb0];exact hm) (by rw[hpl];omega) (fun e=>hf ⟨by rw[tb0]at e;omega,by rw[tb1]at e;exact e.2⟩),hpl,tail_tail s a _ (by omega)]
   clear tb0 tb1 hTs Hask hm hpl
   generalize (byteAt s a).toNat=b at *
   generalize (byteAt s (a+1)).toNat=b' at *
   by_cases hb129:b=129
   ·have e1:((b:Int) == 129)=true:=by rw[beq_iff_eq];omega
    have e2:((b':Int) == 205)=false:=by rw[beq_eq_false_iff_ne];omega
    clear hf
    go_wp2_with fail
    refine(hcn.out _).mono ?_
    rintro e w1 ⟨rfl,hw1⟩
    rw[hw1]
    clear hw1 w1
    go_wp2
    go_roundw
    case rel=>exact⟨a+(4+4*q),xs,by go_num,by omega,Hsk.out,by omega,Hown.out,Hb.out⟩
    case measure=>simp[intOf];omega
   ·have e1:((b:Int) == 129)=false:=by rw[beq_eq_false_iff_ne];omega
    clear hf
    go_wp2_with fail
    refine(hcn.out _).mono ?_
    rintro e w1 ⟨rfl,hw1⟩
    rw[hw1]
    clear hw1 w1
    go_wp2
    go_roundw
    case rel=>exact⟨a+(4+4*q),xs,by go_num,by omega,Hsk.out,by omega,Hown.out,Hb.out⟩
    case measure=>simp[intOf];omega
  obtain⟨hf1,hf2⟩:=hf
  have e1:(((byteAt s a).toNat:Int) == 129)=true:=by rw[beq_iff_eq];omega
  have e2:(((byteAt s (a+1)).toNat:Int) == 205)=true:=by rw[beq_iff_eq];omega
  by_cases h16:q<3
  ·have h16i:(a:Int)+4+4*(q:Int)<(a:Int)+16:=by omega
   have Hn:Hid (partsF (s.extract a s.size).data.toList=none):=parts_small _ (by omega) (by rw[tb0];exact hm) (by rw[hpl];omega) ⟨by rw[tb0];omega,by rw[tb1];exact hf2⟩ (by rw[hpl];omega)
   clear tb0 tb1 hTs Hask hm hpl hf1 hf2
   generalize (byteAt s a).toNat=b at *
   generalize (byteAt s (a+1)).toNat=b' at *
   go_wp2_with fail
   refine(hcn.out _).mono ?_
   rintro e w1 ⟨rfl,hw1⟩
   rw[hw1]
   clear hw1 w1
   go_wp2
   go_ret2
   exact Hg0.out _ _ rfl Hb.out Hn.out
  have h16i:¬(a:Int)+4+4*(q:Int)<(a:Int)+16:=by omega
  have HP:=Hask hf1 hf2 (by omega) (by omega)
  obtain⟨se,hse⟩:∃n,num ((s.data.toList.drop (a+4)).take 4)=n:=⟨_,rfl⟩
  obtain⟨so,hso⟩:∃n,num ((s.data.toList.drop (a+8)).take 4)=n:=⟨_,rfl⟩
  have hc4:Hid (∀W:World,Calls Tryz.prog 82 #[.string s,.int .i64 ((a:Int)+4),.int .i64 4] W fun e w'=>e = .returned (.int .i64 (se:Int))/\w'=W):=fun W=>by
   have h:=refNumber_any s (a+4) 4 W hsm (by omega) (by omega)
   rw[hse]at h
   exact h
  have hc8:Hid (∀W:World,Calls Tryz.prog 82 #[.string s,.int .i64 ((a:Int)+8),.int .i64 4] W fun e w'=>e = .returned (.int .i64 (so:Int))/\w'=W):=fun W=>by
   have h:=refNumber_any s (a+8) 4 W hsm (by omega) (by omega)
   rw[hso]at h
   exact h
  rw[hse,hso]at HP
  have HPa:=hyd HP
  clear tb0 tb1 hTs Hask hm hpl hf1 hf2 HP hse hso
  generalize (byteAt s a).toNat=b at *
  generalize (byteAt s (a+1)).toNat=b' at *
  go_wp2_with fail
  refine(hcn.out _).mono ?_
  rintro e w1 ⟨rfl,hw1⟩
  rw[hw1]
  clear hw1 w1
  go_wp2_with fail
  refine(hc4.out _).mono ?_
  rintro e w1 ⟨rfl,hw1⟩
  rw[hw1]
  clear hw1 w1
  go_wp2_with fail
  refine(hc8.out _).mono ?_
  rintro e w1 ⟨rfl,hw1⟩
  rw[hw1]
  clear hw1 w1
  go_wp2
  obtain⟨z,hz⟩:∃z,z=a+(4+4*q):=⟨_,rfl⟩
  have hzi:(a:Int)+4+4*(q:Int)=(z:Int):=by omega
  rw[hzi]
  have hza:a+16<=z/\z<=s.size/\(z-(a+12))%4=0:=by omega
  rw[<-hz]at HPa
  have HBx:Hid (BxA wr (wr.alloc (Obj.cells #[Value.int IntKind.i64 ↑se,Value.int IntKind.i64 ↑so,Value.slice none 0 0] 43)) se so (.slice none 0 0) []):=BxA.init wr se so
  clear hz hzi hpi h16i hcn hc4 hc8
  generalize hw0:wr=w0 at *
  clear hw0
  go_loopw [8] (fun s8 wi=>∃(k:Nat) (v:Value) (L:List Int),s8 = .int .i64 k/\a+12<=k/\k<=z/\(z-k)%4=0/\L++entsAt s k z=entsAt s (a+12) z/\4*L.length<=17*(k-(a+12))/\BxA w0 wi se so v L) (fun s8 _=>z-(intOf s8).toNat)
  case atStart=>exact⟨a+12,_,[],by go_num,Nat.le_refl _,by omega,by omega,rfl,by simp,HBx.out⟩
  case round=>
   clear HBx
   obtain⟨k,v,L,rfl,hk1,hk2,hk4,hL,hLl,hbx⟩:=hrel
   have HL:=hyd hL
   obtain⟨a2,c2,rfl⟩:=hbx.own.shape
   have HB:=hyd hbx
   have y2:=hbx.c2
   have yf:=hbx.fz
   have ysz:=hbx.siz
   clear hL hbx
   have hLb:L.length<=6383:=by omega
   by_cases hlt:k<z
   ·have hlt':(k:Int)<z:=by omega
    have hst:=entsAt_step s k z (by omega) (by omega)
    obtain⟨p,hp⟩:∃p,num ((s.data.toList.drop k).take 2)=p:=⟨_,rfl⟩
    obtain⟨bt,hbt⟩:∃p,num ((s.data.toList.drop (k+2)).take 2)=p:=⟨_,rfl⟩
    have hp16:p<65536:=by rw[<-hp];exact num_lt_two _ (by rw[List.length_take];omega)
    have hb16:bt<65536:=by rw[<-hbt];exact num_lt_two _ (by rw[List.length_take];omega)
    have hc1:Hid (∀W:World,Calls Tryz.prog 82 #[.string s,.int .i64 (k:Int),.int .i64 2] W fun e w'=>e = .returned (.int .i64 (p:Int))/\w'=W):=fun W=>by
     have h:=refNumber_any s k 2 W hsm (by omega) (by omega)
     rw[hp]at h
     exact h
    have hc2:Hid (∀W:World,Calls Tryz.prog 82 #[.string s,.int .i64 ((k:Int)+2),.int .i64 2] W fun e w'=>e = .returned (.int .i64 (bt:Int))/\w'=W):=fun W=>by
     have h:=refNumber_any s (k+2) 2 W hsm (by omega) (by omega)
     rw[hbt]at h
     exact h
    rw[hp,hbt]at hst
    have Hst:=hyd hst
    clear hst hp hbt
    go_wp2_with fail
    refine(hc1.out _).mono ?_
    rintro e w1 ⟨rfl,hw1⟩
    rw[hw1]
    clear hw1 w1
    go_wp2_with fail
    refine(hc2.out _).mono ?_
    rintro e w1 ⟨rfl,hw1⟩
    rw[hw1]
    clear hw1 w1 hc1 hc2
    go_wp2_with (at_builtin;(
     refine wpList_append_int rfl (.tmp 92) (.tmp 94) rfl (w0.heap.size+1) _ L (p:Int) rfl (HB.out.own.alloc _) _ 1 rfl ?_ (by omega) (by simp;omega) ?_
     ·exact cell_one_new _ _ _ 0 _ rfl
     intro v' w2 hown' hgrow _
     refine stop_here ?_))
    have hbg:Below (w0.heap.size+1) wr w2:=((Below.refl _ _).alloc (by omega) _).grown hgrow (by simp;omega) (fun x hx=>(World.ownsRow.lt HB.out.own x hx).1)
    have HB2:Hid (BxA w0 (w2.setCell ⟨w0.heap.size,2,none⟩ v') se so v' (L++[(p:Int)])):=HB.out.next hown' hbg
    have z2:w2.cell? ⟨w0.heap.size,2,none⟩=some (.slice a2 L.length c2):=(hbg.cell (p:=⟨w0.heap.size,2,none⟩) (Nat.lt_succ_self _)).trans y2
    have zf:∀o,w2.frozen? ⟨w0.heap.size,o,none⟩=false:=fun o=>(hbg.frozen (p:=⟨w0.heap.size,o,none⟩) (Nat.lt_succ_self _)).trans (yf o)
    obtain⟨a3,c3,rfl⟩:=hown'.shape
    clear hown' hgrow hbg y2 yf
    generalize (L++[(p:Int)]).length=n1 at *
    refine hid_in ?_
    go_wp2
    clear z2 zf
    go_loopw [11] (fun s11 wi=>∃(i:Nat) (v:Value),s11 = .int .i64 i/\i<=16/\BxA w0 wi se so v (L++[(p:Int)]++(bitsF bt i).map fun i=>(((p+1+i)%65536:Nat):Int))) (fun s11 _=>16-(intOf s11).toNat)
    case atStart=>exact⟨0,_,rfl,Nat.zero_le _,by simpa[bitsF]using HB2.out⟩
    case round=>
     clear HB2 HB ysz
     obtain⟨i,v,rfl,hi,hbx⟩:=hrel
     have hbl:=bitsF_length bt i
     have hlM:(L++[(p:Int)]++(bitsF bt i).map fun i=>(((p+1+i)%65536:Nat):Int)).length<=6400:=by simp;omega
     have Hsu:Hid ((bitsF bt (i+1))=bitsF bt i++(if bt.testBit i then[i]else[])):=bitsF_succ bt i
     generalize hM:(L++[(p:Int)]++(bitsF bt i).map fun i=>(((p+1+i)%65536:Nat):Int))=M at *
     have HM:=hyd hM
     obtain⟨a4,c4,rfl⟩:=hbx.own.shape
     have HB:=hyd hbx
     have y2:=hbx.c2
     have yf:=hbx.fz
     have ysz:=hbx.siz
     clear hM hbx hbl
     by_cases hi16:i<16
     ·have hi16':(i:Int)<16:=by omega
      have htb:=Nat.testBit_eq_decide_div_mod_eq (x:=bt) (i:=i)
      go_wp2_with fail
      refine(refBit_any bt i _ (by omega) (by omega)).mono ?_
      rintro e w1 ⟨rfl,hw1⟩
      rw[hw1,<-htb]
      clear hw1 w1 htb
      cases hb:bt.testBit i with
      | false=>
       rw[hb]at Hsu
       go_wp2
       go_roundw
       case rel=>exact⟨i+1,_,by go_num,by omega,by rw[Hsu.out,if_neg (by simp),List.append_nil,HM.out];exact HB.out⟩
       case measure=>simp[intOf];omega
      | true=>
       rw[hb]at Hsu
       have hw1:IntKind.i64.wrap ((p:Int)+1)=(p:Int)+1:=wrapI64 _ (by omega) (by omega)
       have hw2:IntKind.i64.wrap ((p:Int)+1+(i:Int))=(p:Int)+1+(i:Int):=wrapI64 _ (by omega) (by omega)
       obtain⟨x,hx⟩:∃x:Nat,x=(p+1+i)%65536:=⟨_,rfl⟩
       have Hx:Hid (((p:Int)+1+(i:Int))%65536=(x:Int)):=by show _=_;omega
       have HM2:Hid (L++[(p:Int)]++(bitsF bt (i+1)).map (fun i=>(((p+1+i)%65536:Nat):Int))=M++[(x:Int)]):=by
        show _=_
        rw[Hsu.out,if_pos rfl,List.map_append,<-HM.out,hx]
        simp
       clear hx
       go_wp2
       refine wp_region_noPanic ?_
       refine wp_region_held_drew (S:=fun _=>True) (by kernel_rfl) trivial (fun zH=>?_)
       refine tka 0 ?_
       refine tka 2 ?_
       refine tka 3 ?_
       refine tka 4 ?_
       refine tka 5 ?_
       refine wpAnyH_ready (rs:=[1,6]) (by kernel_rfl) (by simp) ?_
       refine AllReadyH.cons rfl (fun K hK=>?_) (AllReadyH.cons rfl (fun K hK=>?_) AllReadyH.nil)
       focus
        go_simp
        refine hK.out _ _ trivial (fun zH=>?_)
        clear hK K
        refine rd1 6 fun K hK=>?_
        go_simp
        refine(refRound_any _ _).mono ?_
        rintro e w1 ⟨rfl,hw1e⟩
        rw[hw1e,Hx.out]
        clear hw1e w1
        go_wp2_with fail
        refine hK.out _ _ trivial (fun zH=>?_)
        clear hK K
        refine rd1 7 fun K hK=>?_
       rotate_left
       focus
        go_simp
        refine(refRound_any _ _).mono ?_
        rintro e w1 ⟨rfl,hw1e⟩
        rw[hw1e,Hx.out]
        clear hw1e w1
        go_wp2_with fail
        refine hK.out _ _ trivial (fun zH=>?_)
        clear hK K
        refine wpAnyH_ready (rs:=[1,7]) (by kernel_rfl) (by simp) ?_
        refine AllReadyH.cons rfl (fun K hK=>?_) (AllReadyH.cons rfl (fun K hK=>?_) AllReadyH.nil)
        focus
         go_simp
         refine hK.out _ _ trivial (fun zH=>?_)
         clear hK K
         refine rd1 7 fun K hK=>?_
        rotate_left
        focus
         go_simp
         refine hK.out _ _ trivial (fun zH=>?_)
         clear hK K
         refine rd1 1 fun K hK=>?_
       all_goals
        go_simp
        refine hK.out _ _ trivial (fun zH=>?_)
        clear hK K
        refine rd1 8 fun K hK=>?_
        rw[if_pos (by rfl)]
        refine wp_append_int (.tmp 106) (.tmp 112) rfl (w0.heap.size+1) (.slice a4 M.length c4) M (x:Int) (by rfl) (World.ownsRow.drew (World.ownsRow.alloc HB.out.own _)) _ 1 (by rfl) (cell_one_new _ _ _ 0 _ rfl) (by omega) (by simp;omega) ?_
        intro v' w2 hown' hgrow _
        have hbg:Below (w0.heap.size+1) wr w2:=(((Below.refl _ _).alloc (by omega) _).drew).grown hgrow (by simp;omega) (fun x hx=>(World.ownsRow.lt HB.out.own x hx).1)
        have HB2:Hid (BxA w0 (w2.setCell ⟨w0.heap.size,2,none⟩ v') se so v' (M++[(x:Int)])):=HB.out.next hown' hbg
        have z2:w2.cell? ⟨w0.heap.size,2,none⟩=some (.slice a4 M.length c4):=(hbg.cell (p:=⟨w0.heap.size,2,none⟩) (Nat.lt_succ_self _)).trans y2
        have zf:∀o,w2.frozen? ⟨w0.heap.size,o,none⟩=false:=fun o=>(hbg.frozen (p:=⟨w0.heap.size,o,none⟩) (Nat.lt_succ_self _)).trans (yf o)
        obtain⟨a3,c3,rfl⟩:=hown'.shape
        refine hK.out _ _ trivial (fun zH=>?_)
        clear hK K hown' hgrow hbg y2 yf
        generalize (M++[(x:Int)]).length=n3 at *
        refine tka 9 ?_
        refine rd1 10 fun K hK=>?_
        go_simp
        refine hK.out _ _ trivial (fun zH=>?_)
        clear hK K
        refine doN ?_
        go_wp2
        go_roundw
        case rel=>exact⟨i+1,_,by go_num,by omega,by rw[HM2.out];exact HB2.out⟩
        case measure=>simp[intOf];omega
     ·have hi16':¬(i:Int)<16:=by omega
      have hie:i=16:=by omega
      subst hie
      have hfin:M++entsAt s (k+4) z=entsAt s (a+12) z:=by
       rw[<-HL.out,Hst.out,<-HM.out]
       simp
      have Hfin:=hyd hfin
      have hMl:4*M.length<=17*(k+4-(a+12)):=by
       have:=bitsF_length bt 16
       rw[<-HM.out]
       simp
       omega
      clear hfin
      go_wp2
      go_roundw
      case rel=>exact⟨k+4,by omega,by omega,by omega,by omega,_,M,Hfin.out,hMl,HB.out⟩
      case measure=>simp[intOf];omega
   ·have hlt':¬(k:Int)<z:=by omega
    have hkz:k=z:=by omega
    have HLL:Hid (L=entsAt s (a+12) z):=by
     have h:=HL.out
     rw[hkz,entsAt_end s z z (Nat.le_refl _),List.append_nil]at h
     exact h
    have y0:=HB.out.c0
    have y1:=HB.out.c1
    obtain⟨i0,hi0,hz0,hz1,hz2⟩:=info_parts asks_info
    have Hi:Hid (Tryz.prog.info? 43=some i0/\i0.zero=some (.agg #[.int .i64 0,.int .i64 0,.slice none 0 0])/\i0.size=3/\i0.bytes=40):=⟨hi0,hz0,hz1,hz2⟩
    clear hi0 hz0 hz1 hz2
    go_wp2_with (at_builtin;(
     refine wpList_append_at rfl (.tmp 115) (.tmp 117) 77 rfl w.heap.size 43 i0 _ 3 40 Tryz.underlying77 Hi.out rfl (by decide) _ xs.length (flatA xs) rfl ((rowN_chg (Chg.ofBelow (T:=fun _=>False) HB.out.bel) Hown.out.row (fun _ _ e=>e)).alloc _) _ 1 1 [.int .i64 se,.int .i64 so,.slice a2 L.length c2] rfl rfl (cells_new _ [.int .i64 se,.int .i64 so,.slice a2 L.length c2] _) ?_ (by unfold maxLen;omega) (by omega) (by simp;omega) ?_
     ·intro u hu;simp at hu;rcases hu with rfl|rfl|rfl<;>rfl
     intro v' w2 hown' hgrow hob
     refine stop_here ?_))
    have Ha2:Hid (OwnAsks w2 w.heap.size v' (xs++[⟨se,so,.slice a2 L.length c2,L⟩])):=by
     refine OwnAsks.snoc (x:=⟨se,so,.slice a2 L.length c2,L⟩) Hown.out (HB.out.bel.alloc (Nat.le_of_lt ysz) _) ((HB.out.own.mono (Nat.le_succ _)).alloc _) (show L.length<=6400 by omega) hws hown' hgrow ?_
     rcases hob with h|h
     ·exact .inl h
     ·exact .inr (fun b hb=>by rw[h]at hb;simp at hb;simp;omega)
    have Hb2:Hid (Below w.heap.size w w2):=(Hb.out.trans ((HB.out.bel.mono hws).alloc (by omega) _)).grown hgrow (by simp;omega) (fun x hx=>(World.ownsRow.lt Hown.out.row x hx).1)
    have Hrs:Hid (RestR s (s.extract z s.size) (xs++[⟨se,so,.slice a2 L.length c2,L⟩])):=by
     refine HR.out.take (x:=⟨se,so,.slice a2 L.length c2,L⟩) ?_ rfl rfl
     simp only
     rw[HPa.out,HLL.out]
    obtain⟨a3,c3,rfl⟩:=rowA_shape hown'
    clear hown' hgrow hob
    refine hid_in ?_
    go_wp2
    go_roundw
    case rel=>exact⟨z,_,rfl,by omega,Hrs.out,by simp;omega,Ha2.out,Hb2.out⟩
    case measure=>simp[intOf];omega
theorem refRep_none (s:ByteArray) (w:World) (h0:s.size=0\/1500<s.size) (hs:s.size<=maxLen) :
  Calls Tryz.prog 58 #[.string s] w fun e w'=>Below w.heap.size w w'/\e = .returned wrongR:=by
 unfold maxLen at hs
 by_cases hz:s.size=0
 ·have hne:s.toList.isEmpty=true:=by rw[isEmpty_size];exact decide_eq_true hz
  go_enter Tryz.func58,Tryz.ntmps58
  go_wp2
  go_ret2
  exact⟨Below.refl _ _,rfl⟩
 ·have hne:s.toList.isEmpty=false:=by rw[isEmpty_size];exact decide_eq_false hz
  have hi:(1500:Int)<s.size:=by omega
  go_enter Tryz.func58,Tryz.ntmps58
  go_wp2
  go_ret2
  exact⟨Below.refl _ _,rfl⟩
theorem refRep_any (s:ByteArray) (w:World) (hs:s.size<=maxLen) :
  Calls Tryz.prog 58 #[.string s] w fun e w'=>Below w.heap.size w w'/\RepAs (repR s) w.heap.size e w':=by
 unfold repR
 by_cases h:s.size=0\/1500<s.size
 ·rw[if_pos h]
  exact refRep_none s w h hs
 ·rw[if_neg h]
  exact refRep_mid s w (by omega) (by omega)
end Go.Proofs.YtdjhhnolcafkiaaGreat
namespace Go.Proofs.YtdjhhnolcafkiaaGreat
open Go.RowKit
namespace Pk
def TLoop (w:World) (ρ:Nat->Nat) (rb:Nat) (sv wv:Value) (R4:Rm) (q:Nat) (tv:Value) (W:World):Prop:=
 ∃R' out ρ',RTk R4 q R' out/\RdAt W ρ' rb R' sv wv/\RMv w ρ W ρ'/\W.ownsRow w.heap.size 9 1 tv out.length (out.map Value.string)/\∀b,tv.ownBlock=some b->ρ' b=0
end Pk
open Pk
theorem refTick_any (ρ:Nat->Nat) (rb:Nat) (R:Rm) (sv wv:Value) (t:Int) (w:World) (h:RdAt w ρ rb R sv wv) (hcf:(0<=R.c.rate/\R.c.rate<=100000)/\(0<=R.c.burst/\R.c.burst<=1000000)/\(1<=R.c.retry/\R.c.retry<=1000000)/\(0<=R.c.tries/\R.c.tries<=10)) (hnw:0<=R.s.now/\R.s.now<=900000000000000) (htk:0<=R.s.tokens/\R.s.tokens<=1000000) (hct:(0<=R.s.asked/\R.s.asked<=1000000000000000)/\0<=R.s.givenUp/\R.s.givenUp<=1000000000000000)
  (hs:∀s∈R.sds,s.gaps.length<=1000/\∀g∈s.gaps,(0<=g.last/\g.last<=1000000000000000)/\(0<=g.tries/\g.tries<=1000000000000000)) :
  Calls Tryz.prog 53 #[.pointer (some ⟨rb,0,none⟩),.int .i64 t] w fun e w'=>∃tv R' out er,e = .returned (.tuple #[tv,.int .i64 er])/\RTick R t R' out er/\TRel w ρ rb sv wv R' out tv w':=by
 have H:=hyd h
 have hrb:=h.lt
 have Hrm:Hid (ρ rb=1):=h.rm
 have Hs:=hyd hs
 obtain⟨PK,hPK⟩:∃PK,RTick R t=PK:=⟨_,rfl⟩
 have HPK:=hyd hPK
 rw[hPK]
 have y7:w.cell? ⟨rb,7,none⟩=some (.int .i64 R.s.now):=h.k 7 _ rfl
 have yf:=h.fz
 obtain⟨aS,cS,hsv⟩:=rowA_shape h.sr.1
 have Hsv:=hyd hsv
 clear h hs hPK hsv
 by_cases ht0:t<0
 ·have ht0':decide (t<0)=true:=decide_eq_true ht0
  have E:Hid (PK R [] 2):=by rw[<-HPK.out];unfold RTick;rw[if_neg (by omega)];exact⟨rfl,rfl,rfl⟩
  go_enter Tryz.func53,Tryz.ntmps53
  go_wp2
  go_ret2
  exact⟨_,_,_,_,rfl,E.out,ρ,H.out,RMv.refl _ _,World.ownsRow_nil _ _ _ _,fun b e=>by cases e⟩
 by_cases ht1:(1000000:Int)<t
 ·have ht0':decide (t<0)=false:=decide_eq_false ht0
  have ht1':decide ((1000000:Int)<t)=true:=decide_eq_true ht1
  have E:Hid (PK R [] 2):=by rw[<-HPK.out];unfold RTick;rw[if_neg (by omega)];exact⟨rfl,rfl,rfl⟩
  go_enter Tryz.func53,Tryz.ntmps53
  go_wp2
  go_ret2
  exact⟨_,_,_,_,rfl,E.out,ρ,H.out,RMv.refl _ _,World.ownsRow_nil _ _ _ _,fun b e=>by cases e⟩
 have ht0':decide (t<0)=false:=decide_eq_false ht0
 have ht1':decide ((1000000:Int)<t)=false:=decide_eq_false ht1
 obtain⟨rt,hrt⟩:∃rt,R.c.rate*t=rt:=⟨_,rfl⟩
 have hrt0:0<=rt/\rt<=100000000000:=by
  rw[<-hrt]
  refine⟨Int.mul_nonneg hcf.1.1 (by omega),?_⟩
  exact Int.le_trans (Int.mul_le_mul_of_nonneg_right hcf.1.2 (by omega)) (by omega)
 have hw7:IntKind.i64.wrap (R.s.now+t)=R.s.now+t:=i64_id _ (by omega) (by omega)
 have hwm:IntKind.i64.wrap (R.c.rate*t)=rt:=by rw[hrt];exact i64_id _ (by omega) (by omega)
 have hws:IntKind.i64.wrap (R.s.tokens+rt)=R.s.tokens+rt:=i64_id _ (by omega) (by omega)
 have H1:Hid (RdAt (w.setCell ⟨rb,7,none⟩ (.int .i64 (R.s.now+t))) ρ rb { R with s:={ R.s with now:=R.s.now+t } } sv wv):=H.out.put 7 _ rfl rfl rfl
 have Hrt:=hyd hrt
 clear hrt
 go_enter Tryz.func53,Tryz.ntmps53
 go_wp2
 have hS1:(w.setCell ⟨rb,7,none⟩ (.int .i64 (R.s.now+t))).cell? ⟨rb,3,none⟩=some (.int .i64 R.c.rate):=H1.out.k 3 _ rfl
 have y8:(w.setCell ⟨rb,7,none⟩ (.int .i64 (R.s.now+t))).cell? ⟨rb,8,none⟩=some (.int .i64 R.s.tokens):=H1.out.k 8 _ rfl
 have yf1:=H1.out.fz
 have hc7:Chg (fun b=>ρ b≠0) w (w.setCell ⟨rb,7,none⟩ (.int .i64 (R.s.now+t))):=(Chg.refl _ _).setCell ⟨rb,7,none⟩ (.inl (by show ρ rb≠0;rw[Hrm.out];decide)) _
 have HV1:Hid (RMv w ρ (w.setCell ⟨rb,7,none⟩ (.int .i64 (R.s.now+t))) ρ):=⟨fun _ _ e=>e,hc7⟩
 clear y7 yf hc7
 generalize w.setCell ⟨rb,7,none⟩ (.int .i64 (R.s.now+t))=w1 at *
 refine wp_region_noPanic ?_
 refine wp_region_held_drew (S:=fun W=>W.cell? ⟨rb,3,none⟩=some (.int .i64 R.c.rate)) (by kernel_rfl) hS1 (fun zH=>?_)
 refine tka 0 ?_
 refine tka 1 ?_
 refine tka 2 ?_
 refine tka 3 ?_
 refine tka 4 ?_
 refine tka 6 ?_
 refine tka 7 ?_
 refine tka 8 ?_
 refine tka 9 ?_
 refine tka 10 ?_
 refine tka 11 ?_
 refine tka 12 ?_
 refine rd1 5 fun K hK=>?_
 go_simp
 refine hK.out _ _ zH (fun zH=>?_)
 clear hK K
 refine tka 13 ?_
 refine tka 14 ?_
 refine tka 15 ?_
 refine tka 16 ?_
 refine rd1 17 fun K hK=>?_
 go_simp
 refine hK.out _ _ ((World.cell?_setCell_other _ ⟨rb,8,none⟩ ⟨rb,3,none⟩ _ (by simp)).trans zH) (fun zH=>?_)
 clear hK K
 refine doN ?_
 have H2':=(H1.out.put (R':={ R with s:={ R.s with now:=R.s.now+t,tokens:=R.s.tokens+rt } }) 8 (.int .i64 (R.s.tokens+rt)) rfl rfl rfl).below (Below.refl _ _).drew
 have HV2':RMv w ρ ((w1.setCell ⟨rb,8,none⟩ (.int .i64 (R.s.tokens+rt))).drew) ρ:=HV1.out.trans ⟨fun _ _ e=>e,((Chg.refl _ _).setCell ⟨rb,8,none⟩ (.inl (by show ρ rb≠0;rw[Hrm.out];decide)) _).trans (T':=fun _=>False) (Chg.ofBelow (Below.refl _ _).drew) (fun _ _ e=>e.elim)⟩
 clear zH hS1 y8 yf1
 generalize (w1.setCell ⟨rb,8,none⟩ (.int .i64 (R.s.tokens+rt))).drew=w2 at *
 have H2:Hid (RdAt w2 ρ rb { R with s:={ R.s with now:=R.s.now+t,tokens:=R.s.tokens+rt } } sv wv):=H2'
 have HV2:Hid (RMv w ρ w2 ρ):=HV2'
 have z8:w2.cell? ⟨rb,8,none⟩=some (.int .i64 (R.s.tokens+rt)):=H2'.k 8 _ rfl
 have z4:w2.cell? ⟨rb,4,none⟩=some (.int .i64 R.c.burst):=H2'.k 4 _ rfl
 clear H2' HV2' H1 HV1
 have E0:Hid (∀R' out,RTk (rWent R t) R.sds.length R' out->PK R' out 0):=fun R' out hk=>by
  rw[<-HPK.out]
  unfold RTick
  rw[if_pos (by omega)]
  exact⟨hk,rfl⟩
 by_cases hgt:R.c.burst<R.s.tokens+rt
 focus
  have hgt':decide (R.c.burst<R.s.tokens+rt)=true:=decide_eq_true hgt
  have HW:Hid (rWent R t={ R with s:={ R.s with now:=R.s.now+t,tokens:=R.c.burst } }):=by show _=_;unfold rWent;rw[Hrt.out,if_pos hgt]
  have HZ:Hid (∀m,RdAt (w2.drewN m) ρ rb { R with s:={ R.s with now:=R.s.now+t,tokens:=R.s.tokens+rt } } sv wv/\RMv w ρ (w2.drewN m) ρ):=fun m=>⟨H2.out.below (below_drewN (Below.refl _ _) m),HV2.out.trans (RMv.below (below_drewN (Below.refl _ _) m))⟩
  go_wp2
  go_big_quiet (fail)
  have HZ':=HZ.out nq
  clear z8 z4 HZ H2 HV2
  generalize w2.drewN nq=w3 at *
  have z4:w3.cell? ⟨rb,4,none⟩=some (.int .i64 R.c.burst):=HZ'.1.k 4 _ rfl
  have z8:w3.cell? ⟨rb,8,none⟩=some (.int .i64 (R.s.tokens+rt)):=HZ'.1.k 8 _ rfl
  have zf:=HZ'.1.fz
  have H4':RdAt (w3.setCell ⟨rb,8,none⟩ (.int .i64 R.c.burst)) ρ rb { R with s:={ R.s with now:=R.s.now+t,tokens:=R.c.burst } } sv wv:=HZ'.1.put 8 _ rfl rfl rfl
  have HV4':RMv w ρ (w3.setCell ⟨rb,8,none⟩ (.int .i64 R.c.burst)) ρ:=HZ'.2.trans ⟨fun _ _ e=>e,(Chg.refl _ _).setCell ⟨rb,8,none⟩ (.inl (by show ρ rb≠0;rw[Hrm.out];decide)) _⟩
  have H4:Hid (RdAt (w3.setCell ⟨rb,8,none⟩ (.int .i64 R.c.burst)) ρ rb (rWent R t) sv wv):=by rw[HW.out];exact H4'
  have HV4:Hid (RMv w ρ (w3.setCell ⟨rb,8,none⟩ (.int .i64 R.c.burst)) ρ):=HV4'
  clear H4' HV4' HZ' HW
  go_wp2
  clear z4 z8 zf
  generalize w3.setCell ⟨rb,8,none⟩ (.int .i64 R.c.burst)=w4 at *
 rotate_left
 focus
  have hgt':decide (R.c.burst<R.s.tokens+rt)=false:=decide_eq_false hgt
  have HW:Hid (rWent R t={ R with s:={ R.s with now:=R.s.now+t,tokens:=R.s.tokens+rt } }):=by show _=_;unfold rWent;rw[Hrt.out,if_neg hgt]
  have HZ:Hid (∀m,RdAt (w2.drewN m) ρ rb (rWent R t) sv wv/\RMv w ρ (w2.drewN m) ρ):=fun m=>⟨by rw[HW.out];exact H2.out.below (below_drewN (Below.refl _ _) m),HV2.out.trans (RMv.below (below_drewN (Below.refl _ _) m))⟩
  go_wp2
  go_big_quiet (fail)
  have HZ':=HZ.out nq
  clear z8 z4 HZ H2 HV2 HW
  generalize w2.drewN nq=w4 at *
  have H4:Hid (RdAt w4 ρ rb (rWent R t) sv wv):=HZ'.1
  have HV4:Hid (RMv w ρ w4 ρ):=HZ'.2
  clear HZ'
  go_wp2
 all_goals
  obtain⟨N,hN⟩:∃N,R.sds.length=N:=⟨_,rfl⟩
  have HN:=hyd hN
  have hsv:=Hsv.out
  rw[hN]at hsv
  clear Hsv
  subst hsv
  have hN4:N<=4:=by rw[<-hN];exact H.out.s4
  clear hN
  obtain⟨R4,hR4⟩:∃R4,rWent R t=R4:=⟨_,rfl⟩
  have HsR:Hid (R4.sds=R.sds/\R4.c=R.c/\R4.s.now=R.s.now+t/\R4.s.asked=R.s.asked/\R4.s.givenUp=R.s.givenUp):=by rw[<-hR4];exact⟨rfl,rfl,rfl,rfl,rfl⟩
  rw[hR4]at H4 E0
  clear hR4
  go_loopw [6,7] (fun s6 s7 wr=>∃q:Nat,q<=N/\s7 = .int .i64 q/\TLoop w ρ rb (.slice aS N cS) wv R4 q s6 wr) (fun _ s7 _=>N-(intOf s7).toNat)
  case atStart=>exact⟨0,Nat.zero_le _,rfl,R4,[],ρ,RTk.zero,H4.out,HV4.out,World.ownsRow_nil _ _ _ _,fun b e=>by cases e⟩
  case round=>
   obtain⟨q,hq,rfl,R',out,ρ',l1,l2,l3,l4,l5⟩:=hrel
   obtain⟨va,vc,rfl⟩:=rowA_shape l4
   have L1:=hyd l1
   have L2:=hyd l2
   have L3:=hyd l3
   have L4:=hyd l4
   have L5:=hyd l5
   have hK:=l1.keeps
   have hC:=l1.counts (fun s hs=>(Hs.out s (by rw[<-HsR.out.1];exact hs)).1)
   have hlN:R'.sds.length=N:=by rw[hK.2.2.1,HsR.out.1,HN.out]
   have HlN:=hyd hlN
   have hol:=hK.2.2.2.2.2.1
   have hzw:w.heap.size<=wr.heap.size:=l3.2.size
   have y18:wr.cell? ⟨rb,18,none⟩=some (.slice aS N cS):=l2.k 18 _ rfl
   have hc1:=HsR.out
   clear l1 l2 l3 l4 l5 H4 HV4
   by_cases hqN:q<N
   ·have hqN':(q:Int)<N:=by omega
    obtain⟨s,hsx⟩:∃s,R'.sds[q]? = some s:=⟨_,List.getElem?_eq_getElem (by rw[hlN];exact hqN)⟩
    have Hsx:=hyd hsx
    have hsR:R.sds[q]? = some s:=by rw[<-HsR.out.1,<-hK.2.2.2.2.2.2 q (Nat.le_refl _)];exact hsx
    have hsb:=Hs.out s (List.mem_of_getElem? hsR)
    have Hgb:Hid (∀g∈s.gaps,(0<=g.last/\g.last<=1000000000000000)/\(0<=g.tries/\g.tries<=1000000000000000)):=hsb.2
    obtain⟨sg,scap,hsl,x0,x1,x2,xf,xl,xr⟩:=L2.out.sndAt hsx
    rw[hlN]at hsl
    simp only[Value.slice.injEq,true_and]at hsl
    obtain⟨rfl,rfl⟩:=hsl
    obtain⟨ga,gc,hgv⟩:∃a c,s.gv = .slice a s.gaps.length c:=rowA_shape (L2.out.ga q s hsx).1
    obtain⟨G,hG⟩:∃G,s.gaps.length=G:=⟨_,rfl⟩
    have hG1:G<=1000:=by rw[<-hG];exact hsb.1
    have HG:=hyd hG
    rw[hgv,hG]at x2
    rw[hG]at hgv
    have Hgv:=hyd hgv
    have Hx:=hyd x0
    obtain⟨NW,hNW⟩:∃NW,R'.s.now=NW:=⟨_,rfl⟩
    have hNWb:0<=NW/\NW<=901000000000000:=by rw[<-hNW,hK.2.1,hc1.2.2.1];omega
    obtain⟨RT,hRT⟩:∃RT,R'.c.retry=RT:=⟨_,rfl⟩
    obtain⟨TR,hTR⟩:∃TR,R'.c.tries=TR:=⟨_,rfl⟩
    have hRTb:0<=RT/\RT<=1000000:=by rw[<-hRT,hK.1,hc1.2.1];omega
    have hTRb:0<=TR/\TR<=10:=by rw[<-hTR,hK.1,hc1.2.1];omega
    obtain⟨GU,hGU⟩:∃GU,R'.s.givenUp=GU:=⟨_,rfl⟩
    have hGUb:0<=GU/\GU<=1000000000010000:=by rw[<-hGU];omega
    obtain⟨AK,hAK⟩:∃AK,R'.s.asked=AK:=⟨_,rfl⟩
    have hAKb:0<=AK/\AK<=1000000000010000:=by rw[<-hAK];omega
    have HE5:Hid (R'.s.now=NW/\R'.c.retry=RT/\R'.c.tries=TR/\R'.s.givenUp=GU/\R'.s.asked=AK):=⟨hNW,hRT,hTR,hGU,hAK⟩
    have Htz:Hid (∀b,(Value.slice va out.length vc).ownBlock=some b->ρ' b=0/\b<wr.heap.size):=fun b hb=>⟨L5.out b hb,(L4.out.lt b hb).2⟩
    have Htl:Hid (∀b,(Value.slice va out.length vc).ownBlock=some b->b<wr.heap.size):=fun b hb=>(L4.out.lt b hb).2
    have HT0:Hid (TIn wr ρ' rb R' (.slice (some ⟨sg,0,none⟩) N cS) wv (.slice va out.length vc) out w.heap.size q s GU [] [] (.slice none 0 0) (.slice none 0 0) wr):=by
     refine⟨?_,(L2.out.ga q s hsx).1,L4.out,World.ownsRow_nil _ _ _ _,World.ownsRow_nil _ _ _ _,fun b e=>by cases e⟩
     have e:({ R' with s:={ R'.s with givenUp:=GU } }:Rm)=R':=by rw[<-hGU]
     rw[e]
     exact L2.out.mid _
    obtain⟨iI,jI,jI0,jI1,jI2⟩:=info_parts int_info
    have HiI:Hid (Tryz.prog.info? 3=some iI/\iI.zero=_/\iI.size=1/\iI.bytes=8):=⟨jI,jI0,jI1,jI2⟩
    obtain⟨iG,jG,jG0,jG1,jG2⟩:=info_parts gap_info
    have HiG:Hid (Tryz.prog.info? 126=some iG/\iG.zero=_/\iG.size=3/\iG.bytes=24):=⟨jG,jG0,jG1,jG2⟩
    obtain⟨iS,jS,jS0,jS1,jS2⟩:=info_parts infoT
    have HiS:Hid (Tryz.prog.info? 9=some iS/\iS.zero=_/\iS.size=1/\iS.bytes=16):=⟨jS,jS0,jS1,jS2⟩
    clear hsx hsR hsb hgv hG hNW hRT hTR hGU hAK hK hC hlN hc1 jI jI0 jI1 jI2 jG jG0 jG1 jG2 jS jS0 jS1 jS2 x0 x1
    go_wp2
    clear y18 x2 xf
    generalize wr=wq at *
    go_loopw [9,10,11] (fun s9 s10 s11 wr=>∃k:Nat,k<=G/\s11 = .int .i64 k/\TIn wq ρ' rb R' (.slice (some ⟨sg,0,none⟩) N cS) wv (.slice va out.length vc) out w.heap.size q s (GU+((k:Int)-(rKeptT NW RT TR (s.gaps.take k)).length)) (rAskT NW RT TR (s.gaps.take k)) (rLeftT NW RT TR (s.gaps.take k)) s9 s10 wr) (fun _ _ s11 _=>G-(intOf s11).toNat)
    case atStart=>exact⟨0,Nat.zero_le _,rfl,by simpa[rKeptT,rAskT,rLeftT]using HT0.out⟩
    case round=>
     obtain⟨k,hk,rfl,hT⟩:=hrel
     obtain⟨la,lc,rfl⟩:=hT.l.shape
     obtain⟨fa,fc,rfl⟩:=rowA_shape hT.f
     have HT:=hyd hT
     have hl1:=rKeptT_len NW RT TR s.gaps k
     have hl2:=rAskT_len NW RT TR s.gaps k
     have hl3:=rLeftT_len NW RT TR s.gaps k
     obtain⟨gu,hgu⟩:∃gu,GU+((k:Int)-(rKeptT NW RT TR (s.gaps.take k)).length)=gu:=⟨_,rfl⟩
     have hgub:0<=gu/\gu<=1000000000020000:=by omega
     have c2:wr.cell? ⟨sg,q*3+2,none⟩=some (.slice ga G gc):=by
      have h1:wr.ownsRow 0 61 3 (.slice (some ⟨sg,0,none⟩) N cS) R'.sds.length (R'.sds.flatMap cRs):=hT.m.sr.1
      rw[HlN.out]at h1
      have h2:=h1.cellAt (q*3+2) (by omega)
      rw[flat_at cRs_len _ q 2 (by rw[HlN.out];exact hqN) (by omega),(List.getElem?_eq_some_iff.1 Hsx.out).2]at h2
      rw[<-Hgv.out]
      exact h2
     clear hT HT0
     by_cases hkG:k<G
     ·have hkG':(k:Int)<G:=by omega
      have hkl:k<s.gaps.length:=by rw[HG.out];exact hkG
      obtain⟨g,hg⟩:∃g,s.gaps[k]=g:=⟨_,rfl⟩
      have Hg:=hyd hg
      have hgb:=Hgb.out g (by rw[<-hg];exact List.getElem_mem hkl)
      have hrow:=HT.out.g
      rw[Hgv.out,HG.out]at hrow
      obtain⟨gg,rfl⟩:=rowA_some hrow (by omega)
      have gc_:∀j,j<3->wr.cell? ⟨gg,k*3+j,none⟩=(cRg g)[j]?:=fun j hj=>by
       rw[hrow.cellAt (k*3+j) (by omega),flat_at cRg_len s.gaps k j hkl hj,hg]
      obtain⟨gn,gl,gt⟩:=g
      have d0:wr.cell? ⟨gg,k*3,none⟩=some (.int .i64 gn):=gc_ 0 (by omega)
      have d1:wr.cell? ⟨gg,k*3+1,none⟩=some (.int .i64 gl):=gc_ 1 (by omega)
      have d2:wr.cell? ⟨gg,k*3+2,none⟩=some (.int .i64 gt):=gc_ 2 (by omega)
      have HTb:Hid (∀bk,TIn wq ρ' rb R' (.slice (some ⟨sg,0,none⟩) N cS) wv (.slice va out.length vc) out w.heap.size q s (GU+((k:Int)-(rKeptT NW RT TR (s.gaps.take k)).length)) (rAskT NW RT TR (s.gaps.take k)) (rLeftT NW RT TR (s.gaps.take k)) (.slice la (rAskT NW RT TR (s.gaps.take k)).length lc) (.slice fa (rLeftT NW RT TR (s.gaps.take k)).length fc) (wr.alloc bk)):=fun bk=>HT.out.below L2.out Hsx.out Htl.out ((Below.refl _ _).alloc (Nat.le_refl _) bk)
      simp only at hgb
      clear hrow gc_ hg
      have hwq:wq.heap.size<=wr.heap.size:=HT.out.m.c.size
      go_wp2
      have HT1':=HTb.out (.cells #[.int .i64 gn,.int .i64 gl,.int .i64 gt] 126)
      have b0':(wr.alloc (.cells #[.int .i64 gn,.int .i64 gl,.int .i64 gt] 126)).cell? ⟨wr.heap.size,0,none⟩=some (.int .i64 gn):=cell_new _ _ _ 0
      have b1':(wr.alloc (.cells #[.int .i64 gn,.int .i64 gl,.int .i64 gt] 126)).cell? ⟨wr.heap.size,1,none⟩=some (.int .i64 gl):=cell_new _ _ _ 1
      have b2':(wr.alloc (.cells #[.int .i64 gn,.int .i64 gl,.int .i64 gt] 126)).cell? ⟨wr.heap.size,2,none⟩=some (.int .i64 gt):=cell_new _ _ _ 2
      have bf':∀o,(wr.alloc (.cells #[.int .i64 gn,.int .i64 gl,.int .i64 gt] 126)).frozen? ⟨wr.heap.size,o,none⟩=false:=fun o=>frozen_new _ _ _ o
      have HLB:Hid (∀b,(Value.slice la (rAskT NW RT TR (s.gaps.take k)).length lc).ownBlock=some b->b<wr.heap.size):=fun b hb=>(HT.out.l.lt b hb).2
      have HFB:Hid (∀b,(Value.slice fa (rLeftT NW RT TR (s.gaps.take k)).length fc).ownBlock=some b->b<wr.heap.size):=fun b hb=>(HT.out.f.lt b hb).2
      clear d0 d1 d2 c2 HTb HT
      generalize wr.alloc (.cells #[.int .i64 gn,.int .i64 gl,.int .i64 gt] 126)=W1 at *
      generalize wr.heap.size=B at *
      have HT1:Hid (TIn wq ρ' rb R' (.slice (some ⟨sg,0,none⟩) N cS) wv (.slice va out.length vc) out w.heap.size q s (GU+((k:Int)-(rKeptT NW RT TR (s.gaps.take k)).length)) (rAskT NW RT TR (s.gaps.take k)) (rLeftT NW RT TR (s.gaps.take k)) (.slice la (rAskT NW RT TR (s.gaps.take k)).length lc) (.slice fa (rLeftT NW RT TR (s.gaps.take k)).length fc) W1):=HT1'
      have v7:W1.cell? ⟨rb,7,none⟩=some (.int .i64 NW):=by have h1:=HT1'.m.k 7 _ rfl;rw[<-HE5.out.1];exact h1
      have v5:W1.cell? ⟨rb,5,none⟩=some (.int .i64 RT):=by have h1:=HT1'.m.k 5 _ rfl;rw[<-HE5.out.2.1];exact h1
      have HTd:Hid (∀m,TIn wq ρ' rb R' (.slice (some ⟨sg,0,none⟩) N cS) wv (.slice va out.length vc) out w.heap.size q s (GU+((k:Int)-(rKeptT NW RT TR (s.gaps.take k)).length)) (rAskT NW RT TR (s.gaps.take k)) (rLeftT NW RT TR (s.gaps.take k)) (.slice la (rAskT NW RT TR (s.gaps.take k)).length lc) (.slice fa (rLeftT NW RT TR (s.gaps.take k)).length fc) (W1.drewN m)):=fun m=>HT1.out.below L2.out Hsx.out Htl.out (below_drewN (Below.refl _ _) m)
      clear HT1'
      have hwd:IntKind.i64.wrap (NW-gl)=NW-gl:=i64_id _ (by omega) (by omega)
      have HB:Hid (∀b,b=B->wq.heap.size<=b/\(Value.slice la (rAskT NW RT TR (s.gaps.take k)).length lc).ownBlock≠some b/\(Value.slice fa (rLeftT NW RT TR (s.gaps.take k)).length fc).ownBlock≠some b):=fun b hb=>⟨by omega,fun e=>by have:=HLB.out b e;omega,fun e=>by have:=HFB.out b e;omega⟩
      by_cases hdue:RT<=NW-gl
      ·have hdue':decide (RT<=NW-gl)=true:=decide_eq_true hdue
       have Hdue:Hid (rDue NW RT ⟨gn,gl,gt⟩=true):=decide_eq_true hdue
       go_wp2
       go_big_quiet (fail)
       have HT2':=HTd.out nq
       have b0:(W1.drewN nq).cell? ⟨B,0,none⟩=some (.int .i64 gn):=by rw[World.cell?_drewN];exact b0'
       have b1:(W1.drewN nq).cell? ⟨B,1,none⟩=some (.int .i64 gl):=by rw[World.cell?_drewN];exact b1'
       have b2:(W1.drewN nq).cell? ⟨B,2,none⟩=some (.int .i64 gt):=by rw[World.cell?_drewN];exact b2'
       have bf:∀o,(W1.drewN nq).frozen? ⟨B,o,none⟩=false:=fun o=>by rw[World.frozen?_drewN];exact bf' o
       clear b0' b1' b2' bf' v7 v5 HTd HT1
       generalize W1.drewN nq=W2 at *
       have HT2:Hid (TIn wq ρ' rb R' (.slice (some ⟨sg,0,none⟩) N cS) wv (.slice va out.length vc) out w.heap.size q s (GU+((k:Int)-(rKeptT NW RT TR (s.gaps.take k)).length)) (rAskT NW RT TR (s.gaps.take k)) (rLeftT NW RT TR (s.gaps.take k)) (.slice la (rAskT NW RT TR (s.gaps.take k)).length lc) (.slice fa (rLeftT NW RT TR (s.gaps.take k)).length fc) W2):=HT2'
       have v6:W2.cell? ⟨rb,6,none⟩=some (.int .i64 TR):=by have h1:=HT2'.m.k 6 _ rfl;rw[<-HE5.out.2.2.1];exact h1
       have HTe:Hid (∀m,TIn wq ρ' rb R' (.slice (some ⟨sg,0,none⟩) N cS) wv (.slice va out.length vc) out w.heap.size q s (GU+((k:Int)-(rKeptT NW RT TR (s.gaps.take k)).length)) (rAskT NW RT TR (s.gaps.take k)) (rLeftT NW RT TR (s.gaps.take k)) (.slice la (rAskT NW RT TR (s.gaps.take k)).length lc) (.slice fa (rLeftT NW RT TR (s.gaps.take k)).length fc) (W2.drewN m)):=fun m=>HT2.out.below L2.out Hsx.out Htl.out (below_drewN (Below.refl _ _) m)
       clear HT2'
       by_cases hgo:TR<=gt
       ·have hgo':decide (TR<=gt)=true:=decide_eq_true hgo
        have Hgo:Hid (rGone NW RT TR s.gaps[k]=true):=by rw[Hg.out];show(rDue NW RT ⟨gn,gl,gt⟩ && decide (TR<=gt))=true;rw[Hdue.out,hgo'];rfl
        go_wp2
        go_big_quiet (fail)
        have HT3':=HTe.out nq
        clear b0 b1 b2 bf v6 HTe HT2
        generalize W2.drewN nq=W3 at *
        rw[hgu]at HT3'
        have v17:W3.cell? ⟨rb,17,none⟩=some (.int .i64 gu):=HT3'.m.k 17 _ rfl
        have vf:=HT3'.m.fz
        have hwg:IntKind.i64.wrap (gu+1)=gu+1:=i64_id _ (by omega) (by omega)
        have HT4:Hid (TIn wq ρ' rb R' (.slice (some ⟨sg,0,none⟩) N cS) wv (.slice va out.length vc) out w.heap.size q s (gu+1) (rAskT NW RT TR (s.gaps.take k)) (rLeftT NW RT TR (s.gaps.take k)) (.slice la (rAskT NW RT TR (s.gaps.take k)).length lc) (.slice fa (rLeftT NW RT TR (s.gaps.take k)).length fc) (W3.setCell ⟨rb,17,none⟩ (.int .i64 (gu+1)))):=HT3'.gave L2.out Hsx.out Htz.out (gu+1)
        clear HT3'
        go_wp2
        go_roundw
        case rel=>
         refine⟨k+1,by omega,by go_num,?_⟩
         rw[rKeptT_gone NW RT TR s.gaps k hkl Hgo.out,rAskT_gone NW RT TR s.gaps k hkl Hgo.out,rLeftT_gone NW RT TR s.gaps k hkl Hgo.out]
         have e:GU+(((k+1:Nat):Int)-(rKeptT NW RT TR (s.gaps.take k)).length)=gu+1:=by omega
         rw[e]
         exact HT4.out
        case measure=>simp[intOf];omega
       ·have hgo':decide (TR<=gt)=false:=decide_eq_false hgo
        have Hgo:Hid (rGone NW RT TR s.gaps[k]=false):=by rw[Hg.out];show(rDue NW RT ⟨gn,gl,gt⟩ && decide (TR<=gt))=false;rw[Hdue.out,hgo'];rfl
        have Hd2:Hid (rDue NW RT s.gaps[k]=true):=by rw[Hg.out];exact Hdue.out
        have Hup:Hid (rUpG NW RT s.gaps[k]=⟨gn,NW,gt+1⟩):=by rw[Hg.out];show(if rDue NW RT ⟨gn,gl,gt⟩=true then _ else _)=_;rw[if_pos Hdue.out]
        have hwt:IntKind.i64.wrap (gt+1)=gt+1:=i64_id _ (by omega) (by omega)
        go_wp2
        go_big_quiet (fail)
        have HT3':=HTe.out nq
        have d0:(W2.drewN nq).cell? ⟨B,0,none⟩=some (.int .i64 gn):=by rw[World.cell?_drewN];exact b0
        have d1:(W2.drewN nq).cell? ⟨B,1,none⟩=some (.int .i64 gl):=by rw[World.cell?_drewN];exact b1
        have d2:(W2.drewN nq).cell? ⟨B,2,none⟩=some (.int .i64 gt):=by rw[World.cell?_drewN];exact b2
        have df:∀o,(W2.drewN nq).frozen? ⟨B,o,none⟩=false:=fun o=>by rw[World.frozen?_drewN];exact bf o
        clear b0 b1 b2 bf v6 HTe HT2
        generalize W2.drewN nq=W3 at *
        have HT4:Hid (TIn wq ρ' rb R' (.slice (some ⟨sg,0,none⟩) N cS) wv (.slice va out.length vc) out w.heap.size q s (GU+((k:Int)-(rKeptT NW RT TR (s.gaps.take k)).length)) (rAskT NW RT TR (s.gaps.take k)) (rLeftT NW RT TR (s.gaps.take k)) (.slice la (rAskT NW RT TR (s.gaps.take k)).length lc) (.slice fa (rLeftT NW RT TR (s.gaps.take k)).length fc) (W3.setCell ⟨B,2,none⟩ (.int .i64 (gt+1)))):=HT3'.chg L2.out Hsx.out Htl.out ((Chg.refl (fun b=>b=B) _).setCell ⟨B,2,none⟩ (.inl rfl) _) HB.out
        have v7:(W3.setCell ⟨B,2,none⟩ (.int .i64 (gt+1))).cell? ⟨rb,7,none⟩=some (.int .i64 NW):=by have h1:=HT4.out.m.k 7 _ rfl;rw[<-HE5.out.1];exact h1
        have HT5:Hid (TIn wq ρ' rb R' (.slice (some ⟨sg,0,none⟩) N cS) wv (.slice va out.length vc) out w.heap.size q s (GU+((k:Int)-(rKeptT NW RT TR (s.gaps.take k)).length)) (rAskT NW RT TR (s.gaps.take k)) (rLeftT NW RT TR (s.gaps.take k)) (.slice la (rAskT NW RT TR (s.gaps.take k)).length lc) (.slice fa (rLeftT NW RT TR (s.gaps.take k)).length fc) ((W3.setCell ⟨B,2,none⟩ (.int .i64 (gt+1))).setCell ⟨B,1,none⟩ (.int .i64 NW))):=HT4.out.chg L2.out Hsx.out Htl.out ((Chg.refl (fun b=>b=B) _).setCell ⟨B,1,none⟩ (.inl rfl) _) HB.out
        have e0:((W3.setCell ⟨B,2,none⟩ (.int .i64 (gt+1))).setCell ⟨B,1,none⟩ (.int .i64 NW)).cell? ⟨B,0,none⟩=some (.int .i64 gn):=(World.cell?_setCell_other _ ⟨B,1,none⟩ ⟨B,0,none⟩ _ (by simp)).trans ((World.cell?_setCell_other _ ⟨B,2,none⟩ ⟨B,0,none⟩ _ (by simp)).trans d0)
        have d1':(W3.setCell ⟨B,2,none⟩ (.int .i64 (gt+1))).cell? ⟨B,1,none⟩=some (.int .i64 gl):=(World.cell?_setCell_other _ ⟨B,2,none⟩ ⟨B,1,none⟩ _ (by simp)).trans d1
        have e1:((W3.setCell ⟨B,2,none⟩ (.int .i64 (gt+1))).setCell ⟨B,1,none⟩ (.int .i64 NW)).cell? ⟨B,1,none⟩=some (.int .i64 NW):=World.cell?_setCell_same _ _ _ d1'
        have e2:((W3.setCell ⟨B,2,none⟩ (.int .i64 (gt+1))).setCell ⟨B,1,none⟩ (.int .i64 NW)).cell? ⟨B,2,none⟩=some (.int .i64 (gt+1)):=(World.cell?_setCell_other _ ⟨B,1,none⟩ ⟨B,2,none⟩ _ (by simp)).trans (World.cell?_setCell_same _ _ _ d2)
        clear HT3' HT4
        go_wp2_with fail
        clear d0 d1 d2 df v7 d1'
        generalize (W3.setCell ⟨B,2,none⟩ (.int .i64 (gt+1))).setCell ⟨B,1,none⟩ (.int .i64 NW)=W5 at *
        refine(refRound_any _ _).mono ?_
        rintro e' w6 ⟨rfl,hw6⟩
        rw[hw6]
        clear hw6
        have hB5:B<W5.heap.size:=lt_of_cell e0
        have hw5:wq.heap.size<=W5.heap.size:=HT5.out.m.c.size
        go_wp2_with (at_builtin;(
         refine wpList_append_at rfl (.tmp 141) (.tmp 145) 34 rfl wq.heap.size 3 iI _ 1 8 Tryz.underlying34 HiI.out rfl (by decide) _ (rAskT NW RT TR (s.gaps.take k)).length ((rAskT NW RT TR (s.gaps.take k)).map (Value.int .i64)) rfl (World.ownsRow.alloc HT5.out.l _) _ 1 1 [.int .i64 (gn%65536)] rfl rfl (cell_one_at _ _ rfl _ _) ?_ (by unfold maxLen;omega) (by omega) (by simp;omega) ?_
         ·intro u hu;simp at hu;subst hu;rfl
         intro v1 wz hown1 hgrow1 hob1
         refine stop_here ?_))
        refine hid_in ?_
        have cz:Chg (fun y=>(Value.slice la (rAskT NW RT TR (s.gaps.take k)).length lc).ownBlock=some y) W5 wz:=(Chg.ofBelow ((Below.refl _ _).alloc (Nat.le_refl _) _)).trans (Chg.ofGrown hgrow1) (fun _ _ e=>e)
        have HT6:Hid (TIn wq ρ' rb R' (.slice (some ⟨sg,0,none⟩) N cS) wv (.slice va out.length vc) out w.heap.size q s (GU+((k:Int)-(rKeptT NW RT TR (s.gaps.take k)).length)) (rAskT NW RT TR (s.gaps.take k)++[gn%65536]) (rLeftT NW RT TR (s.gaps.take k)) v1 (.slice fa (rLeftT NW RT TR (s.gaps.take k)).length fc) wz):=HT5.out.appL L2.out Hsx.out Htl.out (gn%65536) cz (by
         show wz.ownsRow _ _ _ _ _ _
         rw[List.length_append,List.map_append]
         exact hown1) (hob1.imp id (fun e b hb=>by rw[e]at hb;simp at hb;omega))
        have hlB:¬(Value.slice la (rAskT NW RT TR (s.gaps.take k)).length lc).ownBlock=some B:=fun e=>by have:=HLB.out B e;omega
        have f0:wz.cell? ⟨B,0,none⟩=some (.int .i64 gn):=cz.cell e0 hlB
        have f1:wz.cell? ⟨B,1,none⟩=some (.int .i64 NW):=cz.cell e1 hlB
        have f2:wz.cell? ⟨B,2,none⟩=some (.int .i64 (gt+1)):=cz.cell e2 hlB
        obtain⟨a1,c1,rfl⟩:=rowA_shape hown1
        clear hown1 hgrow1 hob1 cz e0 e1 e2 HT5 hlB
        have hBz:B<wz.heap.size:=lt_of_cell f0
        have hwz:wq.heap.size<=wz.heap.size:=HT6.out.m.c.size
        go_wp2_with (at_builtin;(
         refine wpList_append_at rfl (.tmp 147) (.tmp 149) 59 rfl wq.heap.size 126 iG _ 3 24 Tryz.underlying59 HiG.out rfl (by decide) _ (rLeftT NW RT TR (s.gaps.take k)).length ((rLeftT NW RT TR (s.gaps.take k)).flatMap cRg) rfl (World.ownsRow.alloc HT6.out.f _) _ 1 1 [.int .i64 gn,.int .i64 NW,.int .i64 (gt+1)] rfl rfl (cells_new _ [.int .i64 gn,.int .i64 NW,.int .i64 (gt+1)] _) ?_ (by unfold maxLen;omega) (by omega) (by simp;omega) ?_
         ·intro u hu;simp at hu;rcases hu with rfl|rfl|rfl<;>rfl
         intro v2 wy hown2 hgrow2 hob2
         refine stop_here ?_))
        refine hid_in ?_
        have cy:Chg (fun y=>(Value.slice fa (rLeftT NW RT TR (s.gaps.take k)).length fc).ownBlock=some y) wz wy:=(Chg.ofBelow ((Below.refl _ _).alloc (Nat.le_refl _) _)).trans (Chg.ofGrown hgrow2) (fun _ _ e=>e)
        have HT9:Hid (TIn wq ρ' rb R' (.slice (some ⟨sg,0,none⟩) N cS) wv (.slice va out.length vc) out w.heap.size q s (GU+((k:Int)-(rKeptT NW RT TR (s.gaps.take k)).length)) (rAskT NW RT TR (s.gaps.take k)++[gn%65536]) ((rLeftT NW RT TR (s.gaps.take k))++[⟨gn,NW,(gt+1)⟩]) (.slice a1 ((rAskT NW RT TR (s.gaps.take k)).length+1) c1) v2 wy):=HT6.out.appF L2.out Hsx.out Htl.out ⟨gn,NW,(gt+1)⟩ cy (by
         rw[List.length_append,flat_one]
         exact hown2) (hob2.imp id (fun e b hb=>by rw[e]at hb;simp at hb;omega))
        obtain⟨a2,c2,rfl⟩:=rowA_shape hown2
        clear hown2 hgrow2 hob2 cy f0 f1 f2 HT6
        go_wp2
        go_roundw
        case rel=>
         refine⟨k+1,by omega,by go_num,?_⟩
         rw[rKeptT_stays NW RT TR s.gaps k hkl Hgo.out,rAskT_due NW RT TR s.gaps k hkl Hgo.out Hd2.out,rLeftT_stays NW RT TR s.gaps k hkl Hgo.out,Hup.out,Hg.out]
         have e:GU+(((k+1:Nat):Int)-(rKeptT NW RT TR (s.gaps.take k)++[(⟨gn,gl,gt⟩:Rg)]).length)=GU+((k:Int)-(rKeptT NW RT TR (s.gaps.take k)).length):=by rw[List.length_append,List.length_singleton];omega
         rw[e]
         exact HT9.out
        case measure=>simp[intOf];omega
      ·have hdue':decide (RT<=NW-gl)=false:=decide_eq_false hdue
       have Hd2:Hid (rDue NW RT s.gaps[k]=false):=by rw[Hg.out];exact decide_eq_false hdue
       have Hgo:Hid (rGone NW RT TR s.gaps[k]=false):=by show(rDue NW RT s.gaps[k] && _)=false;rw[Hd2.out];rfl
       have Hup:Hid (rUpG NW RT s.gaps[k]=⟨gn,gl,gt⟩):=by show(if rDue NW RT s.gaps[k]=true then _ else _)=_;rw[if_neg (by rw[Hd2.out];decide),Hg.out]
       go_wp2
       go_big_quiet (fail)
       have HT2':=HTd.out nq
       have f0:(W1.drewN nq).cell? ⟨B,0,none⟩=some (.int .i64 gn):=by rw[World.cell?_drewN];exact b0'
       have f1:(W1.drewN nq).cell? ⟨B,1,none⟩=some (.int .i64 gl):=by rw[World.cell?_drewN];exact b1'
       have f2:(W1.drewN nq).cell? ⟨B,2,none⟩=some (.int .i64 gt):=by rw[World.cell?_drewN];exact b2'
       clear b0' b1' b2' bf' v7 v5 HTd HT1
       generalize W1.drewN nq=wz at *
       have HT6:Hid (TIn wq ρ' rb R' (.slice (some ⟨sg,0,none⟩) N cS) wv (.slice va out.length vc) out w.heap.size q s (GU+((k:Int)-(rKeptT NW RT TR (s.gaps.take k)).length)) (rAskT NW RT TR (s.gaps.take k)) (rLeftT NW RT TR (s.gaps.take k)) (.slice la (rAskT NW RT TR (s.gaps.take k)).length lc) (.slice fa (rLeftT NW RT TR (s.gaps.take k)).length fc) wz):=HT2'
       clear HT2'
       have hBz:B<wz.heap.size:=lt_of_cell f0
       have hwz:wq.heap.size<=wz.heap.size:=HT6.out.m.c.size
       go_wp2_with (at_builtin;(
        refine wpList_append_at rfl (.tmp 147) (.tmp 149) 59 rfl wq.heap.size 126 iG _ 3 24 Tryz.underlying59 HiG.out rfl (by decide) _ (rLeftT NW RT TR (s.gaps.take k)).length ((rLeftT NW RT TR (s.gaps.take k)).flatMap cRg) rfl (World.ownsRow.alloc HT6.out.f _) _ 1 1 [.int .i64 gn,.int .i64 gl,.int .i64 gt] rfl rfl (cells_new _ [.int .i64 gn,.int .i64 gl,.int .i64 gt] _) ?_ (by unfold maxLen;omega) (by omega) (by simp;omega) ?_
        ·intro u hu;simp at hu;rcases hu with rfl|rfl|rfl<;>rfl
        intro v2 wy hown2 hgrow2 hob2
        refine stop_here ?_))
       refine hid_in ?_
       have cy:Chg (fun y=>(Value.slice fa (rLeftT NW RT TR (s.gaps.take k)).length fc).ownBlock=some y) wz wy:=(Chg.ofBelow ((Below.refl _ _).alloc (Nat.le_refl _) _)).trans (Chg.ofGrown hgrow2) (fun _ _ e=>e)
       have HT9:Hid (TIn wq ρ' rb R' (.slice (some ⟨sg,0,none⟩) N cS) wv (.slice va out.length vc) out w.heap.size q s (GU+((k:Int)-(rKeptT NW RT TR (s.gaps.take k)).length)) (rAskT NW RT TR (s.gaps.take k)) ((rLeftT NW RT TR (s.gaps.take k))++[⟨gn,gl,gt⟩]) (.slice la (rAskT NW RT TR (s.gaps.take k)).length lc) v2 wy):=HT6.out.appF L2.out Hsx.out Htl.out ⟨gn,gl,gt⟩ cy (by
        rw[List.length_append,flat_one]
        exact hown2) (hob2.imp id (fun e b hb=>by rw[e]at hb;simp at hb;omega))
       obtain⟨a2,c2,rfl⟩:=rowA_shape hown2
       clear hown2 hgrow2 hob2 cy f0 f1 f2 HT6
       go_wp2
       go_roundw
       case rel=>
        refine⟨k+1,by omega,by go_num,?_⟩
        rw[rKeptT_stays NW RT TR s.gaps k hkl Hgo.out,rAskT_not NW RT TR s.gaps k hkl Hgo.out Hd2.out,rLeftT_stays NW RT TR s.gaps k hkl Hgo.out,Hup.out,Hg.out]
        have e:GU+(((k+1:Nat):Int)-(rKeptT NW RT TR (s.gaps.take k)++[(⟨gn,gl,gt⟩:Rg)]).length)=GU+((k:Int)-(rKeptT NW RT TR (s.gaps.take k)).length):=by rw[List.length_append,List.length_singleton];omega
        rw[e]
        exact HT9.out
       case measure=>simp[intOf];omega
     ·have hkG':¬(k:Int)<G:=by omega
      have hke:s.gaps.take k=s.gaps:=List.take_of_length_le (by rw[HG.out];omega)
      rw[hke]at HT hl1 hl2 hl3 ⊢
      have e0:GU+((k:Int)-(rKeptT NW RT TR s.gaps).length)=GU+((s.gaps.length:Int)-(rKeptT NW RT TR s.gaps).length):=by rw[HG.out];omega
      rw[e0]at HT
      clear hke e0
      have hsw:wq.heap.size<=wr.heap.size:=HT.out.m.c.size
      have xf:∀o,wr.frozen? ⟨sg,o,none⟩=false:=fun o=>by
       have h1:wr.ownsRow 0 61 3 (.slice (some ⟨sg,0,none⟩) N cS) R'.sds.length (R'.sds.flatMap cRs):=HT.out.m.sr.1
       rw[HlN.out]at h1
       exact h1.frozenAt o
      obtain⟨ρ2,a1,a2,a3,a4,a5,a6⟩:=HT.out.done L2.out Hsx.out Htz.out (sg:=sg) (cap:=cS) (by rw[HlN.out]) _ rfl
      have D1:=hyd a1
      have D2:=hyd a2
      have D3:=hyd a3
      have D4:=hyd a4
      have D5:=hyd a5
      have D6:=hyd a6
      have HRT:Hid (RTk R4 (q+1) (rTickS R' q s (.slice fa (rLeftT NW RT TR s.gaps).length fc)) (out++rTickT R' s)):=L1.out.step _ Hsx.out
      have HRS:Hid (rTickS R' q s (.slice fa (rLeftT NW RT TR s.gaps).length fc)={ R' with s:={ R'.s with asked:=AK+(rAskT NW RT TR s.gaps).length,givenUp:=GU+((s.gaps.length:Int)-(rKeptT NW RT TR s.gaps).length) },sds:=R'.sds.set q ⟨s.src,s.newest,.slice fa (rLeftT NW RT TR s.gaps).length fc,rLeftT NW RT TR s.gaps⟩ }):=by
       show _=_
       unfold rTickS
       rw[HE5.out.1,HE5.out.2.1,HE5.out.2.2.1,HE5.out.2.2.2.1,HE5.out.2.2.2.2]
      have HRO:Hid (rTickT R' s=if(rAskT NW RT TR s.gaps).length=0 then[]else[(askR 0 s.src (rAskT NW RT TR s.gaps)).1]):=by
       show _=_
       unfold rTickT
       rw[HE5.out.1,HE5.out.2.1,HE5.out.2.2.1]
      have C2:=hyd c2
      clear a1 a2 a3 a4 a5 a6 HT
      by_cases hz:(rAskT NW RT TR s.gaps).length=0
      ·have hz':decide (0<((rAskT NW RT TR s.gaps).length:Int))=false:=decide_eq_false (by omega)
       have HLL:Hid (TLoop w ρ rb (.slice (some ⟨sg,0,none⟩) N cS) wv R4 (q+1) (.slice va out.length vc) (wr.setCell ⟨sg,q*3+2,none⟩ (.slice fa (rLeftT NW RT TR s.gaps).length fc))):=by
        have h1:=HRT.out
        have h2:=D1.out
        rw[HRS.out,HRO.out,if_pos hz,List.append_nil]at h1
        rw[hz]at h1
        rw[show AK+((0:Nat):Int)=R'.s.asked by rw[HE5.out.2.2.2.2];omega]at h1
        exact⟨_,_,ρ2,h1,h2,L3.out.trans D2.out,D3.out,D4.out⟩
       obtain⟨A,hA⟩:∃A,(rAskT NW RT TR s.gaps).length=A:=⟨_,rfl⟩
       rw[hA]at hz' hz ⊢
       clear HRT HRS HRO D1 D2 D3 D5 hA
       go_wp2
       go_roundw
       case rel=>exact⟨q+1,by omega,by go_num,HLL.out⟩
       case measure=>simp[intOf];omega
      ·have hz':decide (0<((rAskT NW RT TR s.gaps).length:Int))=true:=decide_eq_true (by omega)
       have HRO2:Hid (rTickT R' s=[(askR 0 s.src (rAskT NW RT TR s.gaps)).1]):=by rw[HRO.out,if_neg hz];exact rfl
       obtain⟨A,hA⟩:∃A,(rAskT NW RT TR s.gaps).length=A:=⟨_,rfl⟩
       have HA:=hyd hA
       have hAb:A<=1000:=by omega
       rw[hA]at hz' hz HRS D5 D6 ⊢
       clear hA HRO
       have v16:(wr.setCell ⟨sg,q*3+2,none⟩ (.slice fa (rLeftT NW RT TR s.gaps).length fc)).cell? ⟨rb,16,none⟩=some (.int .i64 AK):=by have h1:=D1.out.k 16 _ rfl;rw[<-HE5.out.2.2.2.2];exact h1
       have vf:=D1.out.fz
       have c2:wr.cell? ⟨sg,q*3+2,none⟩=some (.slice ga G gc):=C2.out
       have hwa:IntKind.i64.wrap (AK+(A:Int))=AK+A:=i64_id _ (by omega) (by omega)
       have D7:Hid (RdAt ((wr.setCell ⟨sg,q*3+2,none⟩ (.slice fa (rLeftT NW RT TR s.gaps).length fc)).setCell ⟨rb,16,none⟩ (.int .i64 (AK+A))) ρ2 rb (rTickS R' q s (.slice fa (rLeftT NW RT TR s.gaps).length fc)) (.slice (some ⟨sg,0,none⟩) N cS) wv):=by
        rw[HRS.out]
        exact D1.out.put 16 _ rfl rfl rfl
       have hrm2:ρ2 rb=1:=D1.out.rm
       have c16:Chg (fun b=>b=rb) (wr.setCell ⟨sg,q*3+2,none⟩ (.slice fa (rLeftT NW RT TR s.gaps).length fc)) ((wr.setCell ⟨sg,q*3+2,none⟩ (.slice fa (rLeftT NW RT TR s.gaps).length fc)).setCell ⟨rb,16,none⟩ (.int .i64 (AK+A))):=(Chg.refl (fun b=>b=rb) _).setCell ⟨rb,16,none⟩ (.inl rfl) _
       have D8:Hid (RMv wq ρ' ((wr.setCell ⟨sg,q*3+2,none⟩ (.slice fa (rLeftT NW RT TR s.gaps).length fc)).setCell ⟨rb,16,none⟩ (.int .i64 (AK+A))) ρ2):=D2.out.trans ⟨fun _ _ e=>e,c16.mono (fun b _ e=>by rw[e,hrm2];decide)⟩
       have D9:Hid (((wr.setCell ⟨sg,q*3+2,none⟩ (.slice fa (rLeftT NW RT TR s.gaps).length fc)).setCell ⟨rb,16,none⟩ (.int .i64 (AK+A))).ownsRow w.heap.size 9 1 (.slice va out.length vc) out.length (out.map Value.string)):=rowA_chg c16 D3.out (fun b hb e=>by have:=D4.out b hb;rw[e,hrm2]at this;cases this)
       have D10:Hid (OwnInts ((wr.setCell ⟨sg,q*3+2,none⟩ (.slice fa (rLeftT NW RT TR s.gaps).length fc)).setCell ⟨rb,16,none⟩ (.int .i64 (AK+A))) wq.heap.size (.slice la A lc) (rAskT NW RT TR s.gaps)):=rowA_chg c16 D5.out (fun b hb e=>by have:=D6.out b hb;rw[e,hrm2]at this;cases this)
       have v0:((wr.setCell ⟨sg,q*3+2,none⟩ (.slice fa (rLeftT NW RT TR s.gaps).length fc)).setCell ⟨rb,16,none⟩ (.int .i64 (AK+A))).cell? ⟨sg,q*3,none⟩=some (.int .i64 s.src):=by
        have h1:=D7.out.sr.1
        have hq3:(rTickS R' q s (.slice fa (rLeftT NW RT TR s.gaps).length fc)).sds.length=N:=by simp only[rTickS,List.length_set];exact HlN.out
        have hq2:q<(rTickS R' q s (.slice fa (rLeftT NW RT TR s.gaps).length fc)).sds.length:=by rw[hq3];exact hqN
        rw[hq3]at h1
        have h2:=h1.cellAt (q*3+0) (by omega)
        rw[flat_at cRs_len _ q 0 hq2 (by omega)]at h2
        simp only[rTickS,List.getElem_set_self]at h2
        exact h2
       clear c16 D1 D2 D3 D5
       go_wp2_with fail
       clear v16 vf c2 xf v0
       generalize (wr.setCell ⟨sg,q*3+2,none⟩ (.slice fa (rLeftT NW RT TR s.gaps).length fc)).setCell ⟨rb,16,none⟩ (.int .i64 (AK+A))=W8 at *
       refine(refAsk_any 0 s.src _ (rAskT NW RT TR s.gaps) _ D10.out.isInts (by rw[HA.out];omega)).mono ?_
       rintro e' w9 ⟨rfl,hb9⟩
       have HRT2:Hid (RTk R4 (q+1) (rTickS R' q s (.slice fa (rLeftT NW RT TR s.gaps).length fc)) (out++[(askR 0 s.src (rAskT NW RT TR s.gaps)).1])):=by rw[<-HRO2.out];exact HRT.out
       generalize askR 0 s.src (rAskT NW RT TR s.gaps)=AR at *
       obtain⟨t1,t2⟩:=AR
       simp only at HRT2
       have G1:Hid (RdAt w9 ρ2 rb (rTickS R' q s (.slice fa (rLeftT NW RT TR s.gaps).length fc)) (.slice (some ⟨sg,0,none⟩) N cS) wv):=D7.out.below hb9
       have G2:Hid (RMv wq ρ' w9 ρ2):=D8.out.trans (RMv.below hb9)
       have G3:Hid (w9.ownsRow w.heap.size 9 1 (.slice va out.length vc) out.length (out.map Value.string)):=rowA_chg (T:=fun _=>False) (Chg.ofBelow hb9) D9.out (fun _ _ e=>e)
       have hz9:w.heap.size<=w9.heap.size:=Nat.le_trans hzw G2.out.2.size
       clear hb9 D7 D8 D9 D10 HRT HRO2
       go_wp2_with (at_builtin;(
        refine wpList_append_at rfl (.tmp 180) (.tmp 182) 32 rfl w.heap.size 9 iS _ 1 16 Tryz.underlying32 HiS.out rfl (by decide) _ out.length (out.map Value.string) rfl (World.ownsRow.alloc G3.out _) _ 1 1 [.string t1] rfl rfl (cell_one_at _ _ rfl _ _) ?_ (by unfold maxLen;omega) (by omega) (by simp;omega) ?_
        ·intro u hu;simp at hu;subst hu;rfl
        intro v' wz hown' hgrow hob
        refine stop_here ?_))
       refine hid_in ?_
       have cz:Chg (fun y=>(Value.slice va out.length vc).ownBlock=some y) w9 wz:=(Chg.ofBelow ((Below.refl _ _).alloc (Nat.le_refl _) _)).trans (Chg.ofGrown hgrow) (fun _ _ e=>e)
       have HLL:Hid (TLoop w ρ rb (.slice (some ⟨sg,0,none⟩) N cS) wv R4 (q+1) v' wz):=by
        refine⟨_,_,ρ2,HRT2.out,G1.out.chg cz (fun b e=>D4.out b e),?_,by rw[List.length_append,List.map_append];exact hown',fun b hb=>?_⟩
        ·have h1:=L3.out.trans G2.out
         exact⟨h1.1,h1.2.trans cz (fun b hb e=>absurd (G3.out.lt b e).1 (by omega))⟩
        ·rcases hob with o|o
         ·exact D4.out b (o▸hb)
         ·rw[o,Option.some.injEq]at hb
          rw[<-hb]
          exact G1.out.hi _ (by simp)
       obtain⟨a9,c9,rfl⟩:=rowA_shape hown'
       clear hown' hgrow hob cz
       go_wp2
       go_roundw
       case rel=>exact⟨q+1,by omega,by go_num,HLL.out⟩
       case measure=>simp[intOf];omega
   ·have hqN':¬(q:Int)<N:=by omega
    have hqe:q=R.sds.length:=by rw[HN.out];omega
    have E:Hid (PK R' out 0):=E0.out _ _ (by rw[<-hqe];exact L1.out)
    have HE:Hid (TRel w ρ rb (.slice aS N cS) wv R' out (.slice va out.length vc) wr):=⟨ρ',L2.out,L3.out,L4.out,L5.out⟩
    clear hqe hK hC hlN hc1
    go_wp2
    go_ret2
    exact⟨_,_,_,_,rfl,E.out,HE.out⟩
end Go.Proofs.YtdjhhnolcafkiaaGreat
