import Derived.Test.YtdjhhnolcafkiaaGreatG01
import Derived.Test.YtdjhhnolcafkiaaGreatG02
import Derived.Deep.RegionHeld3
import Derived.Test.YtdjhhnolcafkiaaGreatG07
import Derived.Test.YtdjhhnolcafkiaaGreatG05
import Derived.Test.YtdjhhnolcafkiaaGreatG08
import Derived.Test.YtdjhhnolcafkiaaGreatG04
import Derived.Laws.EntriesVeiled
set_option linter.unusedVariables false
set_option linter.unusedSimpArgs false
set_option maxHeartbeats 40000000
set_option maxRecDepth 20000
namespace Go.Proofs.YtdjhhnolcafkiaaGreat
open Go.RowKit
namespace Pk
def byteAt (s:ByteArray) (k:Nat):UInt8:=s.data.toList.getD k 0
theorem index_at (s:ByteArray) (k:Nat) (h:k<s.size) (W:World):(Instr.index 9 (.string s) (.int .i64 (k:Int))).run Tryz.prog W = .ok (.int .u8 ((byteAt s k).toNat:Int)) W:=by
 rw[run_index_string W 9 s .i64 k Tryz.underlying9,dif_pos ⟨by omega,by omega⟩]
 have e:s[((k:Nat):Int).toNat]'(by omega)=byteAt s k:=by
  unfold byteAt
  rw[List.getD_eq_getElem?_getD,List.getElem?_eq_getElem (by simpa using h)]
  rfl
 rw[e]
theorem list_four (s:ByteArray) (h:4<=s.size):s.data.toList=byteAt s 0::byteAt s 1::byteAt s 2::byteAt s 3::(s.extract 4 s.size).data.toList:=by
 have hl:s.data.toList.length=s.size:=(Lib.size_eq s).symm
 rw[Lib.extract_data,List.take_of_length_le (by rw[List.length_drop];omega)]
 unfold byteAt
 match hm:s.data.toList,(show 4<=s.data.toList.length by omega)with
 | a::b::c::d::r,_=>rfl
theorem num_first (s:ByteArray) (h:2<=s.size):num (s.extract 0 2).data.toList=num [byteAt s 0,byteAt s 1]:=by
 have hl:s.data.toList.length=s.size:=(Lib.size_eq s).symm
 rw[Lib.extract_data,List.drop_zero]
 unfold byteAt
 match hm:s.data.toList,(show 2<=s.data.toList.length by omega)with
 | a::b::r,_=>rfl
theorem ents_four (s:ByteArray) (h:4<=s.size):entsR s.data.toList=((num [byteAt s 0,byteAt s 1]:Nat):Int)::(byteNums (num [byteAt s 0,byteAt s 1]+1) (byteAt s 3).toNat++byteNums (num [byteAt s 0,byteAt s 1]+9) (byteAt s 2).toNat)++entsR (s.extract 4 s.size).data.toList:=by
 rw[list_four s h,entsR_bytes]
theorem num_two_lt (a b:UInt8):num [a,b]<65536:=by
 have h1:=a.toNat_lt
 have h2:=b.toNat_lt
 rw[num_pair]
 omega
end Pk
open Pk
theorem readEntries_any (s:ByteArray) (w:World) (hs:s.size<=1500) (h4:s.size%4=0) :
  Calls Tryz.prog 116 #[.string s] w fun e w'=>∃v,e = .returned v/\OwnInts w' w.heap.size v (entsR s.data.toList)/\Below w.heap.size w w':=by
 go_enter Tryz.func116,Tryz.ntmps116
 go_wp2
 go_loopw [0,3] (fun tv v wr=>∃(t:ByteArray) (l:List Int),tv = .string t/\l++entsR t.data.toList=entsR s.data.toList/\t.size<=s.size/\t.size%4=0/\4*l.length+17*t.size<=17*s.size/\OwnInts wr w.heap.size v l/\Below w.heap.size w wr) (fun tv _ _=>strLen tv)
 case atStart=>exact⟨s,[],rfl,rfl,Nat.le_refl _,h4,by simp,World.ownsRow_nil _ _ _ _,Below.refl _ _⟩
 case round=>
  obtain⟨t,l,rfl,hl,ht,ht4,hlen,hown,hb⟩:=hrel
  have Hl:=hyd hl
  obtain⟨a1,c1,rfl⟩:=hown.shape
  have Hown:=hyd hown
  have Hb:=hyd hb
  have hws:=hb.size
  clear hl hown hb
  by_cases h0:4<=t.size
  ·have hne:t.toList.isEmpty=false:=by rw[isEmpty_size];exact decide_eq_false (by omega)
   have h4i:(4:Int)<=t.size:=by omega
   have Hs:Hid (entsR t.data.toList=_):=ents_four t h0
   have j3:∀W:World,(Instr.index 9 (.string t) (.int .i64 3)).run Tryz.prog W = .ok (.int .u8 ((byteAt t 3).toNat:Int)) W:=fun W=>index_at t 3 (by omega) W
   have j2:∀W:World,(Instr.index 9 (.string t) (.int .i64 2)).run Tryz.prog W = .ok (.int .u8 ((byteAt t 2).toNat:Int)) W:=fun W=>index_at t 2 (by omega) W
   have hnf:=num_first t (by omega)
   have hp:=num_two_lt (byteAt t 0) (byteAt t 1)
   have hb3:=(byteAt t 3).toNat_lt
   have hb2:=(byteAt t 2).toNat_lt
   generalize num [byteAt t 0,byteAt t 1]=p at *
   generalize (byteAt t 3).toNat=d at *
   generalize (byteAt t 2).toNat=c at *
   have hwp:IntKind.u16.wrap (p:Int)=(p:Int):=by simp[IntKind.wrap,IntKind.signed,IntKind.bits];omega
   have hw1:IntKind.u16.wrap ((p:Int)+1)=(((p+1)%65536:Nat):Int):=by simp[IntKind.wrap,IntKind.signed,IntKind.bits]
   have hw9:IntKind.u16.wrap ((p:Int)+9)=(((p+9)%65536:Nat):Int):=by simp[IntKind.wrap,IntKind.signed,IntKind.bits]
   have hr1:(p+1)%65536<65536:=Nat.mod_lt _ (by decide)
   have hr9:(p+9)%65536<65536:=Nat.mod_lt _ (by decide)
   have M1:Hid (byteNums ((p+1)%65536) d=byteNums (p+1) d):=byteNums_mod _ _
   have M9:Hid (byteNums ((p+9)%65536) c=byteNums (p+9) c):=byteNums_mod _ _
   generalize (p+1)%65536=r1 at *
   generalize (p+9)%65536=r9 at *
   go_wp2_with fail
   refine(readNumber_any _ _ (by simp only[ByteArray.size_extract];omega)).mono ?_
   rintro e w1 ⟨rfl,hw1e⟩
   rw[hnf,hw1e]
   clear hnf hw1e w1
   go_wp2_with (at_builtin;(
    refine wpList_append_int rfl (.tmp 13) (.tmp 16) rfl w.heap.size _ l (p:Int) rfl (Hown.out.alloc _) _ 1 rfl ?_ (by omega) (by simp;omega) ?_
    ·exact cell_one_new _ _ _ 0 _ rfl
    intro v' w2 hown' hgrow _
    refine stop_here ?_))
   have R1:Hid (OwnInts w2 w.heap.size v' (l++[(p:Int)])):=hown'
   have hx2:wr.heap.size<=w2.heap.size:=by have:=hgrow.size;simp at this;omega
   have R2:Hid (Below w.heap.size w w2):=(Hb.out.alloc hws _).grown hgrow (by simp;omega) (fun x hx=>(World.ownsRow.lt Hown.out x hx).1)
   obtain⟨a2,c2,rfl⟩:=hown'.shape
   have hl2:(l++[(p:Int)]).length<=l.length+1:=by simp
   clear hown' hgrow Hown Hb
   generalize hLL:l++[(p:Int)]=L at *
   have HL:=hyd hLL
   clear hLL
   refine hid_in ?_
   go_wp2_with fail
   refine(addSet_any w.heap.size _ L r1 d _ (by omega) hr1 R1.out (by omega) (by omega)).mono ?_
   rintro e w3 ⟨v3,rfl,hown3,hb3w⟩
   rw[M1.out]at hown3
   have R3:=hyd hown3
   have R4:Hid (Below w.heap.size w w3):=R2.out.trans hb3w
   have hx3:wr.heap.size<=w3.heap.size:=Nat.le_trans hx2 hb3w.size
   obtain⟨a3,c3,rfl⟩:=hown3.shape
   have hn1:=byteNums_length (p+1) d
   have hn2:=byteNums_length (p+9) c
   have hl3:(L++byteNums (p+1) d).length<=l.length+9:=by rw[List.length_append];omega
   clear hown3 hb3w R1 R2
   generalize hLL:L++byteNums (p+1) d=L3 at *
   have HL3:=hyd hLL
   clear hLL
   go_wp2_with fail
   refine(addSet_any w.heap.size _ L3 r9 c _ (by omega) hr9 R3.out (by omega) (by omega)).mono ?_
   rintro e w4 ⟨v4,rfl,hown4,hb4w⟩
   rw[M9.out]at hown4
   have R5:=hyd hown4
   have R6:Hid (Below w.heap.size w w4):=R4.out.trans hb4w
   obtain⟨a4,c4,rfl⟩:=hown4.shape
   have hl4:(L3++byteNums (p+9) c).length<=l.length+17:=by rw[List.length_append];omega
   clear hown4 hb4w R3 R4
   generalize hLL:L3++byteNums (p+9) c=L4 at *
   have HL4:=hyd hLL
   clear hLL
   go_wp2
   go_roundw
   case rel=>
    refine⟨t.extract 4 t.size,L4,rfl,?_,by simp only[ByteArray.size_extract];omega,by simp only[ByteArray.size_extract];omega,by simp only[ByteArray.size_extract];omega,R5.out,R6.out⟩
    rw[<-HL4.out,<-HL3.out,<-HL.out,<-Hl.out,Hs.out]
    simp
   case measure=>simp only[strLen,ByteArray.size_extract];omega
  ·have ht0:t.size=0:=by omega
   have hne:t.toList.isEmpty=true:=by rw[isEmpty_size];exact decide_eq_true ht0
   have Hn:Hid (entsR t.data.toList=[]):=by
    show _=_
    rw[show t.data.toList=[] from List.eq_nil_of_length_eq_zero (by rw[<-Lib.size_eq];exact ht0)]
    rfl
   go_wp2
   go_ret
   refine⟨_,rfl,?_,Hb.out⟩
   have h:=Hl.out
   rw[Hn.out,List.append_nil]at h
   rw[<-h]
   exact Hown.out
theorem readAsking_any (s:ByteArray) (w:World) (hs0:12<=s.size) (hs:s.size<=1500) (h4:s.size%4=0) :
  Calls Tryz.prog 96 #[.string s] w fun e w'=>∃v,e = .returned (.agg #[.int .i64 (num (s.extract 4 8).data.toList),.int .i64 (num (s.extract 8 12).data.toList),v])/\OwnInts w' w.heap.size v (entsR (s.extract 12 s.size).data.toList)/\Below w.heap.size w w':=by
 have i8:(8:Int)<=s.size:=by omega
 have i12:(12:Int)<=s.size:=by omega
 go_enter Tryz.func96,Tryz.ntmps96
 go_wp2
 refine wp_region_noPanic ?_
 refine wp_region_held_drew (S:=fun _=>True) (by kernel_rfl) trivial (fun zH=>?_)
 refine tkH 0 ?_ zH ?_ ?_;rotate_left
 ·((intro W _;go_simp)<;>with_reducible rfl)
 refine tkH 1 ?_ zH ?_ ?_;rotate_left
 ·((intro W _;go_simp)<;>with_reducible rfl)
 refine tkH 3 ?_ zH ?_ ?_;rotate_left
 ·((intro W _;go_simp)<;>with_reducible rfl)
 refine tkH 4 ?_ zH ?_ ?_;rotate_left
 ·((intro W _;go_simp)<;>with_reducible rfl)
 refine tkH 6 ?_ zH ?_ ?_;rotate_left
 ·((intro W _;go_simp)<;>with_reducible rfl)
 refine tkH 7 ?_ zH ?_ ?_;rotate_left
 ·((intro W _;go_simp)<;>with_reducible rfl)
 refine rd1 2 fun K hK=>?_
 go_simp
 refine(readNumber_any _ _ (by simp only[ByteArray.size_extract];omega)).mono ?_
 rintro e w1 ⟨rfl,hw1e⟩
 rw[hw1e]
 clear hw1e w1
 go_wp2_with fail
 refine hK.out _ _ trivial (fun zH=>?_)
 clear hK K
 refine rd1 5 fun K hK=>?_
 go_simp
 refine(readNumber_any _ _ (by simp only[ByteArray.size_extract];omega)).mono ?_
 rintro e w1 ⟨rfl,hw1e⟩
 rw[hw1e]
 clear hw1e w1
 go_wp2_with fail
 refine hK.out _ _ trivial (fun zH=>?_)
 clear hK K
 refine rd1 8 fun K hK=>?_
 go_simp
 refine(readEntries_any _ _ (by simp only[ByteArray.size_extract];omega) (by simp only[ByteArray.size_extract];omega)).mono ?_
 rintro e w1 ⟨v1,rfl,hown1,hb1⟩
 obtain⟨a1,c1,rfl⟩:=hown1.shape
 have hsz:w.heap.size<w1.heap.size:=by have:=hb1.size;simp at this;omega
 have hc1:=box_below hb1 w.heap.size (by simp)
 have hz1:∀o,w1.frozen? ⟨w.heap.size,o,none⟩=false:=fun o=>(hb1.frozen (p:=⟨w.heap.size,o,none⟩) (by simp)).trans (frozen_new w _ _ o)
 have d0:w1.cell? ⟨w.heap.size,0,none⟩=some (.int .i64 0):=(hc1 0).trans (cell_new w _ _ 0)
 have d1:w1.cell? ⟨w.heap.size,1,none⟩=some (.int .i64 0):=(hc1 1).trans (cell_new w _ _ 1)
 have d2:w1.cell? ⟨w.heap.size,2,none⟩=some (.slice none 0 0):=(hc1 2).trans (cell_new w _ _ 2)
 have Hown1:Hid (OwnInts w1 (w.heap.size+1) (.slice a1 (entsR (s.extract 12 s.size).data.toList).length c1) (entsR (s.extract 12 s.size).data.toList)):=hown1.mono (by simp)
 have Hb1:Hid (Below w.heap.size w w1):=((Below.refl _ _).alloc (Nat.le_refl _) _).drew.trans (hb1.mono (by simp))
 clear hown1 hb1 hc1
 generalize hLe:entsR (s.extract 12 s.size).data.toList=L at *
 have HLe:=hyd hLe
 clear hLe
 go_wp2_with fail
 refine hK.out _ _ trivial (fun zH=>?_)
 clear hK K
 refine tkH 9 ?_ zH ?_ ?_;rotate_left
 ·((intro W _;go_simp)<;>with_reducible rfl)
 refine rd1 10 fun K hK=>?_
 go_simp
 refine hK.out _ _ trivial (fun zH=>?_)
 clear hK K
 refine doN ?_
 go_wp2
 refine bodyPost_ret (v:=.agg #[.int .i64 (num (s.extract 4 8).data.toList),.int .i64 (num (s.extract 8 12).data.toList),.slice a1 L.length c1]) (by simp[results,Tryz.results96,go_sem,d0,d1,d2]) rfl ⟨_,rfl,?_,?_⟩
 ·rw[HLe.out]
  exact((((Hown1.out.setCell (a:=⟨w.heap.size,0,none⟩) (Nat.lt_succ_self _) _).setCell (a:=⟨w.heap.size,1,none⟩) (Nat.lt_succ_self _) _).setCell (a:=⟨w.heap.size,2,none⟩) (Nat.lt_succ_self _) _)).mono (Nat.le_succ _)
 ·exact((Hb1.out.setCell (p:=⟨w.heap.size,0,none⟩) (Nat.le_refl _) _).setCell (p:=⟨w.heap.size,1,none⟩) (Nat.le_refl _) _).setCell (p:=⟨w.heap.size,2,none⟩) (Nat.le_refl _) _
end Go.Proofs.YtdjhhnolcafkiaaGreat
namespace Go.Proofs.YtdjhhnolcafkiaaGreat
open Go.RowKit
namespace Pk
def wrongR:Value:=.tuple #[.slice none 0 0,.int .i64 1]
def RepAs (r:Option (List (Nat × Nat × List Int))) (B:Nat) (e:Ending) (w:World):Prop:=
 match r with
 | some L=>∃lv xs,e = .returned (.tuple #[lv,.int .i64 0])/\OwnAsks w B lv xs/\xs.map (fun x=>(x.a,x.b,x.l))=L.map (fun y=>((y.1:Int),(y.2.1:Int),y.2.2))
 | none=>e = .returned wrongR
theorem low5 (b:UInt8):bits .and .u8 (b.toNat:Int) 31=((b.toNat%32:Nat):Int):=by
 have hb:=b.toNat_lt
 have h:=u8_and_nat b.toNat 31 (by omega) (by omega)
 rw[show(31:Nat)=2 ^ 5-1 from rfl,Nat.and_two_pow_sub_one_eq_mod]at h
 exact h
def mapN (L:List (Nat × Nat × List Int)):List (Int × Int × List Int):=L.map fun y=>((y.1:Int),(y.2.1:Int),y.2.2)
def mapA (xs:List Ask1):List (Int × Int × List Int):=xs.map fun x=>(x.a,x.b,x.l)
def RestR (s t:ByteArray) (xs:List Ask1):Prop:=∃D:List (Nat × Nat × List Int),mapA xs=mapN D/\partsF s.data.toList=(partsF t.data.toList).map (D++·)
theorem RestR.start (s:ByteArray):RestR s s []:=⟨[],rfl,by simp⟩
theorem RestR.wrong {s t:ByteArray}{xs:List Ask1}(h:RestR s t xs) (h2:partsF t.data.toList=none):partsF s.data.toList=none:=by
 obtain⟨D,_,h3⟩:=h
 rw[h3,h2]
 rfl
theorem RestR.done {s t:ByteArray}{xs:List Ask1}(h:RestR s t xs) (h2:t.size=0):∃L,partsF s.data.toList=some L/\mapA xs=mapN L:=by
 obtain⟨D,h1,h3⟩:=h
 refine⟨D,?_,h1⟩
 rw[h3,show t.data.toList=[] from List.eq_nil_of_length_eq_zero (by rw[<-Lib.size_eq];exact h2),partsF_nil]
 simp
theorem RestR.skip {s t u:ByteArray}{xs:List Ask1}(h:RestR s t xs) (h2:partsF t.data.toList=partsF u.data.toList):RestR s u xs:=by
 obtain⟨D,h1,h3⟩:=h
 exact⟨D,h1,by rw[h3,h2]⟩
theorem RestR.take {s t u:ByteArray}{xs:List Ask1}{x:Ask1}{a b:Nat}(h:RestR s t xs) (h2:partsF t.data.toList=(partsF u.data.toList).map ((a,b,x.l)::·)) (ha:x.a=a) (hb:x.b=b):RestR s u (xs++[x]):=by
 obtain⟨D,h1,h3⟩:=h
 refine⟨D++[(a,b,x.l)],?_,?_⟩
 ·unfold mapA mapN at *
  rw[List.map_append,List.map_append,h1]
  simp[ha,hb]
 ·rw[h3,h2,Option.map_map]
  congr 1
  funext L
  simp
def pLen (t:ByteArray):Nat:=4+4*num (t.extract 2 4).data.toList
theorem pLen_eq (t:ByteArray) (_h:4<=t.size):partLen t.data.toList=pLen t:=by
 unfold partLen pLen
 rw[Lib.extract_data]
theorem num_lt_two (l:List UInt8) (h:l.length<=2):num l<65536:=by
 match l,h with
 | [],_=>simp[num]
 | [a],_=>have:=a.toNat_lt;simp[num];omega
 | [a,b],_=>exact num_two_lt a b
theorem list_ne (t:ByteArray) (h:0<t.size):t.data.toList≠[]:=fun e=>by
 have h2:t.data.toList.length=0:=by rw[e];rfl
 rw[<-Lib.size_eq]at h2
 omega
theorem parts_short (t:ByteArray) (h0:0<t.size) (h:t.size<4):partsF t.data.toList=none:=by
 rw[partsF_step _ (list_ne t h0),if_pos (.inl (by rw[<-Lib.size_eq];exact h))]
theorem parts_mark (t:ByteArray) (h0:0<t.size) (h:(byteAt t 0).toNat/32≠4):partsF t.data.toList=none:=by
 rw[partsF_step _ (list_ne t h0),if_pos (.inr h)]
theorem parts_long (t:ByteArray) (h4:4<=t.size) (h:t.size<pLen t):partsF t.data.toList=none:=by
 rw[partsF_step _ (list_ne t (by omega)),pLen_eq t h4,<-Lib.size_eq,if_pos h]
 split<;>rfl
theorem drop_eq (t:ByteArray) (n:Nat) (_h:n<=t.size):t.data.toList.drop n=(t.extract n t.size).data.toList:=by
 rw[Lib.extract_data,List.take_of_length_le (by rw[List.length_drop,<-Lib.size_eq];exact Nat.le_refl _)]
theorem parts_other (t:ByteArray) (h4:4<=t.size) (hm:(byteAt t 0).toNat/32=4) (h:pLen t<=t.size) (hn:¬((byteAt t 0).toNat%32=1/\(byteAt t 1).toNat=205)):partsF t.data.toList=partsF (t.extract (pLen t) t.size).data.toList:=by
 unfold byteAt at *
 rw[partsF_step _ (list_ne t (by omega)),pLen_eq t h4,<-Lib.size_eq,if_neg (by rintro(e|e);omega;exact e hm),if_neg (by omega),if_neg hn,drop_eq t _ h]
theorem parts_small (t:ByteArray) (h4:4<=t.size) (hm:(byteAt t 0).toNat/32=4) (h:pLen t<=t.size) (hn:(byteAt t 0).toNat%32=1/\(byteAt t 1).toNat=205) (h16:pLen t<16):partsF t.data.toList=none:=by
 unfold byteAt at *
 rw[partsF_step _ (list_ne t (by omega)),pLen_eq t h4,<-Lib.size_eq,if_neg (by rintro(e|e);omega;exact e hm),if_neg (by omega),if_pos hn,if_pos h16]
theorem parts_ask (t:ByteArray) (h4:4<=t.size) (hm:(byteAt t 0).toNat/32=4) (h:pLen t<=t.size) (hn:(byteAt t 0).toNat%32=1/\(byteAt t 1).toNat=205) (h16:16<=pLen t) :
  partsF t.data.toList=(partsF (t.extract (pLen t) t.size).data.toList).map ((num ((t.extract 0 (pLen t)).extract 4 8).data.toList,num ((t.extract 0 (pLen t)).extract 8 12).data.toList,entsR ((t.extract 0 (pLen t)).extract 12 (t.extract 0 (pLen t)).size).data.toList)::·):=by
 unfold byteAt at *
 rw[partsF_step _ (list_ne t (by omega)),pLen_eq t h4,<-Lib.size_eq,if_neg (by rintro(e|e);omega;exact e hm),if_neg (by omega),if_pos hn,if_neg (by omega),drop_eq t _ h]
 have hs:(t.extract 0 (pLen t)).size=pLen t:=by rw[ByteArray.size_extract];omega
 rw[hs]
 generalize pLen t=n at *
 have e1:∀a b,b<=n->((t.extract 0 n).extract a b).data.toList=(t.data.toList.drop a).take (b-a):=fun a b hb=>by
  rw[Lib.extract_data,Lib.extract_data,List.drop_zero,Nat.sub_zero,List.drop_take,List.take_take,Nat.min_eq_left (by omega)]
 rw[e1 4 8 (by omega),e1 8 12 (by omega),e1 12 n (Nat.le_refl _)]
end Pk
open Pk
theorem readReport_mid (s:ByteArray) (w:World) (h0:0<s.size) (hs:s.size<=1500) :
  Calls Tryz.prog 78 #[.string s] w fun e w'=>Below w.heap.size w w'/\RepAs (partsF s.data.toList) w.heap.size e w':=by
 have hne:s.toList.isEmpty=false:=by rw[isEmpty_size];exact decide_eq_false (by omega)
 have hsi:(s.size:Int)<=1500:=by omega
 go_enter Tryz.func78,Tryz.ntmps78
 go_wp2
 refine wp_scope_fwd 0 rfl ?_
 go_wp2
 go_loopw [4,5] (fun s4 s5 wr=>∃(t:ByteArray) (xs:List Ask1),s5 = .string t/\RestR s t xs/\16*xs.length+t.size<=s.size/\OwnAsks wr w.heap.size s4 xs/\Below w.heap.size w wr) (fun _ s5 _=>strLen s5)
 case atStart=>exact⟨s,[],rfl,RestR.start s,by simp,OwnAsks.nil _ _,Below.refl _ _⟩
 case round=>
  obtain⟨t,xs,rfl,hR,hlen,hown,hb⟩:=hrel
  have HR:=hyd hR
  obtain⟨a1,c1,rfl⟩:=rowA_shape hown.row
  have Hown:=hyd hown
  have Hb:=hyd hb
  have hws:=hb.size
  clear hR hown hb
  have hg0:∀e w',e = .returned wrongR->Below w.heap.size w w'->partsF t.data.toList=none->Below w.heap.size w w'/\RepAs (partsF s.data.toList) w.heap.size e w':=fun e w' he hbe hpe=>by
   refine⟨hbe,?_⟩
   rw[HR.out.wrong hpe]
   exact he
  have Hg0:=hyd hg0
  clear hg0
  by_cases h0:t.size=0
  ·have hne:t.toList.isEmpty=true:=by rw[isEmpty_size];exact decide_eq_true h0
   go_wp2
   refine jump_ret 0 ?_
   go_ret2
   refine⟨Hb.out,?_⟩
   obtain⟨L,hL,hm⟩:=HR.out.done h0
   rw[hL]
   exact⟨_,xs,rfl,Hown.out,hm⟩
  have hne:t.toList.isEmpty=false:=by rw[isEmpty_size];exact decide_eq_false h0
  by_cases h4:t.size<4
  ·have h4i:(t.size:Int)<4:=by omega
   have Hn:Hid (partsF t.data.toList=none):=parts_short t (by omega) h4
   go_wp2
   go_step3
   refine jump_here 0 ?_
   go_wp2
   rw[Exit.noGoto_ret]
   go_ret2
   exact Hg0.out _ _ rfl Hb.out Hn.out
  have h4i:¬(t.size:Int)<4:=by omega
  have h4j:(4:Int)<=t.size:=by omega
  have j0:∀W:World,(Instr.index 9 (.string t) (.int .i64 0)).run Tryz.prog W = .ok (.int .u8 ((byteAt t 0).toNat:Int)) W:=fun W=>index_at t 0 (by omega) W
  have j1:∀W:World,(Instr.index 9 (.string t) (.int .i64 1)).run Tryz.prog W = .ok (.int .u8 ((byteAt t 1).toNat:Int)) W:=fun W=>index_at t 1 (by omega) W
  have hb0:=(byteAt t 0).toNat_lt
  have hb1:=(byteAt t 1).toNat_lt
  by_cases hm:(byteAt t 0).toNat/32=4
  case neg=>
   have Hn:Hid (partsF t.data.toList=none):=parts_mark t (by omega) hm
   have hmi:(((byteAt t 0).toNat:Int)/32 != 4)=true:=by rw[bne_iff_ne];omega
   clear hm
   go_wp2
   go_step3
   refine jump_here 0 ?_
   go_wp2
   rw[Exit.noGoto_ret]
   go_ret2
   exact Hg0.out _ _ rfl Hb.out Hn.out
  have hmi:(((byteAt t 0).toNat:Int)/32 != 4)=false:=by rw[bne_eq_false_iff_eq];omega
  have Hm:=hyd hm
  have hl5:=low5 (byteAt t 0)
  have HP:Hid (pLen t=4+4*num (t.extract 2 4).data.toList):=rfl
  have hnl:=num_lt_two (t.extract 2 4).data.toList (by rw[<-Lib.size_eq,ByteArray.size_extract];omega)
  clear hm
  by_cases hp:t.size<pLen t
  ·have Hn:Hid (partsF t.data.toList=none):=parts_long t (by omega) hp
   have hpi:(t.size:Int)<4+4*(num (t.extract 2 4).data.toList:Int):=by have:=HP.out;omega
   generalize hq:num (t.extract 2 4).data.toList=q at *
   have Hq:=hyd hq
   clear hq hp
   go_wp2_with fail
   refine(readNumber_any _ _ (by simp only[ByteArray.size_extract];omega)).mono ?_
   rintro e w1 ⟨rfl,hw1e⟩
   rw[Hq.out,hw1e]
   clear hw1e w1
   go_wp2
   go_step3
   refine jump_here 0 ?_
   go_wp2
   rw[Exit.noGoto_ret]
   go_ret2
   exact Hg0.out _ _ rfl Hb.out Hn.out
  have hpi:4+4*(num (t.extract 2 4).data.toList:Int)<=(t.size:Int):=by have:=HP.out;omega
  have HPs:Hid (pLen t<=t.size):=by show _<=_;omega
  have Hp4:Hid (pLen t%4=0):=by show _=_;have:=HP.out;omega
  clear hp
  generalize hq:num (t.extract 2 4).data.toList=q at *
  have Hq:=hyd hq
  clear hq
  by_cases hf:(byteAt t 0).toNat%32=1
  case neg=>
   have Hsk:Hid (RestR s (t.extract (4+4*q) t.size) xs):=by
    show RestR _ _ _
    rw[<-HP.out]
    exact HR.out.skip (parts_other t (by omega) Hm.out HPs.out (fun e=>hf e.1))
   have hfi:((((byteAt t 0).toNat%32:Nat):Int) == 1)=false:=by rw[beq_eq_false_iff_ne];omega
   clear hf
   generalize (byteAt t 0).toNat%32=f5 at *
   go_wp2_with fail
   refine(readNumber_any _ _ (by simp only[ByteArray.size_extract];omega)).mono ?_
   rintro e w1 ⟨rfl,hw1e⟩
   rw[Hq.out,hw1e]
   clear hw1e w1
   go_wp2
   go_roundw
   case rel=>exact⟨_,xs,rfl,Hsk.out,by simp only[ByteArray.size_extract];omega,Hown.out,Hb.out⟩
   case measure=>simp only[strLen,ByteArray.size_extract];omega
  by_cases hk:(byteAt t 1).toNat=205
  case neg=>
   have Hsk:Hid (RestR s (t.extract (4+4*q) t.size) xs):=by
    show RestR _ _ _
    rw[<-HP.out]
    exact HR.out.skip (parts_other t (by omega) Hm.out HPs.out (fun e=>hk e.2))
   have hfi:((((byteAt t 0).toNat%32:Nat):Int) == 1)=true:=by rw[beq_iff_eq];omega
   have hki:(((byteAt t 1).toNat:Int) == 205)=false:=by rw[beq_eq_false_iff_ne];omega
   clear hf hk
   generalize (byteAt t 0).toNat%32=f5 at *
   generalize (byteAt t 1).toNat=k5 at *
   go_wp2_with fail
   refine(readNumber_any _ _ (by simp only[ByteArray.size_extract];omega)).mono ?_
   rintro e w1 ⟨rfl,hw1e⟩
   rw[Hq.out,hw1e]
   clear hw1e w1
   go_wp2
   go_roundw
   case rel=>exact⟨_,xs,rfl,Hsk.out,by simp only[ByteArray.size_extract];omega,Hown.out,Hb.out⟩
   case measure=>simp only[strLen,ByteArray.size_extract];omega
  by_cases h16:pLen t<16
  ·have Hn:Hid (partsF t.data.toList=none):=parts_small t (by omega) Hm.out HPs.out ⟨hf,hk⟩ h16
   have h16i:4+4*(q:Int)<16:=by have:=HP.out;omega
   have hfi:((((byteAt t 0).toNat%32:Nat):Int) == 1)=true:=by rw[beq_iff_eq];omega
   have hki:(((byteAt t 1).toNat:Int) == 205)=true:=by rw[beq_iff_eq];omega
   clear hf hk h16
   generalize (byteAt t 0).toNat%32=f5 at *
   generalize (byteAt t 1).toNat=k5 at *
   go_wp2_with fail
   refine(readNumber_any _ _ (by simp only[ByteArray.size_extract];omega)).mono ?_
   rintro e w1 ⟨rfl,hw1e⟩
   rw[Hq.out,hw1e]
   clear hw1e w1
   go_wp2
   go_step3
   refine jump_here 0 ?_
   go_wp2
   rw[Exit.noGoto_ret]
   go_ret2
   exact Hg0.out _ _ rfl Hb.out Hn.out
  have Hpa:Hid (partsF t.data.toList=_):=parts_ask t (by omega) Hm.out HPs.out ⟨hf,hk⟩ (by omega)
  have h16i:¬4+4*(q:Int)<16:=by have:=HP.out;omega
  have hfi:((((byteAt t 0).toNat%32:Nat):Int) == 1)=true:=by rw[beq_iff_eq];omega
  have hki:(((byteAt t 1).toNat:Int) == 205)=true:=by rw[beq_iff_eq];omega
  have hq16:16<=4+4*q:=by omega
  have hqs:4+4*q<=t.size:=by omega
  rw[HP.out]at Hpa
  clear hf hk h16
  generalize (byteAt t 0).toNat%32=f5 at *
  generalize (byteAt t 1).toNat=k5 at *
  go_wp2_with fail
  refine(readNumber_any _ _ (by simp only[ByteArray.size_extract];omega)).mono ?_
  rintro e w1 ⟨rfl,hw1e⟩
  rw[Hq.out,hw1e]
  clear hw1e w1
  go_wp2_with fail
  have hex:(t.extract 0 (4+4*q)).size=4+4*q:=by simp only[ByteArray.size_extract];omega
  refine(readAsking_any _ _ (by omega) (by omega) (by omega)).mono ?_
  rintro e w1 ⟨v,rfl,hown1,hb1⟩
  obtain⟨a2,c2,rfl⟩:=hown1.shape
  have Ho1:=hyd hown1
  have Hb1:=hyd hb1
  have hws1:=hb1.size
  have hle:(entsR ((t.extract 0 (4+4*q)).extract 12 (t.extract 0 (4+4*q)).size).data.toList).length<=6400:=by
   have:=entsR_length q ((t.extract 0 (4+4*q)).extract 12 (t.extract 0 (4+4*q)).size).data.toList (by rw[<-Lib.size_eq,ByteArray.size_extract];omega)
   omega
  clear hown1 hb1
  generalize hee:entsR ((t.extract 0 (4+4*q)).extract 12 (t.extract 0 (4+4*q)).size).data.toList=el at *
  generalize hsa:num ((t.extract 0 (4+4*q)).extract 4 8).data.toList=sa at *
  generalize hsb:num ((t.extract 0 (4+4*q)).extract 8 12).data.toList=sb at *
  clear hee hsa hsb
  have hinfo:=asks_info
  obtain⟨i0,hi,hz0,hz1,hz2⟩:=info_parts hinfo
  have Hi:Hid (Tryz.prog.info? 43=some i0/\i0.zero=some (.agg #[.int .i64 0,.int .i64 0,.slice none 0 0])/\i0.size=3/\i0.bytes=40):=⟨hi,hz0,hz1,hz2⟩
  clear hi hz0 hz1 hz2 hinfo
  go_wp2_with (at_builtin;(
   refine wpList_append_at rfl (.tmp 46) (.tmp 51) 77 rfl w.heap.size 43 i0 _ 3 40 Tryz.underlying77 Hi.out rfl (by decide) _ xs.length (flatA xs) rfl ((rowN_chg (Chg.ofBelow (T:=fun _=>False) Hb1.out) Hown.out.row (fun _ _ e=>e)).alloc _) _ 1 1 [.int .i64 sa,.int .i64 sb,.slice a2 el.length c2] rfl rfl (cells_new _ [.int .i64 sa,.int .i64 sb,.slice a2 el.length c2] _) ?_ (by unfold maxLen;omega) (by omega) (by simp;omega) ?_
   ·intro u hu;simp at hu;rcases hu with rfl|rfl|rfl<;>rfl
   intro v' w2 hown' hgrow hob
   refine stop_here ?_))
  have Ha2:Hid (OwnAsks w2 w.heap.size v' (xs++[⟨sa,sb,.slice a2 el.length c2,el⟩])):=by
   refine OwnAsks.snoc (x:=⟨sa,sb,.slice a2 el.length c2,el⟩) Hown.out (Hb1.out.alloc hws1 _) (Ho1.out.alloc _) hle hws hown' hgrow ?_
   rcases hob with h|h
   ·exact .inl h
   ·exact .inr (fun b hb=>by rw[h]at hb;simp at hb;simp;omega)
  have Hb2:Hid (Below w.heap.size w w2):=(Hb.out.trans ((Hb1.out.mono hws).alloc (Nat.le_trans hws hws1) _)).grown hgrow (by simp;omega) (fun x hx=>(World.ownsRow.lt Hown.out.row x hx).1)
  have Hrs:Hid (RestR s (t.extract (4+4*q) t.size) (xs++[⟨sa,sb,.slice a2 el.length c2,el⟩])):=HR.out.take (x:=⟨sa,sb,.slice a2 el.length c2,el⟩) Hpa.out rfl rfl
  obtain⟨a3,c3,rfl⟩:=rowA_shape hown'
  clear hown' hgrow hob
  refine hid_in ?_
  go_wp2
  go_roundw
  case rel=>exact⟨_,_,rfl,Hrs.out,by simp only[ByteArray.size_extract,List.length_append,List.length_singleton];omega,Ha2.out,Hb2.out⟩
  case measure=>simp only[strLen,ByteArray.size_extract];omega
theorem readReport_none (s:ByteArray) (w:World) (h0:s.size=0\/1500<s.size) (hs:s.size<=maxLen) :
  Calls Tryz.prog 78 #[.string s] w fun e w'=>Below w.heap.size w w'/\e = .returned wrongR:=by
 unfold maxLen at hs
 by_cases hz:s.size=0
 ·have hne:s.toList.isEmpty=true:=by rw[isEmpty_size];exact decide_eq_true hz
  go_enter Tryz.func78,Tryz.ntmps78
  go_wp2
  refine wp_scope_fwd 0 rfl ?_
  go_wp2
  go_step3
  refine jump_here 0 ?_
  go_wp2
  rw[Exit.noGoto_ret]
  go_ret2
  exact⟨Below.refl _ _,rfl⟩
 ·have hne:s.toList.isEmpty=false:=by rw[isEmpty_size];exact decide_eq_false hz
  have hi:(1500:Int)<s.size:=by omega
  go_enter Tryz.func78,Tryz.ntmps78
  go_wp2
  refine wp_scope_fwd 0 rfl ?_
  go_wp2
  go_step3
  refine jump_here 0 ?_
  go_wp2
  rw[Exit.noGoto_ret]
  go_ret2
  exact⟨Below.refl _ _,rfl⟩
theorem readReport_any (s:ByteArray) (w:World) (hs:s.size<=maxLen) :
  Calls Tryz.prog 78 #[.string s] w fun e w'=>Below w.heap.size w w'/\RepAs (repR s) w.heap.size e w':=by
 unfold repR
 by_cases h:s.size=0\/1500<s.size
 ·rw[if_pos h]
  exact readReport_none s w h hs
 ·rw[if_neg h]
  exact readReport_mid s w (by omega) (by omega)
theorem parseReport_any (s:ByteArray) (w:World) (hs:s.size<=maxLen) :
  Calls Tryz.prog 57 #[.string s] w fun e w'=>Below w.heap.size w w'/\RepAs (repR s) w.heap.size e w':=by
 go_enter Tryz.func57,Tryz.ntmps57
 go_wp2_with fail
 refine(readReport_any s _ hs).mono ?_
 rintro e w1 ⟨hb1,hr⟩
 have Hb1:=hyd hb1
 clear hb1
 cases hR:repR s with
 | none=>
  rw[hR]at hr
  have he:e = .returned wrongR:=hr
  simp only[wrongR]at he
  subst he
  have HR:=hyd hR
  clear hR hr
  go_wp2
  go_ret2
  refine⟨Hb1.out,?_⟩
  rw[HR.out]
  rfl
 | some L=>
  rw[hR]at hr
  obtain⟨lv,xs,he,hown,hm⟩:=hr
  subst he
  have Hown:=hyd hown
  have Hm:=hyd hm
  obtain⟨a2,c2,rfl⟩:=rowA_shape hown.row
  have HR:=hyd hR
  clear hR hown hm
  go_wp2
  go_ret2
  refine⟨Hb1.out,?_⟩
  rw[HR.out]
  exact⟨_,xs,rfl,Hown.out,Hm.out⟩
end Go.Proofs.YtdjhhnolcafkiaaGreat
namespace Go.Proofs.YtdjhhnolcafkiaaGreat
open Go.RowKit
namespace Pk
def stepM (M:Md) (i:Nat) (n:Nat):Md × Option ByteArray:=
 match M.wns[i]? with
 | none=>(M,none)
 | some x=>
  match (againF x n M.s.now M.c.delay M.s.tokens).2 with
  | none=>({ M with s:={ M.s with refused:=M.s.refused+1 } },none)
  | some t=>({ M with wns:=M.wns.set i (againF x n M.s.now M.c.delay M.s.tokens).1,s:={ M.s with again:=M.s.again+1,tokens:=M.s.tokens-t.size } },some t)
def stp (i:Nat) (a:Md × List ByteArray) (n:Int):Md × List ByteArray:=((stepM a.1 i (n%65536).toNat).1,a.2++(stepM a.1 i (n%65536).toNat).2.toList)
def numsM (i:Nat) (l:List Int) (a:Md × List ByteArray):Md × List ByteArray:=l.foldl (stp i) a
def asksM (i:Nat) (src:Int) (l:List (Int × List Int)) (a:Md × List ByteArray):Md × List ByteArray:=l.foldl (fun a q=>if q.1=src then numsM i q.2 a else a) a
theorem numsM_take (i:Nat) (l:List Int) (a:Md × List ByteArray) (k:Nat) (h:k<l.length):numsM i (l.take (k+1)) a=stp i (numsM i (l.take k) a) (l.getD k 0):=by
 unfold numsM
 rw[List.take_succ_eq_append_getElem h,List.foldl_append]
 simp[List.getD,h]
theorem asksM_take (i:Nat) (src:Int) (l:List (Int × List Int)) (a:Md × List ByteArray) (k:Nat) (q:Int × List Int) (h:l[k]? = some q):asksM i src (l.take (k+1)) a=if q.1=src then numsM i q.2 (asksM i src (l.take k) a)else asksM i src (l.take k) a:=by
 obtain⟨hk,rfl⟩:=List.getElem?_eq_some_iff.1 h
 unfold asksM
 rw[List.take_succ_eq_append_getElem hk,List.foldl_append]
 rfl
structure SOk (i c:Nat) (src id:Int) (a:Md × List ByteArray):Prop where
 now:0<=a.1.s.now/\a.1.s.now<=1000000000000000
 del:0<=a.1.c.delay/\a.1.c.delay<=1000000
 tok:0<=a.1.s.tokens/\a.1.s.tokens<=1000000
 ag:0<=a.1.s.again/\a.1.s.again<=1000000000000000+(c:Int)
 re:0<=a.1.s.refused/\a.1.s.refused<=1000000000000000+(c:Int)
 len:a.2.length<=c
 wnt:∃x,a.1.wns[i]? = some x/\KOk x/\x.second<65536/\x.kept.length<=90000/\x.src=src/\x.id=id
theorem sentW_ok {x:Wn}{p:Nat}{k:Kp}{r:Int}(h:KOk x) (hk:x.kept[p]? = some k):KOk (sentW x p k r):=fun q hq=>by
 rcases List.mem_or_eq_of_mem_set hq with hq|rfl
 ·exact h q hq
 ·exact h k (List.mem_of_getElem? hk)
theorem againF_facts (x:Wn) (n:Nat) (now delay tokens:Int) (h:KOk x):KOk (againF x n now delay tokens).1/\(x.second<65536->(againF x n now delay tokens).1.second<65536)/\(againF x n now delay tokens).1.kept.length=x.kept.length/\(againF x n now delay tokens).1.src=x.src/\(againF x n now delay tokens).1.id=x.id/\((againF x n now delay tokens).2=none->(againF x n now delay tokens).1=x)/\∀t,(againF x n now delay tokens).2=some t->(t.size:Int)<=tokens:=by
 have same:KOk x/\(x.second<65536->x.second<65536)/\x.kept.length=x.kept.length/\x.src=x.src/\x.id=x.id/\((none:Option ByteArray)=none->x=x)/\∀t,(none:Option ByteArray)=some t->(t.size:Int)<=tokens:=⟨h,id,rfl,rfl,rfl,fun _=>rfl,fun t e=>by cases e⟩
 rcases posF_cases n (x.kept.map Kp.n)with⟨hp,-⟩|⟨p,hpl,hp,-,-⟩
 ·rw[again_none hp]
  exact same
 ·rw[List.length_map]at hpl
  rw[again_at hp (List.getElem?_eq_getElem hpl)]
  split
  ·exact same
  ·split
   ·exact same
   ·rename_i hc
    refine⟨sentW_ok h (List.getElem?_eq_getElem hpl),fun _=>Nat.mod_lt _ (by decide),by simp[sentW],rfl,rfl,(fun e=>by cases e),fun t e=>?_⟩
    simp only[Option.some.injEq]at e
    rw[<-e]
    have:=fun hh=>hc (.inr hh)
    omega
theorem SOk.step {i c:Nat}{src id:Int}{a:Md × List ByteArray}(h:SOk i c src id a) (n:Int):SOk i (c+1) src id (stp i a n):=by
 obtain⟨M,L⟩:=a
 obtain⟨x,hx,hko,h2,hl,hs,hid⟩:=h.wnt
 have hn:=h.now;have hd:=h.del;have ht:=h.tok;have ha:=h.ag;have hr:=h.re;have hL:=h.len
 simp only at hx hn hd ht ha hr hL
 obtain⟨f1,f2,f3,f4,f5,f6,f7⟩:=againF_facts x (n%65536).toNat M.s.now M.c.delay M.s.tokens hko
 unfold stp stepM
 simp only[hx]
 cases hA:(againF x (n%65536).toNat M.s.now M.c.delay M.s.tokens).2 with
 | none=>exact⟨hn,hd,ht,by simp only;omega,by simp only;omega,by simp;omega,x,hx,hko,h2,hl,hs,hid⟩
 | some t=>
  have:=f7 t hA
  refine⟨hn,hd,by simp only;omega,by simp only;omega,by simp only;omega,by simp;omega,_,?_,f1,f2 h2,by omega,by omega,by omega⟩
  rw[List.getElem?_set_self (List.getElem?_eq_some_iff.1 hx).1]
theorem SOk.mono {i c d:Nat}{src id:Int}{a:Md × List ByteArray}(h:SOk i c src id a) (hd:c<=d):SOk i d src id a:=
 ⟨h.now,h.del,h.tok,⟨h.ag.1,by have:=h.ag.2;omega⟩,⟨h.re.1,by have:=h.re.2;omega⟩,Nat.le_trans h.len hd,h.wnt⟩
theorem SOk.nums {i:Nat}{src id:Int}:∀(l:List Int) (c:Nat) (a:Md × List ByteArray),SOk i c src id a->SOk i (c+l.length) src id (numsM i l a)
 | [],c,a,h=>h
 | n::r,c,a,h=>(SOk.nums r (c+1) (stp i a n) (h.step n)).mono (by simp;omega)
theorem SOk.asks {i:Nat}{src id:Int}:∀(l:List (Int × List Int)) (c:Nat) (a:Md × List ByteArray),(∀q∈l,q.2.length<=6400)->SOk i c src id a->SOk i (c+6400*l.length) src id (asksM i src l a)
 | [],c,a,_,h=>h
 | q::r,c,a,hl,h=>by
  have hq:=hl q (by simp)
  have ih:=SOk.asks r (c+6400) (if q.1=src then numsM i q.2 a else a) (fun y hy=>hl y (by simp[hy])) (by
   split
   ·exact(h.nums q.2 c a).mono (by omega)
   ·exact h.mono (by omega))
  exact ih.mono (by simp;omega)
theorem MdAt.wnt0 {W W':World}{ρ:Nat->Nat}{mb:Nat}{M:Md}{sv wv:Value}{SB WB:List (Nat × Value)}{i:Nat}{p:Nat × Value}{x x':Wn}(h:MdAt W ρ mb M sv wv SB WB) (h1:WB[i]? = some p) (h2:M.wns[i]? = some x) (hid:x'.id=x.id) (hS:WnAt (fun b=>ρ b=4) W' (p.1+1) p.1 p.2 x') (hU:SdUp W W' p.1 p.2 p.2) :
  MdAt W' ρ mb { M with wns:=M.wns.set i x' } sv wv SB WB/\Chg (fun b=>ρ b≠0) W W':=by
 obtain⟨a,b,c⟩:=h.wnt h1 h2 hid hS hU
 have hr:=(h.wa i p x h1 h2).2.2
 have e:(fun b=>if p.2.ownBlock=some b then 1001+2*x.id.toNat else ρ b)=ρ:=funext fun b=>by
  split
  ·rename_i hb;exact(hr b hb).symm
  ·rfl
 have e2:WB.set i (p.1,p.2)=WB:=by
  obtain⟨hi,e3⟩:=List.getElem?_eq_some_iff.1 h1
  rw[<-e3]
  exact List.set_getElem_self hi
 rw[e,e2]at a
 exact⟨a,c⟩
structure SendRel (w:World) (ρ:Nat->Nat) (mb:Nat) (sv wv:Value) (SB WB:List (Nat × Value)) (a:Md × List ByteArray) (ov:Value) (W:World):Prop where
 md:MdAt W ρ mb a.1 sv wv SB WB
 row:W.ownsRow w.heap.size 9 1 ov a.2.length (a.2.map Value.string)
 chg:Chg (fun b=>ρ b≠0) w W
 hi:∀b,w.heap.size<=b->ρ b=0
section
variable {w : World} {ρ : Nat -> Nat} {mb : Nat} {sv wv : Value} {SB WB : List (Nat × Value)} {a : Md × List ByteArray} {ov : Value} {W : World}
theorem SendRel.rz (h:SendRel w ρ mb sv wv SB WB a ov W):∀b,ov.ownBlock=some b->ρ b=0:=fun b hb=>h.hi b (h.row.lt b hb).1
theorem SendRel.chgd {W':World}{M':Md}(h:SendRel w ρ mb sv wv SB WB a ov W) (hm:MdAt W' ρ mb M' sv wv SB WB) (hc:Chg (fun b=>ρ b≠0) W W'):SendRel w ρ mb sv wv SB WB (M',a.2) ov W':=
 ⟨hm,rowA_chg hc h.row (fun b hb e=>e (h.rz b hb)),h.chg.trans hc (fun _ _ e=>e),h.hi⟩
theorem SendRel.below {W':World}(h:SendRel w ρ mb sv wv SB WB a ov W) (hb:Below W.heap.size W W'):SendRel w ρ mb sv wv SB WB a ov W':=h.chgd (h.md.below hb) (Chg.ofBelow hb)
theorem SendRel.app {W3:World}{ob:Obj}{ov':Value}{t:ByteArray}(h:SendRel w ρ mb sv wv SB WB a ov W) (hg:(W.alloc ob).grownBy W3 ov.ownBlock) (hrow:W3.ownsRow w.heap.size 9 1 ov' (a.2.length+1) (a.2.map Value.string++[.string t])):SendRel w ρ mb sv wv SB WB (a.1,a.2++[t]) ov' W3:=by
 have h1:=h.below ((Below.refl _ _).alloc (Nat.le_refl _) ob)
 have hz:=h.rz
 refine⟨h1.md.chg (Chg.ofGrown hg) hz,?_,h1.chg.trans (Chg.ofGrown hg) (fun b hb e=>?_),h.hi⟩
 ·simp only[List.length_append,List.length_singleton,List.map_append,List.map_cons,List.map_nil]
  exact hrow
 ·have:=(h.row.lt b e).1
  omega
end
theorem one_at (B:Nat) (w:World) (hB:B=w.heap.size) (v:Value) (t:TypeId):∀j u,[v][j]? = some u->(w.alloc (.cells #[v] t)).cell? ((⟨B,0,none⟩:Addr).add j)=some u:=by
 subst hB
 exact cell_one_new _ _ _
theorem u16_any (n:Int):IntKind.u16.wrap n=(((n%65536).toNat:Nat):Int):=by simp[IntKind.wrap,IntKind.signed,IntKind.bits];omega
end Pk
open Pk
theorem sourceK_any (sb:Nat) (src:Int) (w:World) (h:w.cell? ⟨sb,0,none⟩=some (.int .i64 src)) :
  Calls Tryz.prog 97 #[.pointer (some ⟨sb,0,none⟩)] w fun e w'=>e = .returned (.int .i64 src)/\w'=w:=by
 go_enter Tryz.func97,Tryz.ntmps97
 go_wp2
 go_ret
 exact⟨rfl,rfl⟩
end Go.Proofs.YtdjhhnolcafkiaaGreat
namespace Go.Proofs.YtdjhhnolcafkiaaGreat
open Go.RowKit
namespace Pk
def askL (xs:List Ask1):List (Int × List Int):=xs.map fun x=>(x.b,x.l)
def SgS (mb:Nat) (now delay tokens:Int) (W:World):Prop:=W.cell? ⟨mb,7,none⟩=some (.int .i64 now)/\W.cell? ⟨mb,2,none⟩=some (.int .i64 delay)/\W.cell? ⟨mb,8,none⟩=some (.int .i64 tokens)
theorem SgS.chg {T:Nat->Prop}{W W':World}{mb:Nat}{now delay tokens:Int}(h:SgS mb now delay tokens W) (hc:Chg T W W') (hn:¬T mb):SgS mb now delay tokens W':=⟨hc.cell h.1 hn,hc.cell h.2.1 hn,hc.cell h.2.2 hn⟩
end Pk
open Pk
theorem sendAgain_any (ρ:Nat->Nat) (mb:Nat) (M:Md) (sv wv:Value) (SB WB:List (Nat × Value)) (i:Nat) (p:Nat × Value) (src id:Int) (B:Nat) (lv:Value) (xs:List Ask1) (w:World) (h:MdAt w ρ mb M sv wv SB WB) (hp:WB[i]? = some p) (ok:SOk i 0 src id (M,[])) (ha:OwnAsks w B lv xs) (hB:∀b,B<=b->ρ b=0) (hn:xs.length<=100000) :
  Calls Tryz.prog 79 #[.pointer (some ⟨mb,0,none⟩),ptr p.1,lv] w fun e w'=>∃ov,e = .returned ov/\SendRel w ρ mb sv wv SB WB (asksM i src (askL xs) (M,[])) ov w':=by
 obtain⟨al,cl,rfl⟩:=rowA_shape ha.row
 have HA:=hyd ha
 have HBz:=hyd hB
 have Hp:=hyd hp
 have HR0:Hid (SendRel w ρ mb sv wv SB WB (asksM i src ((askL xs).take 0) (M,[])) (.slice none 0 0) w):=⟨h,World.ownsRow_nil _ _ _ _,Chg.refl _ _,h.hi⟩
 have Hok:=hyd ok
 have hmb:=h.lt
 have Hmr:Hid (ρ mb=1):=h.rm
 obtain⟨i0,hi0,hz0,hz1,hz2⟩:=info_parts infoT
 have Hi:Hid (Tryz.prog.info? 9=some i0/\i0.zero=some (.string ⟨#[]⟩)/\i0.size=1/\i0.bytes=16):=⟨hi0,hz0,hz1,hz2⟩
 clear h ha hB hp ok hi0 hz0 hz1 hz2
 unfold ptr
 go_enter Tryz.func79,Tryz.ntmps79
 go_wp2
 go_loopw [7,16] (fun s7 s16 wr=>∃k:Nat,k<=xs.length/\s16 = .int .i64 k/\SendRel w ρ mb sv wv SB WB (asksM i src ((askL xs).take k) (M,[])) s7 wr/\SOk i (6400*k) src id (asksM i src ((askL xs).take k) (M,[]))) (fun _ s16 _=>xs.length-(intOf s16).toNat)
 case atStart=>exact⟨0,Nat.zero_le _,rfl,HR0.out,Hok.out⟩
 case round=>
  obtain⟨k,hk,rfl,hR,hO⟩:=hrel
  by_cases hlt:k<xs.length
  ·have hlt':(k:Int)<xs.length:=by omega
   have hxk:xs[k]? = some xs[k]:=List.getElem?_eq_getElem hlt
   obtain⟨X,hX⟩:∃X,xs[k]=X:=⟨_,rfl⟩
   rw[hX]at hxk
   have HT:=asksM_take i src (askL xs) (M,[]) k (X.b,X.l) (by unfold askL;rw[List.getElem?_map,hxk];rfl)
   obtain⟨g,rfl⟩:=rowA_some HA.out.row (by omega)
   have hgz:ρ g=0:=HBz.out g (HA.out.row.lt g rfl).1
   have dd:∀j,j<3->wr.cell? ⟨g,k*3+j,none⟩=[.int .i64 X.a,.int .i64 X.b,X.v][j]?:=fun j hj=>by
    have h1:=HA.out.row.cellAt (k*3+j) (by omega)
    have h2:(flatA xs)[k*3+j]? = [.int .i64 X.a,.int .i64 X.b,X.v][j]?:=by
     unfold flatA
     rw[flat_at (k:=3) (fun _=>rfl) xs k j hlt hj,hX]
    rw[h2]at h1
    have hj':j<[.int .i64 X.a,.int .i64 X.b,X.v].length:=by simpa using hj
    rw[List.getElem?_eq_getElem hj']at h1 ⊢
    exact hR.chg.cell h1 (fun e=>e hgz)
   have d0:=dd 0 (by omega)
   have d1:=dd 1 (by omega)
   have d2:=dd 2 (by omega)
   simp only[List.getElem?_cons_zero,List.getElem?_cons_succ,Nat.add_zero]at d0 d1 d2
   obtain⟨hXo,hXl⟩:=HA.out.each k X hxk
   obtain⟨av,cv,hv⟩:=hXo.shape
   rw[hv]at d2 hXo
   have HXz:Hid (∀b,(Value.slice av X.l.length cv).ownBlock=some b->ρ b=0):=fun b hb=>HBz.out b (hXo.lt b hb).1
   have HXo:=hyd hXo
   obtain⟨xa,xb,xv,xl⟩:=X
   simp only at d0 d1 d2 HT hXl HXz HXo
   obtain⟨x,hx,hko,h2,hkl,hsrc,hid⟩:=hO.wnt
   obtain⟨ov,oc,rfl⟩:=rowA_shape hR.row
   generalize hAk:asksM i src ((askL xs).take k) (M,[])=A at *
   have hWn:=(hR.md.wa i p x Hp.out hx).1
   have HR:=hyd hR
   have HO:=hyd hO
   have HTk:=hyd HT
   have c0:wr.cell? ⟨p.1,0,none⟩=some (.int .i64 src):=by rw[<-hsrc];exact hWn.c0
   have hpl:p.1<wr.heap.size:=hWn.lt
   have hws:w.heap.size<=wr.heap.size:=hR.chg.size
   clear dd hX hxk HT hv hXo hR hO hx hko h2 hkl hsrc hid hWn hAk HR0
   have HRw:Hid (SendRel w ρ mb sv wv SB WB A (.slice ov A.2.length oc) (wr.alloc (.cells #[.int .i64 xa,.int .i64 xb,.slice av xl.length cv] 43)).drew):=(HR.out.below ((Below.refl _ _).alloc (Nat.le_refl _) _)).below (Below.refl _ _).drew
   have e1:(wr.alloc (.cells #[.int .i64 xa,.int .i64 xb,.slice av xl.length cv] 43)).cell? ⟨wr.heap.size,1,none⟩=some (.int .i64 xb):=cell_new _ _ _ 1
   have e2:(wr.alloc (.cells #[.int .i64 xa,.int .i64 xb,.slice av xl.length cv] 43)).cell? ⟨wr.heap.size,2,none⟩=some (.slice av xl.length cv):=cell_new _ _ _ 2
   have e0:(wr.alloc (.cells #[.int .i64 xa,.int .i64 xb,.slice av xl.length cv] 43)).cell? ⟨p.1,0,none⟩=some (.int .i64 src):=(World.cell?_alloc_lt _ _ _ hpl).trans c0
   have hbz:ρ wr.heap.size=0:=HR.out.hi _ hws
   go_wp2
   generalize wr.alloc (.cells #[.int .i64 xa,.int .i64 xb,.slice av xl.length cv] 43)=W0 at *
   generalize wr.heap.size=bx at *
   refine wp_region_noPanic ?_
   refine wp_region_held_drew (S:=fun W=>W.cell? ⟨bx,1,none⟩=some (.int .i64 xb)/\W.cell? ⟨p.1,0,none⟩=some (.int .i64 src)) (by kernel_rfl) ⟨e1,e0⟩ (fun zH=>?_)
   refine tka 0 ?_
   refine tka 1 ?_
   refine tka 2 ?_
   refine tka 3 ?_
   refine tka 4 ?_
   refine rd1 5 fun K hK=>?_
   go_simp
   refine(sourceK_any p.1 src _ zH.2).mono ?_
   rintro e w1 ⟨rfl,hw1⟩
   rw[hw1]
   clear hw1 w1
   go_simp
   refine hK.out _ _ zH (fun zH=>?_)
   clear hK K
   refine tka 6 ?_
   refine doN ?_
   clear zH e1 e0 c0 d0 d1 d2
   replace e2:W0.drew.cell? ⟨bx,2,none⟩=some (.slice av xl.length cv):=e2
   generalize W0.drew=W1 at *
   by_cases he:xb=src
   ·have hne:(xb != src)=false:=by simp[he]
    rw[hne]
    clear hne
    rw[if_pos he]at HTk
    clear he
    go_wp2
    clear e2
    go_loopw [7,30] (fun s7 s30 wi=>∃b:Nat,b<=xl.length/\s30 = .int .i64 b/\SendRel w ρ mb sv wv SB WB (numsM i (xl.take b) A) s7 wi/\SOk i (6400*k+b) src id (numsM i (xl.take b) A)) (fun _ s30 _=>xl.length-(intOf s30).toNat)
    case atStart=>exact⟨0,Nat.zero_le _,rfl,HRw.out,HO.out⟩
    case round=>
     obtain⟨b,hb,rfl,hR2,hO2⟩:=hrel
     obtain⟨ov2,oc2,rfl⟩:=rowA_shape hR2.row
     by_cases hbl:b<xl.length
     ·have hbl':(b:Int)<xl.length:=by omega
      have HT2:Hid (numsM i (xl.take (b+1)) A=stp i (numsM i (xl.take b) A) (xl.getD b 0)):=numsM_take i xl A b hbl
      obtain⟨g5,rfl⟩:=rowA_some HXo.out (by omega)
      have d5:wr.cell? ⟨g5,b,none⟩=some (.int .i64 (xl.getD b 0)):=by
       have h1:=HXo.out.cellAt b (by omega)
       have h2:(xl.map (Value.int .i64))[b]? = some (.int .i64 (xl.getD b 0)):=by simp[List.getD,hbl]
       rw[h2]at h1
       exact hR2.chg.cell h1 (fun e=>e (HXz.out g5 rfl))
      have hu:=u16_any (xl.getD b 0)
      obtain⟨nb,hnb⟩:∃nb,(xl.getD b 0%65536).toNat=nb:=⟨_,rfl⟩
      rw[hnb]at hu
      have HSt:Hid (stp i (numsM i (xl.take b) A) (xl.getD b 0)=((stepM (numsM i (xl.take b) A).1 i nb).1,(numsM i (xl.take b) A).2++(stepM (numsM i (xl.take b) A).1 i nb).2.toList)):=by show _=_;unfold stp;rw[hnb]
      have HO3:Hid (SOk i (6400*k+b+1) src id (stp i (numsM i (xl.take b) A) (xl.getD b 0))):=hO2.step _
      generalize xl.getD b 0=nz at *
      generalize numsM i (xl.take b) A=A2 at *
      obtain⟨M2,L2⟩:=A2
      obtain⟨x,hx,hko,hx2,hkl,hsrc,hid⟩:=hO2.wnt
      simp only at hx
      have hWn:=(hR2.md.wa i p x Hp.out hx)
      have HR2:=hyd hR2
      have HS:Hid (SgS mb M2.s.now M2.c.delay M2.s.tokens wr):=⟨hR2.md.k 7 _ rfl,hR2.md.k 2 _ rfl,hR2.md.k 8 _ rfl⟩
      have HWn:Hid (WnAt (fun b=>ρ b=4) wr.drew (p.1+1) p.1 p.2 x):=hWn.1.below (Below.refl _ _).drew
      have HRd:Hid (SendRel w ρ mb sv wv SB WB (M2,L2) (.slice ov2 L2.length oc2) wr.drew):=hR2.below (Below.refl _ _).drew
      have HC4:Hid (∀b,ρ b=4->b<wr.drew.heap.size):=fun b hb=>by
       rcases Nat.lt_or_ge b wr.heap.size with h|h
       ·exact h
       ·have:=hR2.md.hi b h
        omega
      have HU0:Hid (∀b,(b=p.1\/p.2.ownBlock=some b)->b≠mb):=fun b hb e=>by
       have:=Hmr.out
       rcases hb with e'|e'
       ·rw[<-e',e]at hWn;omega
       ·have:=hWn.2.2 b e';rw[e]at this;omega
      have HOf:Hid (KOk x/\x.second<65536/\x.kept.length<=90000):=⟨hko,hx2,hkl⟩
      have HOO:=hyd hO2
      have Hx:=hyd hx
      have hLl:L2.length<=6400*k+b:=hO2.len
      clear hR2 hO2 hx hko hx2 hkl hsrc hid hWn hnb
      go_wp2
      refine wp_region_noPanic ?_
      refine wp_region_held_drew (S:=SgS mb M2.s.now M2.c.delay M2.s.tokens) (by kernel_rfl) HS.out (fun zH=>?_)
      refine tka 0 ?_
      refine tka 1 ?_
      refine tka 2 ?_
      refine tka 3 ?_
      refine tka 4 ?_
      refine tka 5 ?_
      refine tka 6 ?_
      refine tka 7 ?_
      refine tka 8 ?_
      refine tka 9 ?_
      refine tka 10 ?_
      refine tka 11 ?_
      refine tka 12 ?_
      refine tka 13 ?_
      refine tka 14 ?_
      refine tka 15 ?_
      refine tka 16 ?_
      refine tka 17 ?_
      refine rd1 18 fun K hK=>?_
      go_simp
      have hnw:=HOO.out.now
      have hdl:=HOO.out.del
      simp only at hnw hdl
      refine(again_any (fun b=>ρ b=4) (p.1+1) p.1 p.2 x nb M2.s.now M2.c.delay M2.s.tokens _ HWn.out HC4.out HOf.out.1 HOf.out.2.1 HOf.out.2.2 (by omega) hdl).mono ?_
      rintro e w2 ⟨rfl,hW2,hU2⟩
      have hS2:SgS mb M2.s.now M2.c.delay M2.s.tokens w2:=SgS.chg zH hU2.chg (fun e=>HU0.out mb e rfl)
      have hf:=againF_facts x nb M2.s.now M2.c.delay M2.s.tokens HOf.out.1
      cases hA:(againF x nb M2.s.now M2.c.delay M2.s.tokens).2 with
      | none=>
       have hx':(againF x nb M2.s.now M2.c.delay M2.s.tokens).1=x:=hf.2.2.2.2.2.1 hA
       rw[hx']at hW2
       obtain⟨m2,c2⟩:=HRd.out.md.wnt0 (x':=x) Hp.out Hx.out rfl hW2 hU2
       have hse:M2.wns.set i x=M2.wns:=by
        obtain⟨hi,e3⟩:=List.getElem?_eq_some_iff.1 Hx.out
        rw[<-e3]
        exact List.set_getElem_self hi
       rw[hse]at m2
       have HR3:Hid (SendRel w ρ mb sv wv SB WB (M2,L2) (.slice ov2 L2.length oc2) w2):=HRd.out.chgd m2 c2
       have HSM:Hid (stepM M2 i nb=({ M2 with s:={ M2.s with refused:=M2.s.refused+1 } },none)):=by
        show _=_
        unfold stepM
        rw[Hx.out]
        simp only
        rw[hA]
       obtain⟨m3,c3⟩:=m2.put (M':={ M2 with s:={ M2.s with refused:=M2.s.refused+1 } }) 15 (.int .i64 (M2.s.refused+1)) (by omega) rfl rfl rfl
       have HR4:Hid (SendRel w ρ mb sv wv SB WB (numsM i (xl.take (b+1)) A) (.slice ov2 L2.length oc2) (w2.setCell ⟨mb,15,none⟩ (.int .i64 (M2.s.refused+1)))):=by
        show SendRel _ _ _ _ _ _ _ _ _ _
        rw[HT2.out,HSt.out,HSM.out]
        simp only[Option.toList_none,List.append_nil]
        exact HR3.out.chgd m3 c3.2
       have HO4:Hid (SOk i (6400*k+(b+1)) src id (numsM i (xl.take (b+1)) A)):=by show SOk _ _ _ _ _;rw[HT2.out];exact HO3.out
       have y15:w2.cell? ⟨mb,15,none⟩=some (.int .i64 M2.s.refused):=m2.k 15 _ rfl
       have yf:=m2.fz
       have hre:=HOO.out.re
       simp only at hre
       have hwr:IntKind.i64.wrap (M2.s.refused+1)=M2.s.refused+1:=wrapI64 _ (by omega) (by omega)
       simp only[ansV]
       clear hA hf hx' hW2 hU2 m2 c2 hse m3 c3 HR3 HSM HO3 HSt HT2
       go_simp
       refine hK.out _ _ hS2 (fun zH=>?_)
       clear hK K
       refine tka 19 ?_
       refine tka 20 ?_
       refine tka 21 ?_
       refine tka 22 ?_
       refine tka 23 ?_
       refine doN ?_
       clear zH hS2 HS
       go_wp2
       go_roundw
       case rel=>exact⟨b+1,by omega,by go_num,HR4.out,HO4.out⟩
       case measure=>simp[intOf];omega
      | some t=>
       have hid':(againF x nb M2.s.now M2.c.delay M2.s.tokens).1.id=x.id:=hf.2.2.2.2.1
       have htk:=hf.2.2.2.2.2.2 t hA
       obtain⟨m2,c2⟩:=HRd.out.md.wnt0 Hp.out Hx.out hid' hW2 hU2
       have HSM:Hid (stepM M2 i nb=({ M2 with wns:=M2.wns.set i (againF x nb M2.s.now M2.c.delay M2.s.tokens).1,s:={ M2.s with again:=M2.s.again+1,tokens:=M2.s.tokens-t.size } },some t)):=by
        show _=_
        unfold stepM
        rw[Hx.out]
        simp only
        rw[hA]
       generalize (againF x nb M2.s.now M2.c.delay M2.s.tokens).1=x' at *
       have R2:=HRd.out.chgd m2 c2
       obtain⟨m3,c3⟩:=m2.put (M':={ M2 with wns:=M2.wns.set i x',s:={ M2.s with again:=M2.s.again+1 } }) 14 (.int .i64 (M2.s.again+1)) (by omega) rfl rfl rfl
       have R3:=R2.chgd m3 c3.2
       obtain⟨m4,c4⟩:=m3.put (M':={ M2 with wns:=M2.wns.set i x',s:={ M2.s with again:=M2.s.again+1,tokens:=M2.s.tokens-t.size } }) 8 (.int .i64 (M2.s.tokens-t.size)) (by omega) rfl rfl rfl
       have HR4:Hid (SendRel w ρ mb sv wv SB WB ({ M2 with wns:=M2.wns.set i x',s:={ M2.s with again:=M2.s.again+1,tokens:=M2.s.tokens-t.size } },L2) (.slice ov2 L2.length oc2) ((w2.setCell ⟨mb,14,none⟩ (.int .i64 (M2.s.again+1))).setCell ⟨mb,8,none⟩ (.int .i64 (M2.s.tokens-t.size)))):=R3.chgd m4 c4.2
       have HO4:Hid (SOk i (6400*k+(b+1)) src id (numsM i (xl.take (b+1)) A)):=by show SOk _ _ _ _ _;rw[HT2.out];exact HO3.out
       have HRS:Hid (numsM i (xl.take (b+1)) A=({ M2 with wns:=M2.wns.set i x',s:={ M2.s with again:=M2.s.again+1,tokens:=M2.s.tokens-t.size } },L2++[t])):=by
        show _=_
        rw[HT2.out,HSt.out,HSM.out]
        rfl
       have y14:w2.cell? ⟨mb,14,none⟩=some (.int .i64 M2.s.again):=m2.k 14 _ rfl
       have y8:w2.cell? ⟨mb,8,none⟩=some (.int .i64 M2.s.tokens):=m2.k 8 _ rfl
       have yf:=m2.fz
       have hag:=HOO.out.ag
       have hto:=HOO.out.tok
       simp only at hag hto
       have hw1:IntKind.i64.wrap (M2.s.again+1)=M2.s.again+1:=wrapI64 _ (by omega) (by omega)
       have hw2:IntKind.i64.wrap (M2.s.tokens-(t.size:Int))=M2.s.tokens-t.size:=wrapI64 _ (by omega) (by omega)
       have hts:t.size<=1000000:=by omega
       simp only[ansV]
       clear hA hf hid' hW2 hU2 m2 c2 m3 c3 m4 c4 R2 R3 HSM HO3 HSt HT2
       go_simp
       refine hK.out _ _ hS2 (fun zH=>?_)
       clear hK K
       refine tka 19 ?_
       refine tka 20 ?_
       refine tka 21 ?_
       refine tka 22 ?_
       refine tka 23 ?_
       refine doN ?_
       clear zH hS2 HS
       have hsz:w.heap.size<=w2.heap.size:=by have:=HR4.out.chg.size;simpa using this
       go_wp2_with (at_builtin;(
        refine wpList_append_at rfl (.tmp 87) (.tmp 89) 32 rfl w.heap.size 9 i0 _ 1 16 Tryz.underlying32 Hi.out rfl (by decide) _ L2.length _ rfl (HR4.out.row.alloc _) _ 1 1 [.string t] rfl rfl (one_at _ _ (by simp) _ _) ?_ (by unfold maxLen;omega) (by omega) (by simp;omega) ?_
        ·intro u hu;simp at hu;subst hu;rfl
        intro v' w3 hown' hgrow hob
        refine stop_here ?_))
       refine hid_in ?_
       obtain⟨a3,c3,rfl⟩:=rowA_shape hown'
       have HR5:Hid (SendRel w ρ mb sv wv SB WB (numsM i (xl.take (b+1)) A) (.slice a3 (L2.length+1) c3) w3):=by
        show SendRel _ _ _ _ _ _ _ _ _ _
        rw[HRS.out]
        exact HR4.out.app hgrow hown'
       clear hown' hgrow hob HR4 y14 y8 yf
       go_wp2
       go_roundw
       case rel=>exact⟨b+1,by omega,by go_num,HR5.out,HO4.out⟩
       case measure=>simp[intOf];omega
     ·have hbl':¬(b:Int)<xl.length:=by omega
      have hbe:b=xl.length:=by omega
      subst hbe
      rw[List.take_length]at hR2 hO2
      have HR3:Hid (SendRel w ρ mb sv wv SB WB (asksM i src ((askL xs).take (k+1)) (M,[])) (.slice ov2 (numsM i xl A).2.length oc2) wr):=by show SendRel _ _ _ _ _ _ _ _ _ _;rw[HTk.out];exact hR2
      have HO3:Hid (SOk i (6400*(k+1)) src id (asksM i src ((askL xs).take (k+1)) (M,[]))):=by show SOk _ _ _ _ _;rw[HTk.out];exact hO2.mono (by omega)
      clear hR2 hO2
      rw[List.take_length]
      go_wp2
      go_roundw
      case rel=>exact⟨k+1,by omega,by go_num,HR3.out,HO3.out⟩
      case measure=>simp[intOf];omega
   ·have hne:(xb != src)=true:=by simp[he]
    rw[if_neg he]at HTk
    have HR3:Hid (SendRel w ρ mb sv wv SB WB (asksM i src ((askL xs).take (k+1)) (M,[])) (.slice ov A.2.length oc) W1):=by show SendRel _ _ _ _ _ _ _ _ _ _;rw[HTk.out];exact HRw.out
    have HO3:Hid (SOk i (6400*(k+1)) src id (asksM i src ((askL xs).take (k+1)) (M,[]))):=by show SOk _ _ _ _ _;rw[HTk.out];exact HO.out.mono (by omega)
    clear he e2
    go_wp2
    go_roundw
    case rel=>exact⟨k+1,by omega,by go_num,HR3.out,HO3.out⟩
    case measure=>simp[intOf];omega
  ·have hlt':¬(k:Int)<xs.length:=by omega
   have hke:k=(askL xs).length:=by unfold askL;rw[List.length_map];omega
   rw[hke,List.take_length]at hR
   obtain⟨ov,oc,rfl⟩:=rowA_shape hR.row
   have HR:=hyd hR
   clear hR hO hke
   go_wp2
   go_ret
   exact⟨_,rfl,HR.out⟩
end Go.Proofs.YtdjhhnolcafkiaaGreat
namespace Go.Proofs.YtdjhhnolcafkiaaGreat
open Go.RowKit
namespace Pk
theorem partsR_len:∀(n:Nat) (l:List UInt8) (L:List (Nat × Nat × List Int)),partsR n l=some L->L.length<=n
 | 0,l,L,h=>by
  unfold partsR at h
  split at h
  ·simp at h;subst h;simp
  ·cases h
 | n+1,l,L,h=>by
  unfold partsR at h
  split at h
  ·simp at h;subst h;simp
  ·split at h
   ·cases h
   ·split at h
    ·cases h
    ·split at h
     ·split at h
      ·cases h
      ·simp only[Option.map_eq_some_iff]at h
       obtain⟨L',h1,rfl⟩:=h
       have:=partsR_len n _ L' h1
       simp
       omega
     ·have:=partsR_len n _ L h
      omega
theorem repR_len {t:ByteArray}{L:List (Nat × Nat × List Int)}(h:repR t=some L):L.length<=1500:=by
 unfold repR at h
 split at h
 ·cases h
 ·have:=partsR_len _ _ L h
  rw[<-Lib.size_eq]at this
  omega
def repL (L:List (Nat × Nat × List Int)):List (Int × List Int):=L.map fun y=>((y.2.1:Int),y.2.2)
def reportM (M:Md) (id:Int) (t:ByteArray):Md × List ByteArray × Int:=
 match wntPos M id with
 | none=>(M,[],4)
 | some i=>
  match repR t with
  | none=>({ M with s:={ M.s with wrong:=M.s.wrong+1 } },[],1)
  | some L=>
   match M.wns[i]? with
   | none=>(M,[],0)
   | some x=>((asksM i x.src (repL L) (M,[])).1,(asksM i x.src (repL L) (M,[])).2,0)
theorem askL_of {xs:List Ask1}{L:List (Nat × Nat × List Int)}(h:xs.map (fun x=>(x.a,x.b,x.l))=L.map (fun y=>((y.1:Int),(y.2.1:Int),y.2.2))):askL xs=repL L:=by
 have e:=congrArg (List.map (fun q:Int × Int × List Int=>(q.2.1,q.2.2))) h
 rw[List.map_map,List.map_map]at e
 exact e
end Pk
open Pk
theorem report_any (ρ:Nat->Nat) (mb:Nat) (M:Md) (sv wv:Value) (SB WB:List (Nat × Value)) (id:Int) (t:ByteArray) (w:World) (h:MdAt w ρ mb M sv wv SB WB) (ok:MOk M) (kok:∀x∈M.wns,KOk x/\x.second<65536) (ht:t.size<=maxLen) :
  Calls Tryz.prog 50 #[.pointer (some ⟨mb,0,none⟩),.int .i64 id,.string t] w fun e w'=>∃tv,e = .returned (.tuple #[tv,.int .i64 (reportM M id t).2.2])/\MovedT w w' ρ mb (reportM M id t).1 tv (reportM M id t).2.1:=by
 have H:=hyd h
 have Hok:=hyd ok
 have Hkk:=hyd kok
 have h8:=ok.w8
 clear h ok kok
 go_enter Tryz.func50,Tryz.ntmps50
 go_wp2_with fail
 refine(orNone_any mb _).mono ?_
 rintro e w1 ⟨rfl,hw1⟩
 rw[hw1]
 clear hw1 w1
 go_wp2_with fail
 refine(findWant_any ρ mb M sv wv SB WB id _ H.out h8).mono ?_
 rintro e w1 ⟨rfl,hb1⟩
 have H1:Hid (MdAt w1 ρ mb M sv wv SB WB):=H.out.below hb1
 have HB1:=hyd hb1
 have hs1:=hb1.size
 clear hb1
 cases hi:wntPos M id with
 | none=>
  have HP:Hid (reportM M id t=(M,[],4)):=by show _=_;unfold reportM;rw[hi]
  clear hi
  simp only[posI]
  go_wp2
  go_ret2
  rw[HP.out]
  exact⟨_,rfl,MovedT.none H1.out (Mv.below HB1.out)⟩
 | some i=>
  have hil:i<M.wns.length:=by
   have:=List.findIdx?_eq_some_iff_getElem.1 hi
   exact this.1
  have hx:M.wns[i]? = some M.wns[i]:=List.getElem?_eq_getElem hil
  have hip:¬(i:Int)<0:=by omega
  simp only[posI]
  go_wp2_with fail
  refine(readReport_any t _ ht).mono ?_
  rintro e w2 ⟨hb2,hr2⟩
  have H2:Hid (MdAt w2 ρ mb M sv wv SB WB):=H1.out.below hb2
  have HB2:Hid (Below w.heap.size w w2):=HB1.out.trans (hb2.mono hs1)
  have hs2:=H2.out.lt
  cases hR:repR t with
  | none=>
   rw[hR]at hr2
   have he:e = .returned wrongR:=hr2
   unfold wrongR at he
   subst he
   have HP:Hid (reportM M id t=({ M with s:={ M.s with wrong:=M.s.wrong+1 } },[],1)):=by show _=_;unfold reportM;rw[hi];simp only;rw[hR]
   obtain⟨m3,c3⟩:=H2.out.put (M':={ M with s:={ M.s with wrong:=M.s.wrong+1 } }) 12 (.int .i64 (M.s.wrong+1)) (by omega) rfl rfl rfl
   have HM:Hid (MovedT w (w2.setCell ⟨mb,12,none⟩ (.int .i64 (M.s.wrong+1))) ρ mb { M with s:={ M.s with wrong:=M.s.wrong+1 } } (.slice none 0 0) []):=MovedT.none m3 ((Mv.below HB2.out).trans c3)
   have y12:w2.cell? ⟨mb,12,none⟩=some (.int .i64 M.s.wrong):=H2.out.k 12 _ rfl
   have yf:∀o,w2.frozen? ⟨mb,o,none⟩=false:=H2.out.fz
   have hw:=Hok.out.cnt1 (c:=M.s.wrong) (by simp)
   clear hb2 hr2 hR hi hx m3 c3
   go_wp2
   go_ret2
   rw[HP.out]
   exact⟨_,rfl,HM.out⟩
  | some L=>
   rw[hR]at hr2
   obtain⟨lv,xs,rfl,hown,hmap⟩:=hr2
   obtain⟨x,hxe⟩:∃x,M.wns[i]=x:=⟨_,rfl⟩
   rw[hxe]at hx
   have HP:Hid (reportM M id t=((asksM i x.src (repL L) (M,[])).1,(asksM i x.src (repL L) (M,[])).2,0)):=by show _=_;unfold reportM;rw[hi];simp only;rw[hR];simp only;rw[hx]
   have HAL:Hid (askL xs=repL L):=askL_of hmap
   have hxl:xs.length<=100000:=by
    have e:=congrArg List.length HAL.out
    have:=repR_len hR
    unfold askL repL at e
    simp only[List.length_map]at e
    omega
   obtain⟨aw,cw,rfl⟩:=rowA_shape H2.out.wr
   have hwl:WB.length=M.wns.length:=H2.out.wl
   obtain⟨g,rfl⟩:=rowA_some H2.out.wr (by omega)
   have hp:WB[i]? = some (WB[i]'(by omega)):=List.getElem?_eq_getElem (by omega)
   obtain⟨p,hpe⟩:∃p,WB[i]'(by omega)=p:=⟨_,rfl⟩
   rw[hpe]at hp
   have d0:w2.cell? ⟨g,i,none⟩=some (ptr p.1):=by
    have h:=H2.out.wr.cellAt i (by omega)
    rw[h,List.getElem?_map,hp]
    rfl
   have y19:w2.cell? ⟨mb,19,none⟩=some (.slice (some ⟨g,0,none⟩) WB.length cw):=H2.out.k 19 _ rfl
   have hxm:x∈M.wns:=List.mem_of_getElem? hx
   have hxk:=Hkk.out x hxm
   have hcf:=of_decide_eq_true Hok.out.cfg
   have HSO:Hid (SOk i 0 x.src x.id (M,[])):=⟨Hok.out.now,hcf.2.2.1,Hok.out.tok,by have:=Hok.out.cnt M.s.again (by simp);simp only;omega,by have:=Hok.out.cnt M.s.refused (by simp);simp only;omega,Nat.le_refl _,x,hx,hxk.1,hxk.2,(Hok.out.wnt x hxm).2.2.2,rfl,rfl⟩
   have HA:=hyd hown
   have Hp:=hyd hp
   have HBz:Hid (∀b,w1.heap.size<=b->ρ b=0):=fun b hb=>H1.out.hi b hb
   obtain⟨al,cl,rfl⟩:=rowA_shape hown.row
   have hiw:(i:Int)<WB.length:=by omega
   unfold ptr at d0
   clear hb2 hR hi hx hmap hown hxe hpe hp hxm hxk hcf
   go_wp2_with fail
   refine(sendAgain_any ρ mb M sv _ SB WB i p x.src x.id w1.heap.size _ xs _ H2.out Hp.out HSO.out HA.out HBz.out hxl).mono ?_
   rintro e w3 ⟨ov,rfl,hR3⟩
   rw[HAL.out]at hR3
   obtain⟨ao,co,rfl⟩:=rowA_shape hR3.row
   have HM:Hid (MovedT w w3 ρ mb (asksM i x.src (repL L) (M,[])).1 (.slice ao (asksM i x.src (repL L) (M,[])).2.length co) (asksM i x.src (repL L) (M,[])).2):=
    ⟨ρ,_,_,_,_,hR3.md,(Mv.below HB2.out).trans ⟨fun _ _ e=>e,hR3.chg⟩,row_mono hR3.row HB2.out.size,hR3.rz⟩
   clear hR3 d0 y19
   go_wp2
   go_ret2
   rw[HP.out]
   exact⟨_,rfl,HM.out⟩
end Go.Proofs.YtdjhhnolcafkiaaGreat
namespace Go.Proofs.YtdjhhnolcafkiaaGreat
open Go.RowKit
namespace Pk
def dueB (now retry:Int) (g:Gp):Bool:=decide (retry<=now-g.last)
def goneB (now retry tries:Int) (g:Gp):Bool:=dueB now retry g && decide (tries<=g.tries)
structure AskEnv (A R D T:Nat) (now retry tries:Int) (W:World):Prop where
 a:W.cell? ⟨A,0,none⟩=some (.int .i64 now)
 r:W.cell? ⟨R,0,none⟩=some (.int .i64 retry)
 d:W.cell? ⟨D,0,none⟩=some (.func (.func 119) #[] #[.pointer (some ⟨A,0,none⟩),.pointer (some ⟨R,0,none⟩)])
 t:W.cell? ⟨T,0,none⟩=some (.int .i64 tries)
theorem i64_s (n:Int) (h0:-9223372036854775808<=n) (h1:n<9223372036854775808):IntKind.i64.wrap n=n:=by simp[IntKind.wrap,IntKind.signed,IntKind.bits];omega
theorem AskEnv.chg {P:Nat->Prop}{A R D T:Nat}{now retry tries:Int}{W W':World}(h:AskEnv A R D T now retry tries W) (hc:Chg P W W') (h1:¬P A) (h2:¬P R) (h3:¬P D) (h4:¬P T):AskEnv A R D T now retry tries W':=⟨hc.cell h.a h1,hc.cell h.r h2,hc.cell h.d h3,hc.cell h.t h4⟩
theorem AskEnv.below {A R D T:Nat}{now retry tries:Int}{W W':World}(h:AskEnv A R D T now retry tries W) (hb:Below W.heap.size W W'):AskEnv A R D T now retry tries W':=h.chg (P:=fun _=>False) (Chg.ofBelow hb) (fun e=>e) (fun e=>e) (fun e=>e) (fun e=>e)
def GOk1 (g:Gp):Prop:=(0<=g.last/\g.last<=2000000000000000)/\0<=g.tries/\g.tries<=2000000000000000
end Pk
open Pk
theorem ask1_any (g:Gp) (A R D T:Nat) (now retry tries:Int) (W:World) (h:AskEnv A R D T now retry tries W) (hg:GOk1 g) (hn:0<=now/\now<=2000000000000000) :
  Calls Tryz.prog 119 #[.agg #[.int .i64 g.last,.int .i64 g.tries],.pointer (some ⟨A,0,none⟩),.pointer (some ⟨R,0,none⟩)] W fun e w'=>e = .returned (.bool (dueB now retry g))/\Below W.heap.size W w':=by
 have ya:=h.a
 have yr:=h.r
 have ha:A<W.heap.size:=lt_of_cell ya
 have hr:R<W.heap.size:=lt_of_cell yr
 have hna:A≠W.heap.size:=by omega
 have hnr:R≠W.heap.size:=by omega
 obtain⟨gn,gl,gt⟩:=g
 obtain⟨⟨l0,l1⟩,t0,t1⟩:=hg
 simp only at l0 l1 t0 t1
 have hw:IntKind.i64.wrap (now-gl)=now-gl:=i64_s _ (by omega) (by omega)
 clear h
 go_enter Tryz.func119,Tryz.ntmps119
 go_wp2
 go_ret
 exact⟨ret_bool (by unfold dueB;simp),(Below.refl _ _).alloc (Nat.le_refl _) _⟩
theorem ask2_any (g:Gp) (A R D T:Nat) (now retry tries:Int) (W:World) (h:AskEnv A R D T now retry tries W) (hg:GOk1 g) (hn:0<=now/\now<=2000000000000000) :
  Calls Tryz.prog 121 #[.agg #[.int .u16 g.n,.int .i64 g.last,.int .i64 g.tries],.pointer (some ⟨D,0,none⟩),.pointer (some ⟨T,0,none⟩)] W fun e w'=>e = .returned (.bool (goneB now retry tries g))/\Below W.heap.size W w':=by
 have H:=hyd h
 have Hg:=hyd hg
 have yd:=h.d
 have hd:D<W.heap.size:=lt_of_cell yd
 have ht:T<W.heap.size:=lt_of_cell h.t
 have hnd:D≠W.heap.size:=by omega
 have hnt:T≠W.heap.size:=by omega
 clear h hg
 go_enter Tryz.func121,Tryz.ntmps121
 go_wp2_with fail
 have H1:Hid (AskEnv A R D T now retry tries (W.alloc (.cells #[.int .u16 g.n,.int .i64 g.last,.int .i64 g.tries] 162))):=H.out.below ((Below.refl _ _).alloc (Nat.le_refl _) _)
 refine(ask1_any g A R D T now retry tries _ H1.out Hg.out hn).mono ?_
 rintro e w1 ⟨rfl,hb1⟩
 have HB:Hid (Below W.heap.size W w1):=((Below.refl _ _).alloc (Nat.le_refl _) _).trans (hb1.mono (by simp))
 have yt:=(H1.out.below hb1).t
 have y2:w1.cell? ⟨W.heap.size,2,none⟩=some (.int .i64 g.tries):=(hb1.cell (p:=⟨W.heap.size,2,none⟩) (by simp)).trans (cell_new _ _ _ 2)
 clear hb1
 cases hd:dueB now retry g with
 | false=>
  go_wp2
  go_ret
  exact⟨ret_bool (by unfold goneB;rw[hd];rfl),HB.out⟩
 | true=>
  go_wp2
  go_ret
  exact⟨ret_bool (by unfold goneB;rw[hd];simp),HB.out⟩
theorem indexA_any (base:Nat) (v:Value) (l:List Gp) (A R D T:Nat) (now retry tries:Int) (w:World) (hown:w.ownsRow base 162 3 v l.length (l.flatMap cellsG)) (h:AskEnv A R D T now retry tries w) (hg:∀g∈l,GOk1 g) (hnow:0<=now/\now<=2000000000000000) (hn:l.length<=100000) :
  Calls Tryz.prog 135 #[v,.func (.func 121) #[] #[.pointer (some ⟨D,0,none⟩),.pointer (some ⟨T,0,none⟩)]] w fun e w'=>e = .returned (.int .i64 (posI (l.findIdx? (goneB now retry tries))))/\Below w.heap.size w w':=by
 obtain⟨ao,cap,rfl⟩:=rowA_shape hown
 have Hown:=hyd hown
 have H:=hyd h
 have Hg:=hyd hg
 clear hown h hg
 go_enter Tryz.func135,Tryz.ntmps135
 go_wp2
 go_loopw [8] (fun s8 wr=>∃k:Nat,k<=l.length/\s8 = .int .i64 k/\(∀m (hm:m<l.length),m<k->goneB now retry tries l[m]=false)/\Below w.heap.size w wr) (fun s8 _=>l.length-(intOf s8).toNat)
 case atStart=>exact⟨0,Nat.zero_le _,rfl,fun m _ hm=>by omega,Below.refl _ _⟩
 case round=>
  obtain⟨k,hk,rfl,hno,hbel⟩:=hrel
  have Hno:=hyd hno
  have Hbel:=hyd hbel
  clear hno hbel
  by_cases hlt:k<l.length
  ·have hlt':(k:Int)<l.length:=by omega
   obtain⟨g,rfl⟩:=rowA_some Hown.out (by omega)
   have hglt:g<w.heap.size:=(Hown.out.lt g rfl).2
   obtain⟨x,hx⟩:∃x,l[k]=x:=⟨_,rfl⟩
   have at_:∀j,j<3->∀u,(cellsG x)[j]? = some u->wr.cell? ⟨g,k*3+j,none⟩=some u:=fun j hj u hu=>by
    refine(Hbel.out.cell (p:=⟨g,k*3+j,none⟩) hglt).trans ?_
    rw[Hown.out.cellAt (k*3+j) (by omega),flat_at cellsG_len l k j hlt hj,hx]
    exact hu
   have d0:wr.cell? ⟨g,k*3,none⟩=some (.int .u16 x.n):=at_ 0 (by omega) _ rfl
   have d1:wr.cell? ⟨g,k*3+1,none⟩=some (.int .i64 x.last):=at_ 1 (by omega) _ rfl
   have d2:wr.cell? ⟨g,k*3+2,none⟩=some (.int .i64 x.tries):=at_ 2 (by omega) _ rfl
   have HE:Hid (AskEnv A R D T now retry tries wr):=H.out.chg (P:=fun _=>False) ⟨Hbel.out.os,Hbel.out.tape,Hbel.out.output,Hbel.out.size,fun b hb _=>Hbel.out.block b hb⟩ (fun e=>e) (fun e=>e) (fun e=>e) (fun e=>e)
   have Hx:=hyd hx
   have Hgx:Hid (GOk1 x):=hx▸Hg.out _ (List.getElem_mem hlt)
   clear at_ hx
   go_wp2_with fail
   refine(ask2_any x A R D T now retry tries _ HE.out Hgx.out hnow).mono ?_
   rintro e w1 ⟨rfl,hb1⟩
   have Hb1:Hid (Below w.heap.size w w1):=Hbel.out.trans (hb1.mono Hbel.out.size)
   clear hb1 d0 d1 d2
   cases he:goneB now retry tries x with
   | true=>
    have Hp:Hid (posI (l.findIdx? (goneB now retry tries))=(k:Int)):=by
     show _=_
     rw[idx_some hlt Hno.out (by rw[Hx.out];exact he)]
     rfl
    go_wp2
    go_ret
    exact⟨ret_int Hp.out.symm,Hb1.out⟩
   | false=>
    have He:=hyd he
    clear he
    go_wp2
    go_roundw
    case rel=>exact⟨k+1,by omega,by go_num,fun m hm hmk=>by
     rcases Nat.lt_or_ge m k with h|h
     ·exact Hno.out m hm h
     ·obtain rfl:m=k:=by omega
      rw[Hx.out];exact He.out,Hb1.out⟩
    case measure=>simp[intOf];omega
  ·have hlt':¬(k:Int)<l.length:=by omega
   have Hp:Hid (posI (l.findIdx? (goneB now retry tries)) = -1):=by
    show _=_
    rw[idx_none (by omega) Hno.out]
    rfl
   go_wp2
   go_ret
   exact⟨ret_int Hp.out.symm,Hbel.out⟩
end Go.Proofs.YtdjhhnolcafkiaaGreat
namespace Go.Proofs.YtdjhhnolcafkiaaGreat
open Go.RowKit
namespace Pk
theorem flat_put {α:Type}{f:α->List Value}{k:Nat}(hf:∀x,(f x).length=k) (l:List α) (i:Nat) (y:α) (h:i<l.length):(l.flatMap f).take (i*k)++f y++(l.flatMap f).drop (i*k+(f y).length)=(l.set i y).flatMap f:=by
 rw[flat_take hf,hf,show i*k+k=(i+1)*k by rw[Nat.succ_mul],flat_drop hf,List.set_eq_take_append_cons_drop,if_pos h,List.flatMap_append,List.flatMap_cons,List.append_assoc]
theorem take_set_last {α:Type}(l:List α) (i:Nat) (y:α) (h:i<l.length):(l.set i y).take (i+1)=l.take i++[y]:=by
 rw[List.take_succ_eq_append_getElem (by rw[List.length_set];exact h),List.getElem_set_self,List.take_set_of_le (Nat.le_refl _)]
theorem filterA {α:Type}(p:α->Bool) (l:List α) (j:Nat) (h:j<l.length):(l.take (j+1)).filter p=(l.take j).filter p++(if p l[j]=true then[l[j]]else[]):=by
 rw[List.take_succ_eq_append_getElem h,List.filter_append]
 congr 1
 by_cases hp:p l[j]=true
 ·simp[hp]
 ·simp[hp]
structure DelRel (w:World) (base g cap:Nat) (l:List Gp) (gone:Gp->Bool) (i j:Nat) (cur:List Gp) (W:World):Prop where
 lt:i<j
 le:j<=l.length
 len:cur.length=l.length
 hd:cur.take i=(l.take j).filter (fun x=>!gone x)
 tl:cur.drop j=l.drop j
 row:W.ownsRow base 162 3 (.slice (some ⟨g,0,none⟩) l.length cap) l.length (cur.flatMap cellsG)
 chg:Chg (fun b=>b=g) w W
theorem DelRel.at_ {w:World}{base g cap:Nat}{l:List Gp}{gone:Gp->Bool}{i j:Nat}{cur:List Gp}{W:World}(h:DelRel w base g cap l gone i j cur W) (hj:j<l.length):cur[j]'(by rw[h.len];exact hj)=l[j]:=by
 have e:=congrArg (fun q=>q[0]?) h.tl
 simp only[List.getElem?_drop,Nat.add_zero]at e
 rw[List.getElem?_eq_getElem (by rw[h.len];exact hj),List.getElem?_eq_getElem hj]at e
 exact Option.some.inj e
theorem DelRel.skip {w:World}{base g cap:Nat}{l:List Gp}{gone:Gp->Bool}{i j:Nat}{cur:List Gp}{W W':World}(h:DelRel w base g cap l gone i j cur W) (hj:j<l.length) (hp:gone l[j]=true) (hb:Below W.heap.size W W'):DelRel w base g cap l gone i (j+1) cur W':=by
 refine⟨Nat.lt_succ_of_lt h.lt,hj,h.len,?_,?_,rowA_chg (Chg.ofBelow (T:=fun _=>False) hb) h.row (fun _ _ e=>e),h.chg.trans (Chg.ofBelow (T:=fun _=>False) hb) (fun _ _ e=>e.elim)⟩
 ·rw[h.hd,filterA _ l j hj,hp]
  simp
 ·have e:=congrArg (List.drop 1) h.tl
  rw[List.drop_drop,List.drop_drop]at e
  exact e
theorem DelRel.keep {w:World}{base g cap:Nat}{l:List Gp}{gone:Gp->Bool}{i j:Nat}{cur:List Gp}{W W':World}(h:DelRel w base g cap l gone i j cur W) (hj:j<l.length) (hp:gone l[j]=false) (hb:Below W.heap.size W W'):DelRel w base g cap l gone (i+1) (j+1) (cur.set i l[j]) (W'.setCells g (i*3) (cellsG l[j])):=by
 have hi:i<cur.length:=by rw[h.len];have:=h.lt;omega
 have h1:W'.ownsRow base 162 3 (.slice (some ⟨g,0,none⟩) l.length cap) l.length (cur.flatMap cellsG):=rowA_chg (Chg.ofBelow (T:=fun _=>False) hb) h.row (fun _ _ e=>e)
 obtain⟨R1,R2⟩:=row_writes (cellsG l[j]) (i*3) W' _ h1 (by rw[flat_length cellsG_len,cellsG_len];omega)
 rw[flat_put cellsG_len cur i l[j] hi]at R1
 refine⟨by have:=h.lt;omega,hj,by rw[List.length_set];exact h.len,?_,?_,R1,(h.chg.trans (Chg.ofBelow (T:=fun _=>False) hb) (fun _ _ e=>e.elim)).trans (Chg.ofGrown R2) (fun b _ e=>by injection e with e;exact e.symm)⟩
 ·rw[take_set_last cur i _ hi,h.hd,filterA _ l j hj,hp]
  simp
 ·rw[List.drop_set_of_lt (by have:=h.lt;omega)]
  have e:=congrArg (List.drop 1) h.tl
  rw[List.drop_drop,List.drop_drop]at e
  exact e
theorem grown_of_chg {a b:World}{g:Nat}(h:Chg (fun x=>x=g) a b):a.grownBy b (some g):=⟨h.os,h.tape,h.output,h.size,fun k hk hne=>h.block k hk (fun e=>hne (by rw[e]))⟩
end Pk
open Pk
theorem deleteA_any (base:Nat) (v:Value) (l:List Gp) (A R D T:Nat) (now retry tries:Int) (w:World) (hown:w.ownsRow base 162 3 v l.length (l.flatMap cellsG)) (h:AskEnv A R D T now retry tries w) (hv:∀b,v.ownBlock=some b->b≠A/\b≠R/\b≠D/\b≠T) (hg:∀g∈l,GOk1 g) (hnow:0<=now/\now<=2000000000000000) (hn:l.length<=100000) :
  Calls Tryz.prog 120 #[v,.func (.func 121) #[] #[.pointer (some ⟨D,0,none⟩),.pointer (some ⟨T,0,none⟩)]] w fun e w'=>∃v',e = .returned v'/\w'.ownsRow base 162 3 v' (l.filter (fun x=>!goneB now retry tries x)).length ((l.filter (fun x=>!goneB now retry tries x)).flatMap cellsG)/\w.grownBy w' v.ownBlock/\v'.ownBlock=v.ownBlock:=by
 obtain⟨ao,cap,rfl⟩:=rowA_shape hown
 have hcap:l.length<=cap/\(cap:Int)<=9223372036854775807:=by
  obtain⟨_,⟨h2,h0⟩|⟨g,cap',cur,e',_,_,hn',hm',_⟩⟩:=hown
  ·simp only[Value.slice.injEq]at h2
   omega
  ·simp only[Value.slice.injEq]at e'
   unfold maxLen at hm'
   omega
 obtain⟨hcap,hcm⟩:=hcap
 have Hown:=hyd hown
 have H:=hyd h
 have Hg:=hyd hg
 have Hv:=hyd hv
 clear hown h hg hv
 go_enter Tryz.func120,Tryz.ntmps120
 go_wp2_with fail
 refine(indexA_any base _ l A R D T now retry tries _ Hown.out H.out Hg.out hnow hn).mono ?_
 rintro e w1 ⟨rfl,hb1⟩
 have HB1:=hyd hb1
 clear hb1
 cases hf:l.findIdx? (goneB now retry tries)with
 | none=>
  have hfl:l.filter (fun x=>!goneB now retry tries x)=l:=by
   rw[List.filter_eq_self]
   intro x hx
   rw[List.findIdx?_eq_none_iff.1 hf x hx]
   rfl
  have HF:Hid (w1.ownsRow base 162 3 (.slice ao l.length cap) (l.filter (fun x=>!goneB now retry tries x)).length ((l.filter (fun x=>!goneB now retry tries x)).flatMap cellsG)):=by
   show World.ownsRow _ _ _ _ _ _ _
   rw[hfl]
   exact rowA_chg (Chg.ofBelow (T:=fun _=>False) HB1.out) Hown.out (fun _ _ e=>e)
  clear hf hfl
  simp only[posI]
  go_wp2
  go_ret
  exact⟨_,rfl,HF.out,⟨HB1.out.os,HB1.out.tape,HB1.out.output,HB1.out.size,fun k hk _=>HB1.out.block k hk⟩,rfl⟩
 | some i=>
  obtain⟨hil,hip,hib⟩:=List.findIdx?_eq_some_iff_getElem.1 hf
  obtain⟨g,rfl⟩:=rowA_some Hown.out (by omega)
  have HD0:Hid (DelRel w base g cap l (goneB now retry tries) i (i+1) l w1):=by
   refine⟨Nat.lt_succ_self _,hil,rfl,?_,rfl,rowA_chg (Chg.ofBelow (T:=fun _=>False) HB1.out) Hown.out (fun _ _ e=>e),Chg.ofBelow HB1.out⟩
   rw[filterA _ l i hil,hip]
   simp only[Bool.not_true,Bool.false_eq_true,if_false,List.append_nil]
   refine(List.filter_eq_self.2 (fun x hx=>?_)).symm
   obtain⟨m,hm,rfl⟩:=List.mem_iff_getElem.1 hx
   rw[List.length_take]at hm
   rw[List.getElem_take]
   have:=hib m (by omega)
   simpa using this
  have hne:((i:Int) == -1)=false:=by rw[beq_eq_false_iff_ne];omega
  have hA:w.heap.size<=w1.heap.size:=HB1.out.size
  have Hvg:Hid (g≠A/\g≠R/\g≠D/\g≠T):=Hv.out g rfl
  clear hf hip hib HB1
  simp only[posI]
  go_wp2
  go_loopw [5,6] (fun s5 s6 wr=>∃(i j:Nat) (cur:List Gp),s5 = .int .i64 i/\s6 = .int .i64 j/\DelRel w base g cap l (goneB now retry tries) i j cur wr) (fun _ s6 _=>l.length-(intOf s6).toNat)
  case atStart=>exact⟨i,i+1,l,rfl,by go_num,HD0.out⟩
  case round=>
   obtain⟨i,j,cur,rfl,rfl,hD⟩:=hrel
   have HD:=hyd hD
   have hij:=hD.lt
   have hjl:=hD.le
   clear hD
   by_cases hlt:j<l.length
   ·have hlt':(j:Int)<l.length:=by omega
    obtain⟨x,hx⟩:∃x,l[j]=x:=⟨_,rfl⟩
    have hcl:cur.length=l.length:=HD.out.len
    have at_:∀q,q<3->∀u,(cellsG x)[q]? = some u->wr.cell? ⟨g,j*3+q,none⟩=some u:=fun q hq u hu=>by
     rw[HD.out.row.cellAt (j*3+q) (by omega),flat_at cellsG_len cur j q (by omega) hq,HD.out.at_ hlt,hx]
     exact hu
    have d0:wr.cell? ⟨g,j*3,none⟩=some (.int .u16 x.n):=at_ 0 (by omega) _ rfl
    have d1:wr.cell? ⟨g,j*3+1,none⟩=some (.int .i64 x.last):=at_ 1 (by omega) _ rfl
    have d2:wr.cell? ⟨g,j*3+2,none⟩=some (.int .i64 x.tries):=at_ 2 (by omega) _ rfl
    have HE:Hid (AskEnv A R D T now retry tries (wr.alloc (.cells #[.int .u16 x.n,.int .i64 x.last,.int .i64 x.tries] 162))):=(H.out.chg HD.out.chg (fun e=>Hvg.out.1 e.symm) (fun e=>Hvg.out.2.1 e.symm) (fun e=>Hvg.out.2.2.1 e.symm) (fun e=>Hvg.out.2.2.2 e.symm)).below ((Below.refl _ _).alloc (Nat.le_refl _) _)
    have Hx:=hyd hx
    have Hgx:Hid (GOk1 x):=hx▸Hg.out _ (List.getElem_mem hlt)
    have hgl:g<wr.heap.size:=(HD.out.row.lt g rfl).2
    clear at_ hx
    go_wp2_with fail
    refine(ask2_any x A R D T now retry tries _ HE.out Hgx.out hnow).mono ?_
    rintro e w2 ⟨rfl,hb2⟩
    have HB2:Hid (Below wr.heap.size wr w2):=((Below.refl _ _).alloc (Nat.le_refl _) _).trans (hb2.mono (by simp))
    have b0:w2.cell? ⟨wr.heap.size,0,none⟩=some (.int .u16 x.n):=(hb2.cell (p:=⟨wr.heap.size,0,none⟩) (by simp)).trans (cell_new _ _ _ 0)
    have b1:w2.cell? ⟨wr.heap.size,1,none⟩=some (.int .i64 x.last):=(hb2.cell (p:=⟨wr.heap.size,1,none⟩) (by simp)).trans (cell_new _ _ _ 1)
    have b2:w2.cell? ⟨wr.heap.size,2,none⟩=some (.int .i64 x.tries):=(hb2.cell (p:=⟨wr.heap.size,2,none⟩) (by simp)).trans (cell_new _ _ _ 2)
    clear hb2 d0 d1 d2 HE
    cases he:goneB now retry tries x with
    | true=>
     have HD2:Hid (DelRel w base g cap l (goneB now retry tries) i (j+1) cur w2):=HD.out.skip hlt (by rw[Hx.out];exact he) HB2.out
     clear he b0 b1 b2
     go_wp2
     go_roundw
     case rel=>exact⟨i,j+1,cur,rfl,by go_num,HD2.out⟩
     case measure=>simp[intOf];omega
    | false=>
     have HD2:Hid (DelRel w base g cap l (goneB now retry tries) (i+1) (j+1) (cur.set i x) (((w2.setCell ⟨g,i*3,none⟩ (.int .u16 x.n)).setCell ⟨g,i*3+1,none⟩ (.int .i64 x.last)).setCell ⟨g,i*3+2,none⟩ (.int .i64 x.tries))):=by
      have h:=HD.out.keep hlt (by rw[Hx.out];exact he) HB2.out
      rw[Hx.out]at h
      exact h
     have ee:∀q,q<3->∃u,w2.cell? ⟨g,i*3+q,none⟩=some u:=fun q hq=>by
      have hr:=rowA_chg (Chg.ofBelow (T:=fun _=>False) HB2.out) HD.out.row (fun _ _ e=>e)
      have h:=hr.cellAt (i*3+q) (by omega)
      rw[List.getElem?_eq_getElem (by rw[flat_length cellsG_len];omega)]at h
      exact⟨_,h⟩
     obtain⟨u0,e0⟩:=ee 0 (by omega)
     obtain⟨u1,e1⟩:=ee 1 (by omega)
     obtain⟨u2,e2⟩:=ee 2 (by omega)
     rw[Nat.add_zero]at e0
     have ef:∀o,w2.frozen? ⟨g,o,none⟩=false:=fun o=>(rowA_chg (Chg.ofBelow (T:=fun _=>False) HB2.out) HD.out.row (fun _ _ e=>e)).frozenAt o
     have hil':(i:Int)<l.length:=by omega
     have hgn:g≠wr.heap.size:=by omega
     clear he ee
     go_wp2
     go_roundw
     case rel=>exact⟨i+1,j+1,cur.set i x,by go_num,by go_num,HD2.out⟩
     case measure=>simp[intOf];omega
   ·have hlt':¬(j:Int)<l.length:=by omega
    have hje:j=l.length:=by omega
    have R1:=HD.out.row
    have hxl1:(cur.flatMap cellsG).length=l.length*3:=by rw[flat_length cellsG_len,HD.out.len]
    have hhd:cur.take i=l.filter (fun x=>!goneB now retry tries x):=by rw[HD.out.hd,hje,List.take_length]
    have hfl:(l.filter (fun x=>!goneB now retry tries x)).length=i:=by
     rw[<-hhd,List.length_take,HD.out.len]
     omega
    obtain⟨zs,hzl,hcl⟩:=run_clear_row (P:=Tryz.prog) wr 129 162 0 (.agg #[.int .u16 0,.int .i64 0,.int .i64 0]) Tryz.underlying129 zeroG (by intro u hu;simp[Value.cells]at hu;rcases hu with rfl|rfl<;>rfl) (by decide) g (i*3) (l.length-i) (cap-i) (by omega) (fun q hq=>by
     have hq':q<(l.length-i)*3:=hq
     have:=R1.cellAt (i*3+q) (by omega)
     rw[this,List.getElem?_eq_getElem (by rw[hxl1];omega)]
     rfl) (fun q _=>R1.frozenAt _)
    have hzl':zs.length=(l.length-i)*3:=hzl
    obtain⟨R3,R4⟩:=row_writes zs (i*3) wr _ R1 (by rw[hzl',hxl1];omega)
    have F1:Hid (World.ownsRow (wr.setCells g (i*3) zs) base 162 3 (.slice (some ⟨g,0,none⟩) i cap) (l.filter (fun x=>!goneB now retry tries x)).length ((l.filter (fun x=>!goneB now retry tries x)).flatMap cellsG)):=by
     have h:=row_fewer R3 (m:=i) (by omega) (.inl (by simp))
     have e:((cur.flatMap cellsG).take (i*3)++zs++(cur.flatMap cellsG).drop (i*3+zs.length)).take (i*3)=(l.filter (fun x=>!goneB now retry tries x)).flatMap cellsG:=by
      rw[List.append_assoc,List.take_left' (by rw[List.length_take,hxl1];omega),flat_take cellsG_len,hhd]
     rw[e]at h
     show World.ownsRow _ _ _ _ _ _ _
     rw[hfl]
     exact h
    have F2:Hid (w.grownBy (wr.setCells g (i*3) zs) (some g)):=(grown_of_chg HD.out.chg).trans R4
    have hcc:∀ty,(Builtin.clear_ #[129] ty #[.slice (some ⟨g,i*3,none⟩) (l.length-i) (cap-i)]).run Tryz.prog wr = .ok (.tuple #[]) (wr.setCells g (i*3) zs):=fun ty=>hcl
    have h1:i<=l.length:=by omega
    have h2:i<=cap:=by omega
    have h3:¬cap=i:=by omega
    have h4:(i:Int)<=l.length:=by omega
    clear hcl R1 R3 R4 hzl hzl' hxl1 hhd hfl hje
    go_wp2_with (simp only[hcc])
    go_ret
    exact⟨_,rfl,F1.out,F2.out,rfl⟩
end Go.Proofs.YtdjhhnolcafkiaaGreat
namespace Go.Proofs.YtdjhhnolcafkiaaGreat
open Go.RowKit
namespace Pk
def upG (now retry:Int) (g:Gp):Gp:=if dueB now retry g=true then⟨g.n,now,g.tries+1⟩else g
def keptG (now retry tries:Int) (l:List Gp):List Gp:=l.filter fun x=>!goneB now retry tries x
def askS (s:Sd) (now retry tries:Int):Sd:={ s with gaps:=(keptG now retry tries s.gaps).map (upG now retry) }
def askedS (s:Sd) (now retry tries:Int):List Int:=names ((keptG now retry tries s.gaps).filter (dueB now retry))
def updK (now retry:Int) (l:List Gp) (k:Nat):List Gp:=(l.take k).map (upG now retry)++l.drop k
theorem updK_len (now retry:Int) (l:List Gp) (k:Nat):(updK now retry l k).length=l.length:=by
 unfold updK
 rw[List.length_append,List.length_map,List.length_take,List.length_drop]
 omega
theorem updK_at (now retry:Int) (l:List Gp) (k:Nat) (h:k<l.length):(updK now retry l k)[k]'(by rw[updK_len];exact h)=l[k]:=by
 unfold updK
 rw[List.getElem_append_right (by simp[List.length_take];omega)]
 simp[List.length_take,Nat.min_eq_left (Nat.le_of_lt h)]
theorem updK_step (now retry:Int) (l:List Gp) (k:Nat) (h:k<l.length):updK now retry l (k+1)=(updK now retry l k).set k (upG now retry l[k]):=by
 unfold updK
 have hk:k-((l.take k).map (upG now retry)).length=0:=by rw[List.length_map,List.length_take];omega
 rw[List.set_append_right _ _ (by rw[List.length_map,List.length_take];omega),hk,List.drop_eq_getElem_cons h,List.set_cons_zero,List.take_succ_eq_append_getElem h,List.map_append,List.append_assoc]
 rfl
theorem updK_skip (now retry:Int) (l:List Gp) (k:Nat) (h:k<l.length) (hd:dueB now retry l[k]=false):updK now retry l (k+1)=updK now retry l k:=by
 have e:upG now retry l[k]=l[k]:=by unfold upG;rw[hd];rfl
 rw[updK_step now retry l k h,e,<-updK_at now retry l k h]
 exact List.set_getElem_self _
theorem updK_all (now retry:Int) (l:List Gp):updK now retry l l.length=l.map (upG now retry):=by
 unfold updK
 simp
def askK (now retry:Int) (l:List Gp) (k:Nat):List Int:=names ((l.take k).filter (dueB now retry))
theorem askK_due (now retry:Int) (l:List Gp) (k:Nat) (h:k<l.length) (hd:dueB now retry l[k]=true):askK now retry l (k+1)=askK now retry l k++[((l[k]).n:Int)]:=by
 unfold askK names
 rw[filterA _ l k h,hd,List.map_append]
 rfl
theorem askK_skip (now retry:Int) (l:List Gp) (k:Nat) (h:k<l.length) (hd:dueB now retry l[k]=false):askK now retry l (k+1)=askK now retry l k:=by
 unfold askK names
 rw[filterA _ l k h,hd]
 simp
theorem askK_len (now retry:Int) (l:List Gp) (k:Nat):(askK now retry l k).length<=k:=by
 unfold askK names
 rw[List.length_map]
 exact Nat.le_trans (List.length_filter_le _ _) (by rw[List.length_take];omega)
theorem flat_cell {α:Type}{f:α->List Value}{k:Nat}(hf:∀x,(f x).length=k) (y:α) (u:Value) (j:Nat) (hj:j<k):∀(l:List α) (i:Nat) (h:i<l.length),f y=(f l[i]).set j u->(l.flatMap f).set (i*k+j) u=(l.set i y).flatMap f
 | a::r,0,_,e=>by
  have e':f y=(f a).set j u:=e
  rw[List.flatMap_cons,List.set_cons_zero,List.flatMap_cons,e',Nat.zero_mul,Nat.zero_add,List.set_append_left _ _ (by rw[hf];exact hj)]
 | a::r,i+1,h,e=>by
  have ih:=flat_cell hf y u j hj r i (by simpa using h) (by simpa using e)
  have e1:(i+1)*k+j-(f a).length=i*k+j:=by rw[hf,Nat.succ_mul];omega
  rw[List.flatMap_cons,List.set_cons_succ,List.flatMap_cons,List.set_append_right _ _ (by rw[hf,Nat.succ_mul];omega),e1,ih]
theorem SdAt.elem {W:World}{base sb g cap n:Nat}{s:Sd}{k:Nat}{x:Gp}(h:SdAt W base sb (.slice (some ⟨g,0,none⟩) n cap) s) (hn:n=s.gaps.length) (hk:k<s.gaps.length) (hx:s.gaps[k]=x) (now t':Int) :
  SdAt ((W.setCell ⟨g,k*3+1,none⟩ (.int .i64 now)).setCell ⟨g,k*3+2,none⟩ (.int .i64 t')) base sb (.slice (some ⟨g,0,none⟩) n cap) { s with gaps:=s.gaps.set k ⟨x.n,now,t'⟩ }/\Chg (fun b=>b=g) W ((W.setCell ⟨g,k*3+1,none⟩ (.int .i64 now)).setCell ⟨g,k*3+2,none⟩ (.int .i64 t')):=by
 subst hn
 have hgw:¬sb=g:=fun e=>h.ne (by rw[e];rfl)
 have hc:Chg (fun b=>b=g) W ((W.setCell ⟨g,k*3+1,none⟩ (.int .i64 now)).setCell ⟨g,k*3+2,none⟩ (.int .i64 t')):=((Chg.refl (fun b=>b=g) _).setCell ⟨g,k*3+1,none⟩ (.inl rfl) _).setCell ⟨g,k*3+2,none⟩ (.inl rfl) _
 have h1:=(h.row.stored (k*3+1) (.int .i64 now)).1
 rw[flat_cell cellsG_len ⟨x.n,now,x.tries⟩ (.int .i64 now) 1 (by omega) s.gaps k hk (by rw[hx];rfl)]at h1
 have h2:=(h1.stored (k*3+2) (.int .i64 t')).1
 rw[flat_cell cellsG_len ⟨x.n,now,t'⟩ (.int .i64 t') 2 (by omega) (s.gaps.set k ⟨x.n,now,x.tries⟩) k (by rw[List.length_set];exact hk) (by rw[List.getElem_set_self];rfl),List.set_set]at h2
 refine⟨⟨hc.cell h.c0 hgw,hc.cell h.c1 hgw,hc.cell h.c2 hgw,hc.cell h.c3 hgw,fun o=>(hc.frozen (p:=⟨sb,o,none⟩) h.lt hgw).trans (h.fz o),?_,h.sb⟩,hc⟩
 rw[List.length_set]
 exact h2
structure AskRel (w:World) (base sb:Nat) (v v':Value) (s:Sd) (now retry tries:Int) (l:List Gp) (k:Nat) (ov:Value) (W:World):Prop where
 sd:SdAt W base sb v' { s with gaps:=updK now retry l k }
 row:OwnInts W (w.heap.size+4) ov (askK now retry l k)
 env:AskEnv w.heap.size (w.heap.size+1) (w.heap.size+1+1+1) (w.heap.size+1+1) now retry tries W
 up:SdUp w W sb v v'
theorem AskRel.below {w:World}{base sb:Nat}{v v':Value}{s:Sd}{now retry tries:Int}{l:List Gp}{k:Nat}{ov:Value}{W W':World}(h:AskRel w base sb v v' s now retry tries l k ov W) (hb:Below W.heap.size W W'):AskRel w base sb v v' s now retry tries l k ov W':=
 ⟨h.sd.below hb,rowA_chg (Chg.ofBelow (T:=fun _=>False) hb) h.row (fun _ _ e=>e),h.env.below hb,h.up.trans ⟨Chg.ofBelow hb,fun _ e=>.inl e⟩⟩
end Pk
open Pk
theorem ask_any (base sb:Nat) (v:Value) (s:Sd) (now retry tries:Int) (w:World) (h:SdAt w base sb v s) (h16:In16G s.gaps) (hg:∀g∈s.gaps,GOk1 g) (hnow:0<=now/\now<=1000000000000000) (hn:s.gaps.length<=99000) :
  Calls Tryz.prog 100 #[.pointer (some ⟨sb,0,none⟩),.int .i64 now,.int .i64 retry,.int .i64 tries] w fun e w'=>∃v' ov,e = .returned (.tuple #[ov,.int .i64 ((s.gaps.length:Int)-(keptG now retry tries s.gaps).length)])/\SdAt w' base sb v' (askS s now retry tries)/\SdUp w w' sb v v'/\OwnInts w' (w.heap.size+4) ov (askedS s now retry tries):=by
 obtain⟨ao,cap,rfl⟩:=rowA_shape h.row
 have Hg:=hyd hg
 have H16:=hyd h16
 have hsb:=h.lt
 have HB3:Hid (Below w.heap.size w (((w.alloc (.cells #[.int .i64 now] 3)).alloc (.cells #[.int .i64 retry] 3)).alloc (.cells #[.int .i64 tries] 3))):=(((Below.refl _ _).alloc (Nat.le_refl _) _).alloc (by simp) _).alloc (by simp;omega) _
 have HB4:Hid (Below w.heap.size w ((((w.alloc (.cells #[.int .i64 now] 3)).alloc (.cells #[.int .i64 retry] 3)).alloc (.cells #[.int .i64 tries] 3)).alloc (.cells #[.func (.func 119) #[] #[.pointer (some ⟨w.heap.size,0,none⟩),.pointer (some ⟨w.heap.size+1,0,none⟩)]] 196))):=HB3.out.alloc (by simp;omega) _
 have HE4:Hid (AskEnv w.heap.size (w.heap.size+1) (w.heap.size+1+1+1) (w.heap.size+1+1) now retry tries ((((w.alloc (.cells #[.int .i64 now] 3)).alloc (.cells #[.int .i64 retry] 3)).alloc (.cells #[.int .i64 tries] 3)).alloc (.cells #[.func (.func 119) #[] #[.pointer (some ⟨w.heap.size,0,none⟩),.pointer (some ⟨w.heap.size+1,0,none⟩)]] 196))):=by
  refine⟨?_,?_,?_,?_⟩
  ·exact(World.cell?_alloc_lt _ _ _ (by simp;omega)).trans ((World.cell?_alloc_lt _ _ _ (by simp;omega)).trans ((World.cell?_alloc_lt _ _ _ (by simp)).trans (cell_new _ _ _ 0)))
  ·exact(World.cell?_alloc_lt _ _ _ (by simp)).trans ((World.cell?_alloc_lt _ _ _ (by simp)).trans (cell_newAt _ _ _ _ 0 (by simp)))
  ·exact cell_newAt _ _ _ _ 0 (by simp)
  ·exact(World.cell?_alloc_lt _ _ _ (by simp)).trans (cell_newAt _ _ _ _ 0 (by simp))
 have HS4:Hid (SdAt ((((w.alloc (.cells #[.int .i64 now] 3)).alloc (.cells #[.int .i64 retry] 3)).alloc (.cells #[.int .i64 tries] 3)).alloc (.cells #[.func (.func 119) #[] #[.pointer (some ⟨w.heap.size,0,none⟩),.pointer (some ⟨w.heap.size+1,0,none⟩)]] 196)) base sb (.slice ao s.gaps.length cap) s):=h.below HB4.out
 have HU4:Hid (SdUp w ((((w.alloc (.cells #[.int .i64 now] 3)).alloc (.cells #[.int .i64 retry] 3)).alloc (.cells #[.int .i64 tries] 3)).alloc (.cells #[.func (.func 119) #[] #[.pointer (some ⟨w.heap.size,0,none⟩),.pointer (some ⟨w.heap.size+1,0,none⟩)]] 196)) sb (.slice ao s.gaps.length cap) (.slice ao s.gaps.length cap)):=⟨Chg.ofBelow HB4.out,fun _ e=>.inl e⟩
 have hs4:((((w.alloc (.cells #[.int .i64 now] 3)).alloc (.cells #[.int .i64 retry] 3)).alloc (.cells #[.int .i64 tries] 3)).alloc (.cells #[.func (.func 119) #[] #[.pointer (some ⟨w.heap.size,0,none⟩),.pointer (some ⟨w.heap.size+1,0,none⟩)]] 196)).heap.size=w.heap.size+4:=by simp
 have HV:Hid (∀b,(Value.slice ao s.gaps.length cap).ownBlock=some b->b<w.heap.size):=fun b hb=>(h.row.lt b hb).2
 have y3:(((w.alloc (.cells #[.int .i64 now] 3)).alloc (.cells #[.int .i64 retry] 3)).alloc (.cells #[.int .i64 tries] 3)).cell? ⟨sb,2,none⟩=some (.slice ao s.gaps.length cap):=(HB3.out.cell (p:=⟨sb,2,none⟩) hsb).trans h.c2
 have y4:((((w.alloc (.cells #[.int .i64 now] 3)).alloc (.cells #[.int .i64 retry] 3)).alloc (.cells #[.int .i64 tries] 3)).alloc (.cells #[.func (.func 119) #[] #[.pointer (some ⟨w.heap.size,0,none⟩),.pointer (some ⟨w.heap.size+1,0,none⟩)]] 196)).cell? ⟨sb,2,none⟩=some (.slice ao s.gaps.length cap):=HS4.out.c2
 clear h hg h16 HB3 HB4
 go_enter Tryz.func100,Tryz.ntmps100
 go_wp2_with fail
 generalize ((((w.alloc (.cells #[.int .i64 now] 3)).alloc (.cells #[.int .i64 retry] 3)).alloc (.cells #[.int .i64 tries] 3)).alloc (.cells #[.func (.func 119) #[] #[.pointer (some ⟨w.heap.size,0,none⟩),.pointer (some ⟨w.heap.size+1,0,none⟩)]] 196))=W4 at *
 refine(deleteA_any base _ s.gaps _ _ _ _ now retry tries _ HS4.out.row HE4.out (fun b hb=>by have:=HV.out b hb;omega) Hg.out (by omega) (by omega)).mono ?_
 rintro e w5 ⟨v5,rfl,hrow5,hg5,hov5⟩
 change w5.ownsRow base 162 3 v5 (keptG now retry tries s.gaps).length ((keptG now retry tries s.gaps).flatMap cellsG)at hrow5
 obtain⟨a5,c5,rfl⟩:=rowA_shape hrow5
 have hU5:Upd W4 (w5.setCell ⟨sb,2,none⟩ (.slice a5 (keptG now retry tries s.gaps).length c5)) sb (.slice ao s.gaps.length cap) (.slice a5 (keptG now retry tries s.gaps).length c5):=Upd.stored HS4.out.lt HS4.out.c2 HS4.out.ne hg5 (fun x e=>.inl (by rw[<-hov5];exact e))
 have hsb4:w.heap.size<w.heap.size+4:=by omega
 have hr5:(w5.setCell ⟨sb,2,none⟩ (.slice a5 (keptG now retry tries s.gaps).length c5)).ownsRow base 162 3 (.slice a5 (keptG now retry tries s.gaps).length c5) (keptG now retry tries s.gaps).length ((keptG now retry tries s.gaps).flatMap cellsG):=rowA_chg (T:=fun x=>x=sb) ((Chg.refl (fun x=>x=sb) _).setCell ⟨sb,2,none⟩ (.inl rfl) _) hrow5 (fun x hx e=>HS4.out.ne (by rw[<-hov5,hx,e]))
 have HR5:Hid (AskRel w base sb (.slice ao s.gaps.length cap) (.slice a5 (keptG now retry tries s.gaps).length c5) s now retry tries (keptG now retry tries s.gaps) 0 (.slice none 0 0) (w5.setCell ⟨sb,2,none⟩ (.slice a5 (keptG now retry tries s.gaps).length c5))):=by
  refine⟨?_,World.ownsRow_nil _ _ _ _,HE4.out.chg hU5.chg ?_ ?_ ?_ ?_,HU4.out.trans (SdUp.ofUpd hU5)⟩
  ·have:=HS4.out.upd hU5 hr5
   exact this
  all_goals
   intro e
   rcases e with e|e
   ·omega
   ·have:=HV.out _ e;omega
 have y5:w5.cell? ⟨sb,2,none⟩=some (.slice ao s.gaps.length cap):=(Chg.ofGrown hg5).cell HS4.out.c2 HS4.out.ne
 have yf5:∀o,w5.frozen? ⟨sb,o,none⟩=false:=fun o=>((Chg.ofGrown hg5).frozen (p:=⟨sb,o,none⟩) HS4.out.lt HS4.out.ne).trans (HS4.out.fz o)
 have HV5:Hid (∀b,(Value.slice a5 (keptG now retry tries s.gaps).length c5).ownBlock=some b->b<w.heap.size):=fun b hb=>HV.out b (by rw[<-hov5];exact hb)
 have HKg:Hid (∀g∈keptG now retry tries s.gaps,GOk1 g/\g.n<65536):=fun g hg=>by
  have hm:g∈s.gaps:=(List.mem_filter.1 hg).1
  exact⟨Hg.out g hm,H16.out g hm⟩
 have hkl:(keptG now retry tries s.gaps).length<=s.gaps.length:=List.length_filter_le _ _
 have y6:=HR5.out.sd.c2
 clear hrow5 hg5 hov5 hU5 hr5 HE4 HS4 HU4 y3 y4
 generalize hKL:keptG now retry tries s.gaps=KL at *
 have HKL:=hyd hKL
 obtain⟨i0,hi,hz0,hz1,hz2⟩:=info_parts (show(Tryz.prog.info? 3).map (fun i=>(i.zero,i.size,i.bytes))=some (some (.int .i64 0),1,8) by kernel_rfl)
 have Hi:Hid (Tryz.prog.info? 3=some i0/\i0.zero=some (.int .i64 0)/\i0.size=1/\i0.bytes=8):=⟨hi,hz0,hz1,hz2⟩
 clear hKL hi hz0 hz1 hz2
 go_wp2
 generalize (w5.setCell ⟨sb,2,none⟩ (.slice a5 KL.length c5))=W6 at *
 clear y5 yf5 y6
 go_loopw [12,39] (fun s12 s39 wr=>∃k:Nat,k<=KL.length/\s39 = .int .i64 k/\AskRel w base sb (.slice ao s.gaps.length cap) (.slice a5 KL.length c5) s now retry tries KL k s12 wr) (fun _ s39 _=>KL.length-(intOf s39).toNat)
 case atStart=>exact⟨0,Nat.zero_le _,rfl,HR5.out⟩
 case round=>
  obtain⟨k,hk,rfl,hR⟩:=hrel
  obtain⟨ov,oc,rfl⟩:=hR.row.shape
  have HR:=hyd hR
  have y2:=hR.sd.c2
  have hakl:=askK_len now retry KL k
  clear hR
  by_cases hlt:k<KL.length
  ·have hlt':(k:Int)<KL.length:=by omega
   have hrow:wr.ownsRow base 162 3 (.slice a5 KL.length c5) KL.length ((updK now retry KL k).flatMap cellsG):=by
    have h:=HR.out.sd.row
    simp only[updK_len]at h
    exact h
   obtain⟨g,rfl⟩:=rowA_some hrow (by omega)
   obtain⟨x,hx⟩:∃x,KL[k]=x:=⟨_,rfl⟩
   have Hx:=hyd hx
   have hxm:x∈KL:=hx▸List.getElem_mem hlt
   have HGx:Hid (GOk1 x/\x.n<65536):=HKg.out x hxm
   have hgw:g<w.heap.size:=HV5.out g rfl
   have at_:∀q,q<3->∀u,(cellsG x)[q]? = some u->wr.cell? ⟨g,k*3+q,none⟩=some u:=fun q hq u hu=>by
    rw[hrow.cellAt (k*3+q) (by omega),flat_at cellsG_len _ k q (by rw[updK_len];exact hlt) hq,updK_at now retry KL k hlt,hx]
    exact hu
   have d1:wr.cell? ⟨g,k*3+1,none⟩=some (.int .i64 x.last):=at_ 1 (by omega) _ rfl
   have d2:wr.cell? ⟨g,k*3+2,none⟩=some (.int .i64 x.tries):=at_ 2 (by omega) _ rfl
   have dd:=HR.out.env.d
   have HEd:Hid (AskEnv w.heap.size (w.heap.size+1) (w.heap.size+1+1+1) (w.heap.size+1+1) now retry tries wr.drew):=HR.out.env.below (Below.refl _ _).drew
   have HRd:Hid (AskRel w base sb (.slice ao s.gaps.length cap) (.slice (some ⟨g,0,none⟩) KL.length c5) s now retry tries KL k (.slice ov (askK now retry KL k).length oc) wr.drew):=HR.out.below (Below.refl _ _).drew
   clear at_ hrow hx hxm HR
   go_wp2
   refine wp_region_noPanic ?_
   refine wp_region_held_drew (S:=fun W=>W.cell? ⟨w.heap.size+1+1+1,0,none⟩=some (.func (.func 119) #[] #[.pointer (some ⟨w.heap.size,0,none⟩),.pointer (some ⟨w.heap.size+1,0,none⟩)])/\W.cell? ⟨g,k*3+1,none⟩=some (.int .i64 x.last)/\W.cell? ⟨g,k*3+2,none⟩=some (.int .i64 x.tries)) (by kernel_rfl) ⟨dd,d1,d2⟩ (fun zH=>?_)
   refine tka 0 ?_
   refine tka 1 ?_
   refine tka 2 ?_
   refine tka 3 ?_
   refine tka 4 ?_
   refine rd1 5 fun K hK=>?_
   go_simp
   refine(ask1_any x _ _ _ _ now retry tries _ HEd.out HGx.out.1 (by omega)).mono ?_
   rintro e w1 ⟨rfl,hb1⟩
   have HR1:Hid (AskRel w base sb (.slice ao s.gaps.length cap) (.slice (some ⟨g,0,none⟩) KL.length c5) s now retry tries KL k (.slice ov (askK now retry KL k).length oc) w1):=HRd.out.below hb1
   have hgd:g<wr.drew.heap.size:=Nat.lt_of_lt_of_le hgw HRd.out.up.chg.size
   have e1:w1.cell? ⟨g,k*3+1,none⟩=some (.int .i64 x.last):=(hb1.cell (p:=⟨g,k*3+1,none⟩) hgd).trans d1
   have e2:w1.cell? ⟨g,k*3+2,none⟩=some (.int .i64 x.tries):=(hb1.cell (p:=⟨g,k*3+2,none⟩) hgd).trans d2
   have ed:=HR1.out.env.d
   have ea:=HR1.out.env.a
   go_simp
   refine hK.out _ _ ⟨ed,e1,e2⟩ (fun zH=>?_)
   clear hK K
   refine doN ?_
   clear zH hb1 dd d1 d2 HEd HRd y2 hgd
   cases hd:dueB now retry x with
   | false=>
    have HR2:Hid (AskRel w base sb (.slice ao s.gaps.length cap) (.slice (some ⟨g,0,none⟩) KL.length c5) s now retry tries KL (k+1) (.slice ov (askK now retry KL k).length oc) w1):=by
     have h:=HR1.out
     refine⟨?_,?_,h.env,h.up⟩
     ·rw[updK_skip now retry KL k hlt (by rw[Hx.out];exact hd)];exact h.sd
     ·rw[askK_skip now retry KL k hlt (by rw[Hx.out];exact hd)];exact h.row
    clear hd e1 e2 ed ea
    go_wp2
    go_roundw
    case rel=>exact⟨k+1,by omega,by go_num,HR2.out⟩
    case measure=>simp[intOf];omega
   | true=>
    have hkk:k<(updK now retry KL k).length:=by rw[updK_len];exact hlt
    obtain⟨S1,C1⟩:=SdAt.elem (x:=x) HR1.out.sd (by simp only[updK_len]) hkk (by simp only[updK_at now retry KL k hlt];exact Hx.out) now (x.tries+1)
    have hup:upG now retry KL[k]=⟨x.n,now,x.tries+1⟩:=by rw[Hx.out];unfold upG;rw[hd];rfl
    have HS2:Hid (SdAt ((w1.setCell ⟨g,k*3+1,none⟩ (.int .i64 now)).setCell ⟨g,k*3+2,none⟩ (.int .i64 (x.tries+1))) base sb (.slice (some ⟨g,0,none⟩) KL.length c5) { s with gaps:=updK now retry KL (k+1) }):=by
     show SdAt _ _ _ _ _
     rw[updK_step now retry KL k hlt,hup]
     exact S1
    have hog:∀b,(Value.slice ov (askK now retry KL k).length oc).ownBlock=some b->¬b=g:=fun b hb e=>by have:=(HR1.out.row.lt b hb).1;omega
    have HO2:Hid (OwnInts ((w1.setCell ⟨g,k*3+1,none⟩ (.int .i64 now)).setCell ⟨g,k*3+2,none⟩ (.int .i64 (x.tries+1))) (w.heap.size+4) (.slice ov (askK now retry KL k).length oc) (askK now retry KL k)):=rowA_chg C1 HR1.out.row hog
    have HE2:Hid (AskEnv w.heap.size (w.heap.size+1) (w.heap.size+1+1+1) (w.heap.size+1+1) now retry tries ((w1.setCell ⟨g,k*3+1,none⟩ (.int .i64 now)).setCell ⟨g,k*3+2,none⟩ (.int .i64 (x.tries+1)))):=HR1.out.env.chg C1 (by omega) (by omega) (by omega) (by omega)
    have HU2:Hid (SdUp w ((w1.setCell ⟨g,k*3+1,none⟩ (.int .i64 now)).setCell ⟨g,k*3+2,none⟩ (.int .i64 (x.tries+1))) sb (.slice ao s.gaps.length cap) (.slice (some ⟨g,0,none⟩) KL.length c5)):=HR1.out.up.trans ⟨C1.mono (fun b _ e=>.inr (by rw[e];rfl)),fun _ e=>.inl e⟩
    have HAk:Hid (askK now retry KL (k+1)=askK now retry KL k++[(x.n:Int)]):=by
     have h:=askK_due now retry KL k hlt (by rw[Hx.out];exact hd)
     rw[Hx.out]at h
     exact h
    have ef:∀o,w1.frozen? ⟨g,o,none⟩=false:=fun o=>by
     have h:=HR1.out.sd.row
     simp only[updK_len]at h
     exact h.frozenAt o
    have hxb:=HGx.out.1.2
    have hwr:IntKind.i64.wrap (x.tries+1)=x.tries+1:=wrapI64 _ (by omega) (by omega)
    clear hd S1 C1 hup hkk hog
    go_wp2
    refine wp_region_noPanic ?_
    refine wp_region_held_drew (S:=fun W=>W.cell? ⟨w.heap.size+1+1+1,0,none⟩=some (.func (.func 119) #[] #[.pointer (some ⟨w.heap.size,0,none⟩),.pointer (some ⟨w.heap.size+1,0,none⟩)])/\W.cell? ⟨w.heap.size,0,none⟩=some (.int .i64 now)) (by kernel_rfl) ⟨ed,ea⟩ (fun zH=>?_)
    refine tka 0 ?_
    refine tka 1 ?_
    refine tka 2 ?_
    refine tka 3 ?_
    refine tka 4 ?_
    refine tka 5 ?_
    refine rd1 6 fun K hK=>?_
    go_simp
    refine hK.out _ _ zH (fun zH=>?_)
    clear hK K
    refine tka 7 ?_
    refine tka 8 ?_
    refine tka 9 ?_
    refine tka 10 ?_
    refine rd1 11 fun K hK=>?_
    go_simp
    refine hK.out _ _ ⟨HE2.out.d,HE2.out.a⟩ (fun zH=>?_)
    clear hK K
    refine doN ?_
    clear zH e1 e2 ed ea ef
    replace HS2:Hid (SdAt ((w1.setCell ⟨g,k*3+1,none⟩ (.int .i64 now)).setCell ⟨g,k*3+2,none⟩ (.int .i64 (x.tries+1))).drew base sb (.slice (some ⟨g,0,none⟩) KL.length c5) { s with gaps:=updK now retry KL (k+1) }):=HS2.out.below (Below.refl _ _).drew
    replace HO2:Hid (OwnInts ((w1.setCell ⟨g,k*3+1,none⟩ (.int .i64 now)).setCell ⟨g,k*3+2,none⟩ (.int .i64 (x.tries+1))).drew (w.heap.size+4) (.slice ov (askK now retry KL k).length oc) (askK now retry KL k)):=World.ownsRow.drew HO2.out
    replace HE2:Hid (AskEnv w.heap.size (w.heap.size+1) (w.heap.size+1+1+1) (w.heap.size+1+1) now retry tries ((w1.setCell ⟨g,k*3+1,none⟩ (.int .i64 now)).setCell ⟨g,k*3+2,none⟩ (.int .i64 (x.tries+1))).drew):=HE2.out.below (Below.refl _ _).drew
    replace HU2:Hid (SdUp w ((w1.setCell ⟨g,k*3+1,none⟩ (.int .i64 now)).setCell ⟨g,k*3+2,none⟩ (.int .i64 (x.tries+1))).drew sb (.slice ao s.gaps.length cap) (.slice (some ⟨g,0,none⟩) KL.length c5)):=HU2.out.trans ⟨(Chg.refl _ _).drew,fun _ e=>.inl e⟩
    generalize ((w1.setCell ⟨g,k*3+1,none⟩ (.int .i64 now)).setCell ⟨g,k*3+2,none⟩ (.int .i64 (x.tries+1))).drew=W7 at *
    have hr7:W7.ownsRow base 162 3 (.slice (some ⟨g,0,none⟩) KL.length c5) KL.length ((updK now retry KL (k+1)).flatMap cellsG):=by
     have h:=HS2.out.row
     simp only[updK_len]at h
     exact h
    have d0:W7.cell? ⟨g,k*3,none⟩=some (.int .u16 x.n):=by
     have h:=hr7.cellAt (k*3+0) (by omega)
     rw[flat_at cellsG_len _ k 0 (by rw[updK_len];exact hlt) (by omega)]at h
     have e:(updK now retry KL (k+1))[k]'(by rw[updK_len];exact hlt)=upG now retry KL[k]:=by
      have e0:=updK_step now retry KL k hlt
      simp only[e0,List.getElem_set_self]
     rw[e,Hx.out]at h
     rw[Nat.add_zero]at h
     rw[h]
     unfold upG
     split<;>rfl
    have hxn:=HGx.out.2
    have hxw:IntKind.i64.wrap (x.n:Int)=(x.n:Int):=wrapI64 _ (by omega) (by omega)
    have hs7:w.heap.size+4<=W7.heap.size:=by
     have:=lt_of_cell HE2.out.d
     simp only at this
     omega
    obtain⟨al,hal⟩:∃al,(askK now retry KL k).length=al:=⟨_,rfl⟩
    have hr8:W7.ownsRow (w.heap.size+4) 3 1 (.slice ov (askK now retry KL k).length oc) (askK now retry KL k).length ((askK now retry KL k).map (Value.int .i64)):=HO2.out
    have Hlk1:Hid ((askK now retry KL (k+1)).length=al+1):=by show _=_;rw[HAk.out,List.length_append,hal];rfl
    rw[hal]at hr8 hakl ⊢
    have Hr8:=hyd hr8
    clear hr7 hr8 HO2 hal
    go_wp2_with (at_builtin;(refine wpList_append_own _ rfl (.tmp 66) (.tmp 72) 34 rfl (w.heap.size+4) 3 i0 (.int .i64 0) 1 8 Tryz.underlying34 Hi.out.1 Hi.out.2.1 Hi.out.2.2.1 Hi.out.2.2.2 rfl (by decide) _ al ((askK now retry KL k).map (Value.int .i64)) rfl (World.ownsRow.alloc Hr8.out _) _ 1 1 [.int .i64 x.n] rfl rfl (cell_one_at _ _ rfl _ _) ?_ ?_ ?_ ?_ ?_;(intro u hu;simp at hu;subst hu;rfl);(unfold maxLen;omega);omega;(simp;omega);intro v' w8 hown' hgrow hob;refine stop_here ?_))
    refine hid_in ?_
    obtain⟨a8,c8,rfl⟩:=rowA_shape hown'
    have hcA:Chg (fun b=>(Value.slice ov al oc).ownBlock=some b) W7 w8:=(Chg.ofBelow (T:=fun b=>(Value.slice ov al oc).ownBlock=some b) ((Below.refl _ _).alloc (Nat.le_refl _) _)).trans (Chg.ofGrown hgrow) (fun _ _ e=>e)
    have hob8:∀b,(Value.slice ov al oc).ownBlock=some b->w.heap.size+4<=b:=fun b hb=>(Hr8.out.lt b hb).1
    have HR8:Hid (AskRel w base sb (.slice ao s.gaps.length cap) (.slice (some ⟨g,0,none⟩) KL.length c5) s now retry tries KL (k+1) (.slice a8 (al+1) c8) w8):=by
     refine⟨HS2.out.chg hcA (fun e=>by have:=hob8 _ e;omega) (fun b hb e=>?_),?_,HE2.out.chg hcA (fun e=>by have:=hob8 _ e;omega) (fun e=>by have:=hob8 _ e;omega) (fun e=>by have:=hob8 _ e;omega) (fun e=>by have:=hob8 _ e;omega),⟨HU2.out.chg.trans hcA (fun b hb e=>by have:=hob8 _ e;omega),HU2.out.own⟩⟩
     ·have:=HV5.out b hb
      have:=hob8 b e
      omega
     ·show w8.ownsRow _ _ _ _ _ _
      rw[Hlk1.out,HAk.out,List.map_append]
      exact hown'
    clear hown' hgrow hob hcA d0
    go_wp2
    go_roundw
    case rel=>exact⟨k+1,by omega,by go_num,HR8.out⟩
    case measure=>simp[intOf];omega
  ·have hlt':¬(k:Int)<KL.length:=by omega
   have hke:k=KL.length:=by omega
   subst hke
   have HF:Hid (∀nq,SdAt (wr.drewN nq) base sb (.slice a5 KL.length c5) (askS s now retry tries)/\SdUp w (wr.drewN nq) sb (.slice ao s.gaps.length cap) (.slice a5 KL.length c5)/\OwnInts (wr.drewN nq) (w.heap.size+4) (.slice ov (askK now retry KL KL.length).length oc) (askedS s now retry tries)):=fun nq=>by
    have h:=HR.out.below (below_drewN (Below.refl _ _) nq)
    refine⟨?_,h.up,?_⟩
    ·unfold askS
     have e:KL.map (upG now retry)=updK now retry KL KL.length:=by exact(updK_all now retry KL).symm
     rw[HKL.out,e]
     exact h.sd
    ·unfold askedS
     rw[HKL.out]
     have e:askK now retry KL KL.length=names (KL.filter (dueB now retry)):=by unfold askK;rw[List.take_length]
     have h2:=h.row
     rw[<-e]
     exact h2
   have hsub:IntKind.i64.wrap ((s.gaps.length:Int)-(KL.length:Int))=(s.gaps.length:Int)-(KL.length:Int):=wrapI64 _ (by omega) (by omega)
   clear HR
   go_wp2
   go_quiet (fail)
   go_wp2
   go_ret2
   refine⟨_,_,?_,HF.out _⟩
   rw[HKL.out]
   rfl
end Go.Proofs.YtdjhhnolcafkiaaGreat
namespace Go.Proofs.YtdjhhnolcafkiaaGreat
open Go.RowKit
namespace Pk
def askStep (a:Md × List ByteArray) (i:Nat):Md × List ByteArray:=
 match a.1.sds[i]? with
 | none=>a
 | some s=>({ a.1 with sds:=a.1.sds.set i (askS s a.1.s.now a.1.c.retry a.1.c.tries),s:={ a.1.s with asked:=a.1.s.asked+(askedS s a.1.s.now a.1.c.retry a.1.c.tries).length,givenUp:=a.1.s.givenUp+((s.gaps.length:Int)-(keptG a.1.s.now a.1.c.retry a.1.c.tries s.gaps).length) } },a.2++if(askedS s a.1.s.now a.1.c.retry a.1.c.tries).length=0 then[]else[(askR 0 s.src (askedS s a.1.s.now a.1.c.retry a.1.c.tries)).1])
def askAll (M:Md) (k:Nat):Md × List ByteArray:=(List.range k).foldl askStep (M,[])
theorem askAll_succ (M:Md) (k:Nat):askAll M (k+1)=askStep (askAll M k) k:=by
 unfold askAll
 rw[List.range_succ,List.foldl_append]
 rfl
theorem kept_le (now retry tries:Int) (l:List Gp):(keptG now retry tries l).length<=l.length:=List.length_filter_le _ _
theorem asked_le (s:Sd) (now retry tries:Int):(askedS s now retry tries).length<=s.gaps.length:=by
 unfold askedS names
 rw[List.length_map]
 exact Nat.le_trans (List.length_filter_le _ _) (kept_le now retry tries s.gaps)
structure AOk (M:Md) (k:Nat) (a:Md × List ByteArray):Prop where
 c:a.1.c=M.c
 now:a.1.s.now=M.s.now
 sl:a.1.sds.length=M.sds.length
 rest:∀j,k<=j->a.1.sds[j]? = M.sds[j]?
 ask:M.s.asked<=a.1.s.asked/\a.1.s.asked<=M.s.asked+100000*(k:Int)
 gu:M.s.givenUp<=a.1.s.givenUp/\a.1.s.givenUp<=M.s.givenUp+100000*(k:Int)
 len:a.2.length<=k
theorem AOk.zero (M:Md):AOk M 0 (M,[]):=⟨rfl,rfl,rfl,fun _ _=>rfl,by simp,by simp,by simp⟩
theorem AOk.step {M:Md}{k:Nat}{a:Md × List ByteArray}(h:AOk M k a) (hl:∀s∈M.sds,s.gaps.length<=99000):AOk M (k+1) (askStep a k):=by
 obtain⟨A,L⟩:=a
 obtain⟨h1,h2,h3,h4,h5,h6,h7⟩:=h
 simp only at h1 h2 h3 h4 h5 h6 h7
 unfold askStep
 simp only
 cases hs:A.sds[k]? with
 | none=>exact⟨h1,h2,h3,fun j hj=>h4 j (by omega),by simp only;omega,by simp only;omega,by simp only;omega⟩
 | some s=>
  have hm:s∈M.sds:=List.mem_of_getElem? ((h4 k (Nat.le_refl _)).symm.trans hs)
  have hg:=hl s hm
  have a1:=asked_le s A.s.now A.c.retry A.c.tries
  have a2:=kept_le A.s.now A.c.retry A.c.tries s.gaps
  refine⟨h1,h2,by simp[h3],fun j hj=>?_,by simp only;omega,by simp only;omega,?_⟩
  ·simp only
   rw[List.getElem?_set_ne (by omega)]
   exact h4 j (by omega)
  ·simp only[List.length_append]
   split
   ·simp;omega
   ·simp;omega
theorem AOk.all {M:Md}(hl:∀s∈M.sds,s.gaps.length<=99000):∀k,AOk M k (askAll M k)
 | 0=>AOk.zero M
 | k+1=>by rw[askAll_succ];exact(AOk.all hl k).step hl
structure TickRel (w:World) (ρ:Nat->Nat) (mb:Nat) (sv wv:Value) (WB:List (Nat × Value)) (a:Md × List ByteArray) (ov:Value) (W:World) (ρ':Nat->Nat) (SB:List (Nat × Value)):Prop where
 md:MdAt W ρ' mb a.1 sv wv SB WB
 row:W.ownsRow w.heap.size 9 1 ov a.2.length (a.2.map Value.string)
 r0:∀b,ov.ownBlock=some b->ρ' b=0
 mv:Mv w ρ W ρ'
section
variable {w : World} {ρ : Nat -> Nat} {mb : Nat} {sv wv : Value} {WB SB : List (Nat × Value)} {a : Md × List ByteArray} {ov : Value} {W : World} {ρ' : Nat -> Nat}
theorem TickRel.chgd {W':World}{M':Md}(h:TickRel w ρ mb sv wv WB a ov W ρ' SB) (hm:MdAt W' ρ' mb M' sv wv SB WB) (hc:Chg (fun b=>ρ' b≠0) W W'):TickRel w ρ mb sv wv WB (M',a.2) ov W' ρ' SB:=
 ⟨hm,rowA_chg hc h.row (fun b hb e=>e (h.r0 b hb)),h.r0,h.mv.trans ⟨fun _ _ e=>e,hc⟩⟩
theorem TickRel.below {W':World}(h:TickRel w ρ mb sv wv WB a ov W ρ' SB) (hb:Below W.heap.size W W'):TickRel w ρ mb sv wv WB a ov W' ρ' SB:=h.chgd (h.md.below hb) (Chg.ofBelow hb)
theorem TickRel.snd {W':World}{i:Nat}{p:Nat × Value}{v':Value}{s s':Sd}(h:TickRel w ρ mb sv wv WB a ov W ρ' SB) (h1:SB[i]? = some p) (h2:a.1.sds[i]? = some s) (hS:SdAt W' (p.1+1) p.1 v' s') (hU:SdUp W W' p.1 p.2 v') :
  TickRel w ρ mb sv wv WB ({ a.1 with sds:=a.1.sds.set i s' },a.2) ov W' (fun b=>if v'.ownBlock=some b then 11+2*i else ρ' b) (SB.set i (p.1,v')):=by
 obtain⟨m,z,c⟩:=h.md.snd h1 h2 hS hU
 refine⟨m,rowA_chg c h.row (fun b hb e=>e (h.r0 b hb)),fun b hb=>z b (h.row.lt b hb).2 (h.r0 b hb),h.mv.trans ⟨z,c⟩⟩
theorem TickRel.app {W3:World}{ob:Obj}{ov':Value}{t:ByteArray}(h:TickRel w ρ mb sv wv WB a ov W ρ' SB) (hg:(W.alloc ob).grownBy W3 ov.ownBlock) (hrow:W3.ownsRow w.heap.size 9 1 ov' (a.2.length+1) (a.2.map Value.string++[.string t])) (hob:ov'.ownBlock=ov.ownBlock\/ov'.ownBlock=some (W.alloc ob).heap.size):TickRel w ρ mb sv wv WB (a.1,a.2++[t]) ov' W3 ρ' SB:=by
 have h1:=h.below ((Below.refl _ _).alloc (Nat.le_refl _) ob)
 refine⟨h1.md.chg (Chg.ofGrown hg) h.r0,?_,fun b hb=>?_,⟨h1.mv.1,h1.mv.2.trans (Chg.ofGrown hg) (fun b hb e=>by have:=(h.row.lt b e).1;omega)⟩⟩
 ·simp only[List.length_append,List.length_singleton,List.map_append,List.map_cons,List.map_nil]
  exact hrow
 ·rcases hob with e|e
  ·exact h.r0 b (by rw[<-e];exact hb)
  ·rw[e]at hb
   injection hb with hb
   refine h.md.hi b ?_
   rw[<-hb,World.size_alloc]
   omega
end
def AfS (mb:Nat) (now retry tries:Int) (W:World):Prop:=W.cell? ⟨mb,7,none⟩=some (.int .i64 now)/\W.cell? ⟨mb,5,none⟩=some (.int .i64 retry)/\W.cell? ⟨mb,6,none⟩=some (.int .i64 tries)
theorem AfS.chg {T:Nat->Prop}{W W':World}{mb:Nat}{now retry tries:Int}(h:AfS mb now retry tries W) (hc:Chg T W W') (hn:¬T mb):AfS mb now retry tries W':=⟨hc.cell h.1 hn,hc.cell h.2.1 hn,hc.cell h.2.2 hn⟩
def SndOk (s:Sd):Prop:=In16G s.gaps/\(∀g∈s.gaps,GOk1 g)/\s.gaps.length<=99000
end Pk
open Pk
theorem sourceG_any (sb:Nat) (src:Int) (w:World) (h:w.cell? ⟨sb,0,none⟩=some (.int .i64 src)) :
  Calls Tryz.prog 102 #[.pointer (some ⟨sb,0,none⟩)] w fun e w'=>e = .returned (.int .i64 src)/\w'=w:=by
 go_enter Tryz.func102,Tryz.ntmps102
 go_wp2
 go_ret
 exact⟨rfl,rfl⟩
theorem askForMissing_any (ρ:Nat->Nat) (mb:Nat) (M:Md) (sv wv:Value) (SB WB:List (Nat × Value)) (w:World) (h:MdAt w ρ mb M sv wv SB WB) (hsn:∀s∈M.sds,SndOk s) (hnow:0<=M.s.now/\M.s.now<=1000000000000000) (hcn:(0<=M.s.asked/\M.s.asked<=1000000000000000)/\0<=M.s.givenUp/\M.s.givenUp<=1000000000000000) :
  Calls Tryz.prog 81 #[.pointer (some ⟨mb,0,none⟩)] w fun e w'=>∃ov ρ' SB',e = .returned ov/\TickRel w ρ mb sv wv WB (askAll M M.sds.length) ov w' ρ' SB':=by
 obtain⟨ao,cap,rfl⟩:=rowA_shape h.sr
 have HR0:Hid (TickRel w ρ mb (.slice ao SB.length cap) wv WB (askAll M 0) (.slice none 0 0) w ρ SB):=⟨h,World.ownsRow_nil _ _ _ _,(fun b hb=>by cases hb),Mv.refl _ _⟩
 have Hsn:=hyd hsn
 have Hl:Hid (∀s∈M.sds,s.gaps.length<=99000):=fun s hs=>(hsn s hs).2.2
 have hs4:=h.s4
 have Hsl:Hid (SB.length=M.sds.length):=h.sl
 have hSB4:SB.length<=4:=by have:=h.sl;omega
 have y18:w.cell? ⟨mb,18,none⟩=some (.slice ao SB.length cap):=h.k 18 _ rfl
 obtain⟨i0,hi0,hz0,hz1,hz2⟩:=info_parts infoT
 have Hi:Hid (Tryz.prog.info? 9=some i0/\i0.zero=some (.string ⟨#[]⟩)/\i0.size=1/\i0.bytes=16):=⟨hi0,hz0,hz1,hz2⟩
 clear h hsn hi0 hz0 hz1 hz2
 go_enter Tryz.func81,Tryz.ntmps81
 go_wp2
 clear y18
 go_loopw [3,15] (fun s3 s15 wr=>∃(k:Nat) (ρ':Nat->Nat) (SB':List (Nat × Value)),k<=SB.length/\s15 = .int .i64 k/\TickRel w ρ mb (.slice ao SB.length cap) wv WB (askAll M k) s3 wr ρ' SB') (fun _ s15 _=>SB.length-(intOf s15).toNat)
 case atStart=>exact⟨0,ρ,SB,Nat.zero_le _,rfl,HR0.out⟩
 case round=>
  obtain⟨k,ρ',SB',hk,rfl,hR⟩:=hrel
  obtain⟨ov,oc,rfl⟩:=rowA_shape hR.row
  have hA:=AOk.all Hl.out k
  have HSu:Hid (askAll M (k+1)=askStep (askAll M k) k):=askAll_succ M k
  by_cases hlt:k<SB.length
  ·have hlt':(k:Int)<SB.length:=by omega
   have hks:k<M.sds.length:=by have:=Hsl.out;omega
   have hsk:(askAll M k).1.sds[k]? = some M.sds[k]:=(hA.rest k (Nat.le_refl _)).trans (List.getElem?_eq_getElem hks)
   obtain⟨s,hs⟩:∃s,M.sds[k]=s:=⟨_,rfl⟩
   have HOs:Hid (SndOk s):=hs▸Hsn.out _ (List.getElem_mem hks)
   rw[hs]at hsk
   have hn1:(askAll M k).1.s.now=M.s.now:=hA.now
   have hca:0<=(askAll M k).1.s.asked/\(askAll M k).1.s.asked<=1000000000400000:=by have:=hA.ask;omega
   have hcg:0<=(askAll M k).1.s.givenUp/\(askAll M k).1.s.givenUp<=1000000000400000:=by have:=hA.gu;omega
   have hlen:(askAll M k).2.length<=k:=hA.len
   generalize askAll M k=A at *
   obtain⟨M2,L2⟩:=A
   simp only at hsk hn1 hca hcg hlen
   have hnw:0<=M2.s.now/\M2.s.now<=1000000000000000:=by omega
   have hsl':SB'.length=SB.length:=by rw[hR.md.sl,hA.sl,Hsl.out]
   have hsr:=hR.md.sr
   rw[hsl']at hsr
   obtain⟨g,rfl⟩:=rowA_some hsr (by omega)
   have hp:SB'[k]? = some (SB'[k]'(by omega)):=List.getElem?_eq_getElem (by omega)
   obtain⟨p,hpe⟩:∃p,SB'[k]'(by omega)=p:=⟨_,rfl⟩
   rw[hpe]at hp
   have d0:wr.cell? ⟨g,k,none⟩=some (ptr p.1):=by
    have h:=hsr.cellAt k (by omega)
    rw[h,List.getElem?_map,hp]
    rfl
   obtain⟨hSd,hr1,hr2⟩:=hR.md.sa k p s hp hsk
   have HR:=hyd hR
   have HRd:Hid (TickRel w ρ mb (.slice (some ⟨g,0,none⟩) SB.length cap) wv WB (M2,L2) (.slice ov L2.length oc) wr.drew ρ' SB'):=hR.below (Below.refl _ _).drew
   have HSd:Hid (SdAt wr.drew (p.1+1) p.1 p.2 s):=hSd.below (Below.refl _ _).drew
   have HS:Hid (AfS mb M2.s.now M2.c.retry M2.c.tries wr):=⟨hR.md.k 7 _ rfl,hR.md.k 5 _ rfl,hR.md.k 6 _ rfl⟩
   have HUm:Hid (∀b,(b=p.1\/p.2.ownBlock=some b)->b≠mb):=fun b hb e=>by
    have:=hR.md.rm
    rcases hb with e'|e'
    ·rw[<-e',e]at hr1;omega
    ·have:=hr2 b e';rw[e]at this;omega
   have Hp:=hyd hp
   have Hsk:=hyd hsk
   have HAs:Hid (askStep (M2,L2) k=({ M2 with sds:=M2.sds.set k (askS s M2.s.now M2.c.retry M2.c.tries),s:={ M2.s with asked:=M2.s.asked+(askedS s M2.s.now M2.c.retry M2.c.tries).length,givenUp:=M2.s.givenUp+((s.gaps.length:Int)-(keptG M2.s.now M2.c.retry M2.c.tries s.gaps).length) } },L2++if(askedS s M2.s.now M2.c.retry M2.c.tries).length=0 then[]else[(askR 0 s.src (askedS s M2.s.now M2.c.retry M2.c.tries)).1])):=by
    show _=_
    unfold askStep
    simp only[hsk]
   have hask:=asked_le s M2.s.now M2.c.retry M2.c.tries
   have hkep:=kept_le M2.s.now M2.c.retry M2.c.tries s.gaps
   have hgl:s.gaps.length<=99000:=HOs.out.2.2
   unfold ptr at d0
   clear hA hs hsk hsr hpe hp hR hSd hr1 hr2 hn1 hsl' hks
   go_wp2
   refine wp_region_noPanic ?_
   refine wp_region_held_drew (S:=AfS mb M2.s.now M2.c.retry M2.c.tries) (by kernel_rfl) HS.out (fun zH=>?_)
   refine tka 0 ?_
   refine tka 1 ?_
   refine tka 2 ?_
   refine tka 3 ?_
   refine tka 4 ?_
   refine tka 5 ?_
   refine tka 6 ?_
   refine tka 7 ?_
   refine tka 8 ?_
   refine tka 9 ?_
   refine tka 10 ?_
   refine tka 11 ?_
   refine tka 12 ?_
   refine tka 13 ?_
   refine tka 14 ?_
   refine tka 15 ?_
   refine rd1 16 fun K hK=>?_
   go_simp
   refine(ask_any (p.1+1) p.1 p.2 s M2.s.now M2.c.retry M2.c.tries _ HSd.out HOs.out.1 HOs.out.2.1 hnw hgl).mono ?_
   rintro e w2 ⟨v2,av,rfl,hS2,hU2,hO2⟩
   have hSS:AfS mb M2.s.now M2.c.retry M2.c.tries w2:=AfS.chg zH hU2.chg (fun e=>HUm.out mb e rfl)
   obtain⟨aa,ac,rfl⟩:=hO2.shape
   have HT2:Hid (TickRel w ρ mb (.slice (some ⟨g,0,none⟩) SB.length cap) wv WB ({ M2 with sds:=M2.sds.set k (askS s M2.s.now M2.c.retry M2.c.tries) },L2) (.slice ov L2.length oc) w2 (fun b=>if v2.ownBlock=some b then 11+2*k else ρ' b) (SB'.set k (p.1,v2))):=HRd.out.snd Hp.out Hsk.out hS2 hU2
   have HSp:Hid (w2.cell? ⟨p.1,0,none⟩=some (.int .i64 s.src)):=hS2.c0
   have HO2:Hid (OwnInts w2 (wr.heap.size+4) (.slice aa (askedS s M2.s.now M2.c.retry M2.c.tries).length ac) (askedS s M2.s.now M2.c.retry M2.c.tries)):=(hO2)
   have hmw:mb<wr.heap.size:=HR.out.md.lt
   have hpw:p.1<w2.heap.size:=lt_of_cell HSp.out
   generalize hρ2:(fun b=>if v2.ownBlock=some b then 11+2*k else ρ' b)=ρ2 at *
   generalize hAK:askedS s M2.s.now M2.c.retry M2.c.tries=AK at *
   generalize hKG:(keptG M2.s.now M2.c.retry M2.c.tries s.gaps).length=kg at *
   generalize hsa:askS s M2.s.now M2.c.retry M2.c.tries=sa at *
   obtain⟨al,hal⟩:∃al,AK.length=al:=⟨_,rfl⟩
   clear hS2 hU2 hO2 hρ2 hAK hKG hsa
   rw[hal]at HAs HO2 hask ⊢
   obtain⟨m3,c3⟩:=HT2.out.md.put (M':={ M2 with sds:=M2.sds.set k sa,s:={ M2.s with asked:=M2.s.asked+al } }) 16 (.int .i64 (M2.s.asked+al)) (by omega) rfl rfl rfl
   have R3:=HT2.out.chgd m3 c3.2
   obtain⟨m4,c4⟩:=m3.put (M':={ M2 with sds:=M2.sds.set k sa,s:={ M2.s with asked:=M2.s.asked+al,givenUp:=M2.s.givenUp+((s.gaps.length:Int)-kg) } }) 17 (.int .i64 (M2.s.givenUp+((s.gaps.length:Int)-kg))) (by omega) rfl rfl rfl
   have HT4:Hid (TickRel w ρ mb (.slice (some ⟨g,0,none⟩) SB.length cap) wv WB ({ M2 with sds:=M2.sds.set k sa,s:={ M2.s with asked:=M2.s.asked+al,givenUp:=M2.s.givenUp+((s.gaps.length:Int)-kg) } },L2) (.slice ov L2.length oc) ((w2.setCell ⟨mb,16,none⟩ (.int .i64 (M2.s.asked+al))).setCell ⟨mb,17,none⟩ (.int .i64 (M2.s.givenUp+((s.gaps.length:Int)-kg)))) ρ2 (SB'.set k (p.1,v2))):=R3.chgd m4 c4.2
   have hcm:Chg (fun b=>b=mb) w2 ((w2.setCell ⟨mb,16,none⟩ (.int .i64 (M2.s.asked+al))).setCell ⟨mb,17,none⟩ (.int .i64 (M2.s.givenUp+((s.gaps.length:Int)-kg)))):=((Chg.refl (fun b=>b=mb) _).setCell ⟨mb,16,none⟩ (.inl rfl) _).setCell ⟨mb,17,none⟩ (.inl rfl) _
   have e0:((w2.setCell ⟨mb,16,none⟩ (.int .i64 (M2.s.asked+al))).setCell ⟨mb,17,none⟩ (.int .i64 (M2.s.givenUp+((s.gaps.length:Int)-kg)))).cell? ⟨p.1,0,none⟩=some (.int .i64 s.src):=hcm.cell HSp.out (HUm.out p.1 (.inl rfl))
   have HI4:Hid (IsInts ((w2.setCell ⟨mb,16,none⟩ (.int .i64 (M2.s.asked+al))).setCell ⟨mb,17,none⟩ (.int .i64 (M2.s.givenUp+((s.gaps.length:Int)-kg)))).heap.size ((w2.setCell ⟨mb,16,none⟩ (.int .i64 (M2.s.asked+al))).setCell ⟨mb,17,none⟩ (.int .i64 (M2.s.givenUp+((s.gaps.length:Int)-kg)))) (.slice aa al ac) AK):=by
    have h1:OwnInts ((w2.setCell ⟨mb,16,none⟩ (.int .i64 (M2.s.asked+al))).setCell ⟨mb,17,none⟩ (.int .i64 (M2.s.givenUp+((s.gaps.length:Int)-kg)))) (wr.heap.size+4) (.slice aa al ac) AK:=by
     have h2:w2.ownsRow _ _ _ _ _ _:=HO2.out
     exact rowA_chg hcm h2 (fun b hb e=>by have:=(h2.lt b hb).1;omega)
    exact h1.isInts
   have y16:w2.cell? ⟨mb,16,none⟩=some (.int .i64 M2.s.asked):=HT2.out.md.k 16 _ rfl
   have y17:w2.cell? ⟨mb,17,none⟩=some (.int .i64 M2.s.givenUp):=HT2.out.md.k 17 _ rfl
   have yf:∀o,w2.frozen? ⟨mb,o,none⟩=false:=HT2.out.md.fz
   have hw1:IntKind.i64.wrap (M2.s.asked+(al:Int))=M2.s.asked+al:=wrapI64 _ (by omega) (by omega)
   have hw2:IntKind.i64.wrap (M2.s.givenUp+((s.gaps.length:Int)-(kg:Int)))=M2.s.givenUp+((s.gaps.length:Int)-kg):=wrapI64 _ (by omega) (by omega)
   clear m3 c3 R3 m4 c4 hcm HT2 HO2 HSp
   go_simp
   refine hK.out _ _ hSS (fun zH=>?_)
   clear hK K
   refine tka 17 ?_
   refine tka 18 ?_
   refine tka 19 ?_
   refine tka 20 ?_
   refine tka 21 ?_
   refine doN ?_
   clear zH hSS HS
   by_cases hz:al=0
   ·have HT5:Hid (TickRel w ρ mb (.slice (some ⟨g,0,none⟩) SB.length cap) wv WB (askAll M (k+1)) (.slice ov L2.length oc) ((w2.setCell ⟨mb,16,none⟩ (.int .i64 (M2.s.asked+al))).setCell ⟨mb,17,none⟩ (.int .i64 (M2.s.givenUp+((s.gaps.length:Int)-kg)))) ρ2 (SB'.set k (p.1,v2))):=by
     show TickRel _ _ _ _ _ _ _ _ _ _ _
     rw[HSu.out,HAs.out,if_pos hz,List.append_nil]
     exact HT4.out
    subst hz
    rw[show M2.s.asked+((0:Nat):Int)=M2.s.asked from Int.add_zero _]at HT5
    go_wp2
    go_roundw
    case rel=>exact⟨k+1,ρ2,_,by omega,by go_num,HT5.out⟩
    case measure=>simp[intOf];omega
   ·have hz':(0:Int)<al:=by omega
    have HAs2:Hid (askAll M (k+1)=({ M2 with sds:=M2.sds.set k sa,s:={ M2.s with asked:=M2.s.asked+al,givenUp:=M2.s.givenUp+((s.gaps.length:Int)-kg) } },L2++[(askR 0 s.src AK).1])):=by
     show _=_
     rw[HSu.out,HAs.out,if_neg hz]
    go_wp2_with fail
    refine(sourceG_any p.1 s.src _ e0).mono ?_
    rintro e w4 ⟨rfl,hw4⟩
    rw[hw4]
    clear hw4 w4
    go_wp2_with fail
    refine(writeAsking_any 0 s.src (.slice aa al ac) AK _ HI4.out (by omega)).mono ?_
    rintro e w5 ⟨rfl,hb5⟩
    have HT5:Hid (TickRel w ρ mb (.slice (some ⟨g,0,none⟩) SB.length cap) wv WB ({ M2 with sds:=M2.sds.set k sa,s:={ M2.s with asked:=M2.s.asked+al,givenUp:=M2.s.givenUp+((s.gaps.length:Int)-kg) } },L2) (.slice ov L2.length oc) w5 ρ2 (SB'.set k (p.1,v2))):=HT4.out.below hb5
    generalize (askR 0 s.src AK).1=tx at *
    generalize (askR 0 s.src AK).2=er at *
    have hsz:w.heap.size<=w5.heap.size:=HT5.out.mv.2.size
    clear hb5 e0 HI4 HT4 y16 y17 yf
    go_wp2_with (at_builtin;(
     refine wpList_append_at rfl (.tmp 73) (.tmp 75) 32 rfl w.heap.size 9 i0 _ 1 16 Tryz.underlying32 Hi.out rfl (by decide) _ L2.length _ rfl (HT5.out.row.alloc _) _ 1 1 [.string tx] rfl rfl (cells_new _ [.string tx] _) ?_ (by unfold maxLen;omega) (by omega) (by simp;omega) ?_
     ·intro u hu;simp at hu;subst hu;rfl
     intro v' w6 hown' hgrow hob
     refine stop_here ?_))
    refine hid_in ?_
    obtain⟨a6,c6,rfl⟩:=rowA_shape hown'
    have HT6:Hid (TickRel w ρ mb (.slice (some ⟨g,0,none⟩) SB.length cap) wv WB (askAll M (k+1)) (.slice a6 (L2.length+1) c6) w6 ρ2 (SB'.set k (p.1,v2))):=by
     show TickRel _ _ _ _ _ _ _ _ _ _ _
     rw[HAs2.out]
     exact HT5.out.app hgrow hown' hob
    clear hown' hgrow hob HT5
    go_wp2
    go_roundw
    case rel=>exact⟨k+1,ρ2,_,by omega,by go_num,HT6.out⟩
    case measure=>simp[intOf];omega
  ·have hlt':¬(k:Int)<SB.length:=by omega
   have hke:k=M.sds.length:=by have:=Hsl.out;omega
   have HF:Hid (TickRel w ρ mb (.slice ao SB.length cap) wv WB (askAll M M.sds.length) (.slice ov (askAll M k).2.length oc) wr ρ' SB'):=by
    show TickRel _ _ _ _ _ _ _ _ _ _ _
    rw[<-hke]
    exact hR
   clear hR hA hke
   go_wp2
   go_ret
   first
    | exact⟨_,ρ',SB',rfl,HF.out⟩
    | exact⟨_,rfl,ρ',SB',HF.out⟩
end Go.Proofs.YtdjhhnolcafkiaaGreat
namespace Go.Proofs.YtdjhhnolcafkiaaGreat
open Go.RowKit
namespace Pk
def wentM (M:Md) (t:Int):Md:={ M with s:={ M.s with now:=M.s.now+t,tokens:=min (M.s.tokens+M.c.rate*t) M.c.burst } }
def tickM (M:Md) (t:Int):Md × List ByteArray × Int:=
 if 0<=t/\t<=1000000 then((askAll (wentM M t) M.sds.length).1,(askAll (wentM M t) M.sds.length).2,0)else(M,[],2)
def TcS (mb:Nat) (tokens rate burst:Int) (W:World):Prop:=W.cell? ⟨mb,8,none⟩=some (.int .i64 tokens)/\W.cell? ⟨mb,3,none⟩=some (.int .i64 rate)/\W.cell? ⟨mb,4,none⟩=some (.int .i64 burst)
end Pk
open Pk
theorem tick_any (ρ:Nat->Nat) (mb:Nat) (M:Md) (sv wv:Value) (SB WB:List (Nat × Value)) (t:Int) (w:World) (h:MdAt w ρ mb M sv wv SB WB) (ok:MOk M) (hsn:∀s∈M.sds,SndOk s) (hnow:M.s.now<=900000000000000) :
  Calls Tryz.prog 52 #[.pointer (some ⟨mb,0,none⟩),.int .i64 t] w fun e w'=>∃tv,e = .returned (.tuple #[tv,.int .i64 (tickM M t).2.2])/\MovedT w w' ρ mb (tickM M t).1 tv (tickM M t).2.1:=by
 have H:=hyd h
 have Hok:=hyd ok
 have Hsn:=hyd hsn
 clear h ok hsn
 go_enter Tryz.func52,Tryz.ntmps52
 go_wp2_with fail
 refine(orNone_any mb _).mono ?_
 rintro e w1 ⟨rfl,hw1⟩
 rw[hw1]
 clear hw1 w1
 go_wp2_with fail
 refine(between_any t 0 1000000 _).mono ?_
 rintro e w1 ⟨rfl,hw1⟩
 rw[hw1]
 clear hw1 w1
 by_cases ht:0<=t/\t<=1000000
 ·rw[decide_eq_true ht]
  have HP:Hid (tickM M t=((askAll (wentM M t) M.sds.length).1,(askAll (wentM M t) M.sds.length).2,0)):=if_pos ht
  have hcf:=of_decide_eq_true Hok.out.cfg
  have hn0:=Hok.out.now
  have htk:=Hok.out.tok
  have y7:w.cell? ⟨mb,7,none⟩=some (.int .i64 M.s.now):=H.out.k 7 _ rfl
  have yf:∀o,w.frozen? ⟨mb,o,none⟩=false:=H.out.fz
  obtain⟨m1,c1⟩:=H.out.put (M':={ M with s:={ M.s with now:=M.s.now+t } }) 7 (.int .i64 (M.s.now+t)) (by omega) rfl rfl rfl
  obtain⟨m2,c2⟩:=m1.put (M':=wentM M t) 8 (.int .i64 (min (M.s.tokens+M.c.rate*t) M.c.burst)) (by omega) rfl rfl rfl
  have HM1:=hyd m1
  have HM2:Hid (MdAt ((w.setCell ⟨mb,7,none⟩ (.int .i64 (M.s.now+t))).setCell ⟨mb,8,none⟩ (.int .i64 (min (M.s.tokens+M.c.rate*t) M.c.burst))).drew ρ mb (wentM M t) sv wv SB WB):=m2.below (Below.refl _ _).drew
  have HV2:Hid (Mv w ρ ((w.setCell ⟨mb,7,none⟩ (.int .i64 (M.s.now+t))).setCell ⟨mb,8,none⟩ (.int .i64 (min (M.s.tokens+M.c.rate*t) M.c.burst))).drew ρ):=(c1.trans c2).trans (Mv.below (Below.refl _ _).drew)
  have hrt:0<=M.c.rate*t/\M.c.rate*t<=100000000000:=by
   refine⟨Int.mul_nonneg hcf.2.2.2.1.1 ht.1,?_⟩
   have h1:M.c.rate*t<=100000*t:=Int.mul_le_mul_of_nonneg_right hcf.2.2.2.1.2 ht.1
   omega
  have hw0:IntKind.i64.wrap (M.s.now+t)=M.s.now+t:=wrapI64 _ (by omega) (by omega)
  have hw1:IntKind.i64.wrap (M.c.rate*t)=M.c.rate*t:=wrapI64 _ (by omega) (by omega)
  have hw2:IntKind.i64.wrap (M.s.tokens+M.c.rate*t)=M.s.tokens+M.c.rate*t:=wrapI64 _ (by omega) (by omega)
  have HS:Hid (TcS mb M.s.tokens M.c.rate M.c.burst (w.setCell ⟨mb,7,none⟩ (.int .i64 (M.s.now+t)))):=⟨m1.k 8 _ rfl,m1.k 3 _ rfl,m1.k 4 _ rfl⟩
  have hfz1:∀o,(w.setCell ⟨mb,7,none⟩ (.int .i64 (M.s.now+t))).frozen? ⟨mb,o,none⟩=false:=m1.fz
  clear m1 c1 m2 c2
  go_wp2
  have g8:=HS.out.1
  have hmin:(if M.c.burst<M.s.tokens+M.c.rate*t then M.c.burst else M.s.tokens+M.c.rate*t)=min (M.s.tokens+M.c.rate*t) M.c.burst:=by
   split<;>omega
  generalize (w.setCell ⟨mb,7,none⟩ (.int .i64 (M.s.now+t)))=W1 at *
  refine wp_region_noPanic ?_
  refine wp_region_held_drew (S:=fun W=>W.cell? ⟨mb,3,none⟩=some (.int .i64 M.c.rate)/\W.cell? ⟨mb,4,none⟩=some (.int .i64 M.c.burst)) (by kernel_rfl) HS.out.2 (fun zH=>?_)
  refine tka 0 ?_
  refine tka 1 ?_
  refine tka 2 ?_
  refine tka 3 ?_
  refine tka 4 ?_
  refine tka 6 ?_
  refine tka 7 ?_
  refine tka 8 ?_
  refine tka 9 ?_
  refine tka 10 ?_
  refine tka 11 ?_
  refine tka 12 ?_
  refine tka 14 ?_
  refine tka 15 ?_
  refine tka 16 ?_
  refine tka 17 ?_
  refine tka 18 ?_
  refine rd1 5 fun K hK=>?_
  go_simp
  refine hK.out _ _ zH (fun zH=>?_)
  clear hK K
  refine tka 13 ?_
  refine rd1 19 fun K hK=>?_
  go_simp
  try rw[hmin]
  refine hK.out _ _ zH (fun zH=>?_)
  clear hK K
  generalize hmt:min (M.s.tokens+M.c.rate*t) M.c.burst=mt at *
  refine tka 20 ?_
  refine tka 21 ?_
  refine tka 22 ?_
  refine rd1 23 fun K hK=>?_
  go_simp
  refine hK.out _ _ ⟨HM2.out.k 3 _ rfl,HM2.out.k 4 _ rfl⟩ (fun zH=>?_)
  clear hK K
  refine doN ?_
  clear zH HS g8 y7 yf hfz1 HM1
  have HSo:Hid (∀s∈(wentM M t).sds,SndOk s):=Hsn.out
  have hn1:0<=(wentM M t).s.now/\(wentM M t).s.now<=1000000000000000:=by
   show 0<=M.s.now+t/\M.s.now+t<=_
   omega
  have hc1:(0<=(wentM M t).s.asked/\(wentM M t).s.asked<=1000000000000000)/\0<=(wentM M t).s.givenUp/\(wentM M t).s.givenUp<=1000000000000000:=⟨Hok.out.cnt M.s.asked (by simp),Hok.out.cnt M.s.givenUp (by simp)⟩
  have Hnc:Hid ((0<=(wentM M t).s.now/\(wentM M t).s.now<=1000000000000000)/\(0<=(wentM M t).s.asked/\(wentM M t).s.asked<=1000000000000000)/\0<=(wentM M t).s.givenUp/\(wentM M t).s.givenUp<=1000000000000000):=⟨hn1,hc1⟩
  clear hn1 hc1 hmin hmt
  generalize (W1.setCell ⟨mb,8,none⟩ (.int .i64 mt)).drew=W2 at *
  go_wp2_with fail
  refine(askForMissing_any ρ mb (wentM M t) sv wv SB WB _ HM2.out HSo.out Hnc.out.1 Hnc.out.2).mono ?_
  rintro e w3 ⟨ov,ρ',SB',rfl,hT⟩
  have HT:=hyd hT
  obtain⟨ao,co,rfl⟩:=rowA_shape hT.row
  clear hT
  go_wp2
  go_ret2
  rw[HP.out]
  exact⟨_,rfl,ρ',_,_,_,_,HT.out.md,HV2.out.trans HT.out.mv,row_mono HT.out.row HV2.out.2.size,HT.out.r0⟩
 ·rw[decide_eq_false ht]
  have HP:Hid (tickM M t=(M,[],2)):=if_neg ht
  clear ht
  go_wp2
  go_ret2
  rw[HP.out]
  exact⟨_,rfl,MovedT.none H.out (Mv.refl _ _)⟩
end Go.Proofs.YtdjhhnolcafkiaaGreat
