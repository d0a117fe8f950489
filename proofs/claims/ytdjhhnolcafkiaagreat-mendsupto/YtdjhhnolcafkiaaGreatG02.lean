import Derived.Test.YtdjhhnolcafkiaaGreatG01
import Derived.Laws.BitsAllLaws
import Derived.Deep.RegionHeld
set_option linter.unusedVariables false
set_option linter.unusedSimpArgs false
set_option maxHeartbeats 40000000
set_option maxRecDepth 20000
namespace Go.Proofs.YtdjhhnolcafkiaaGreat
open Go.RowKit Pk
namespace Pk
theorem below_fin {w W:World}{c0 c1 c2 c3 c4 c5 c6 c7 c8 c9 c10:Value}(hb:Below w.heap.size w W):Below w.heap.size w (((((((((((W.setCell ⟨w.heap.size,0,none⟩ c0).setCell ⟨w.heap.size,1,none⟩ c1).setCell ⟨w.heap.size,2,none⟩ c2).setCell ⟨w.heap.size,3,none⟩ c3).setCell ⟨w.heap.size,4,none⟩ c4).setCell ⟨w.heap.size,5,none⟩ c5).setCell ⟨w.heap.size,6,none⟩ c6).setCell ⟨w.heap.size,7,none⟩ c7).setCell ⟨w.heap.size,8,none⟩ c8).setCell ⟨w.heap.size,9,none⟩ c9).setCell ⟨w.heap.size,10,none⟩ c10):=(((((((((((hb.setCell (p:=⟨w.heap.size,0,none⟩) (Nat.le_refl _) _).setCell (p:=⟨w.heap.size,1,none⟩) (Nat.le_refl _) _).setCell (p:=⟨w.heap.size,2,none⟩) (Nat.le_refl _) _).setCell (p:=⟨w.heap.size,3,none⟩) (Nat.le_refl _) _).setCell (p:=⟨w.heap.size,4,none⟩) (Nat.le_refl _) _).setCell (p:=⟨w.heap.size,5,none⟩) (Nat.le_refl _) _).setCell (p:=⟨w.heap.size,6,none⟩) (Nat.le_refl _) _).setCell (p:=⟨w.heap.size,7,none⟩) (Nat.le_refl _) _).setCell (p:=⟨w.heap.size,8,none⟩) (Nat.le_refl _) _).setCell (p:=⟨w.heap.size,9,none⟩) (Nat.le_refl _) _).setCell (p:=⟨w.heap.size,10,none⟩) (Nat.le_refl _) _)
theorem told_fin {w W:World}{v:Value}{l:List Int}{c0 c1 c2 c3 c4 c5 c6 c7 c8 c9 c10:Value}(hb:Below w.heap.size w W) (ho:OwnInts W (w.heap.size+2) v l) :
  Below w.heap.size w (((((((((((W.setCell ⟨w.heap.size,0,none⟩ c0).setCell ⟨w.heap.size,1,none⟩ c1).setCell ⟨w.heap.size,2,none⟩ c2).setCell ⟨w.heap.size,3,none⟩ c3).setCell ⟨w.heap.size,4,none⟩ c4).setCell ⟨w.heap.size,5,none⟩ c5).setCell ⟨w.heap.size,6,none⟩ c6).setCell ⟨w.heap.size,7,none⟩ c7).setCell ⟨w.heap.size,8,none⟩ c8).setCell ⟨w.heap.size,9,none⟩ c9).setCell ⟨w.heap.size,10,none⟩ c10)/\OwnInts (((((((((((W.setCell ⟨w.heap.size,0,none⟩ c0).setCell ⟨w.heap.size,1,none⟩ c1).setCell ⟨w.heap.size,2,none⟩ c2).setCell ⟨w.heap.size,3,none⟩ c3).setCell ⟨w.heap.size,4,none⟩ c4).setCell ⟨w.heap.size,5,none⟩ c5).setCell ⟨w.heap.size,6,none⟩ c6).setCell ⟨w.heap.size,7,none⟩ c7).setCell ⟨w.heap.size,8,none⟩ c8).setCell ⟨w.heap.size,9,none⟩ c9).setCell ⟨w.heap.size,10,none⟩ c10) (w.heap.size+2) v l:=
 ⟨(((((((((((hb.setCell (p:=⟨w.heap.size,0,none⟩) (Nat.le_refl _) _).setCell (p:=⟨w.heap.size,1,none⟩) (Nat.le_refl _) _).setCell (p:=⟨w.heap.size,2,none⟩) (Nat.le_refl _) _).setCell (p:=⟨w.heap.size,3,none⟩) (Nat.le_refl _) _).setCell (p:=⟨w.heap.size,4,none⟩) (Nat.le_refl _) _).setCell (p:=⟨w.heap.size,5,none⟩) (Nat.le_refl _) _).setCell (p:=⟨w.heap.size,6,none⟩) (Nat.le_refl _) _).setCell (p:=⟨w.heap.size,7,none⟩) (Nat.le_refl _) _).setCell (p:=⟨w.heap.size,8,none⟩) (Nat.le_refl _) _).setCell (p:=⟨w.heap.size,9,none⟩) (Nat.le_refl _) _).setCell (p:=⟨w.heap.size,10,none⟩) (Nat.le_refl _) _),(((((((((((ho.setCell (a:=⟨w.heap.size,0,none⟩) (by simp) _).setCell (a:=⟨w.heap.size,1,none⟩) (by simp) _).setCell (a:=⟨w.heap.size,2,none⟩) (by simp) _).setCell (a:=⟨w.heap.size,3,none⟩) (by simp) _).setCell (a:=⟨w.heap.size,4,none⟩) (by simp) _).setCell (a:=⟨w.heap.size,5,none⟩) (by simp) _).setCell (a:=⟨w.heap.size,6,none⟩) (by simp) _).setCell (a:=⟨w.heap.size,7,none⟩) (by simp) _).setCell (a:=⟨w.heap.size,8,none⟩) (by simp) _).setCell (a:=⟨w.heap.size,9,none⟩) (by simp) _).setCell (a:=⟨w.heap.size,10,none⟩) (by simp) _)⟩
end Pk
theorem num_two (s:ByteArray) (a:Nat):num (s.extract a (a+2)).data.toList<65536:=by
 have h1:=num_lt (s.extract a (a+2)).data.toList
 have h2:(s.extract a (a+2)).data.toList.length<=2:=by rw[<-Lib.size_eq,ByteArray.size_extract];omega
 have h3:256 ^ (s.extract a (a+2)).data.toList.length<=256 ^ 2:=Nat.pow_le_pow_right (by omega) h2
 omega
theorem run_last (W:World) (s:ByteArray) (h:0<s.size):(Instr.index 9 (.string s) (.int .i64 ((s.size:Int)-1))).run Tryz.prog W = .ok (.int .u8 ((Bl s).toNat:Int)) W:=by
 rw[run_index_string W 9 s .i64 _ Tryz.underlying9,dif_pos ⟨by omega,by omega⟩,<-getl s (by omega)]
 have e:((s.size:Int)-1).toNat=s.size-1:=by omega
 simp only[e]
theorem read_plain (s:ByteArray) (w:World) (hs:12<=s.size) (hs2:s.size<=1500) (hm:(B0 s).toNat/64=2) (hat:at0 s<=s.size) (hx:¬(B0 s).toNat/16%2=1) :
  Calls Tryz.prog 72 #[.string s] w fun e w'=>Below w.heap.size w w'/\ReadAs (readP s) w.heap.size e w':=by
 have hi:(12:Int)<=s.size:=by omega
 have hi2:(s.size:Int)<=1500:=by omega
 have i0:(0:Int)<s.size:=by omega
 have hbad:bad1 s=false:=by unfold bad1;exact decide_eq_false (by omega)
 have HP:Hid (readP s=(extPart s).bind fun x=>(padPart s x.2.2).map fun y=>mkP s x y):=readP_of s hbad hat
 clear hbad
 have j0:∀W:World,(Instr.index 9 (.string s) (.int .i64 0)).run Tryz.prog W = .ok (.int .u8 ((B0 s).toNat:Int)) W:=fun W=>by
  rw[run_index_string W 9 s .i64 0 Tryz.underlying9,dif_pos ⟨by omega,i0⟩,<-get0 s (by omega)];rfl
 have hb:=(B0 s).toNat_lt
 have hne:(((B0 s).toNat:Int)/64 != 2)=false:=by rw[bne_eq_false_iff_eq];omega
 have e15:IntKind.i64.wrap (bits .and .u8 ((B0 s).toNat:Int) 15)=((B0 s).toNat:Int)%16:=by rw[low4];exact(wrapI64 _ (by omega) (by omega)).trans (by omega)
 obtain⟨A,hA⟩:∃A,A=at0 s:=⟨_,rfl⟩
 have HA:=hyd hA
 have hA1:(12+4*(((B0 s).toNat:Int)%16))=(A:Int):=by rw[hA];unfold at0;omega
 have hA2:A<=s.size:=by rw[hA];exact hat
 have hA3:12<=A:=by rw[hA];unfold at0;omega
 clear hm hat hA
 go_enter Tryz.func72,Tryz.ntmps72
 go_wp2
 refine wp_scope_fwd 0 rfl ?_
 go_wp2_with fail
 refine(readHead_any s _ hs hs2).mono ?_
 rintro e w1 ⟨rfl,hb1⟩
 rw[get0 s (by omega),get1 s (by omega)]
 have hSt0:=St.init w 41
 have hSt1:=hSt0.below hb1
 have hSt:=hSt1
 obtain⟨bel,siz,r0,r1,r2,r3,r4,r5,r6,r7,r8,r9,r10,y0,y1,y2,y3,y4,y5,y6,y7,y8,y9,y10,fr,fy⟩:=hSt1
 clear hb1 hSt0
 go_wp2_with fail
 clear bel siz r0 r1 r2 r3 r4 r5 r6 r7 r8 r9 r10 y0 y1 y2 y3 y4 y5 y6 y7 y8 y9 y10 fr fy
 refine(readWords_any _ _ (by simp only[ByteArray.size_extract];omega)).mono ?_
 rintro e w2 ⟨v,rfl,hown,hb2⟩
 have hSt2:=(((((((((((hSt.set0 _).set1 _).set2 _).set3 _).set4 _).set5 _).set6 _).set7 _).set8 _).set9 _).set10 _).below hb2
 have hown2:=hown.mono (base':=w.heap.size+2) (by have:=hSt.siz;simp;omega)
 clear hown hb2 hSt
 obtain⟨ao,cap,rfl⟩:=hown2.shape
 have Hown:=hyd hown2
 clear hown2
 generalize hcl:words (s.extract 12 A).data.toList=cl at *
 have Hcl:=hyd hcl
 clear hcl
 have hSt:=hSt2
 obtain⟨bel,siz,r0,r1,r2,r3,r4,r5,r6,r7,r8,r9,r10,y0,y1,y2,y3,y4,y5,y6,y7,y8,y9,y10,fr,fy⟩:=hSt2
 clear w1
 have hxd:decide ((B0 s).toNat/16%2=1)=false:=decide_eq_false hx
 have HX:Hid (extPart s=some (0,⟨#[]⟩,A)):=by show _=_;unfold extPart;rw[if_neg hx,HA.out]
 clear hx
 by_cases hp:(B0 s).toNat/32%2=1
 ·have hpd:(bits .and .u8 ((B0 s).toNat:Int) 32 != 0)=true:=by rw[pad_bit];exact decide_eq_true hp
  have hq:=(Bl s).toNat_lt
  have jl:∀W:World,(Instr.index 9 (.string s) (.int .i64 ((s.size:Int)-1))).run Tryz.prog W = .ok (.int .u8 ((Bl s).toNat:Int)) W:=fun W=>run_last W s (by omega)
  have HPd:Hid (padPart s A=if(Bl s).toNat=0\/s.size-A<(Bl s).toNat then none else if noughts (s.extract (s.size-(Bl s).toNat) (s.size-1)).data.toList=true then some ((Bl s).toNat,s.size-(Bl s).toNat)else none):=by show _=_;unfold padPart;rw[if_pos hp]
  clear hp
  generalize hqq:(Bl s).toNat=q at *
  have Hqq:=hyd hqq
  clear hqq
  by_cases hq0:q=0
  ·subst hq0
   have HR:Hid (readP s=none):=by
    show _=_
    rw[HP.out,HX.out]
    simp only[Option.bind_some]
    rw[HPd.out,if_pos (.inl rfl)]
    rfl
   go_wp2
   go_step3
   refine jump_here 0 ?_
   go_wp2
   rw[Exit.noGoto_ret]
   refine bodyPost_ret (v:=wrongV) (by simp[results,Tryz.results72,wrongV,go_sem,r0,r1,r2,r3,r4,r5,r6,r7,r8,r9,r10]) rfl ⟨?_,?_⟩
   ·exact below_fin (((bel.setCell (p:=⟨w.heap.size+1,5,none⟩) (by simp) _).setCell (p:=⟨w.heap.size+1,10,none⟩) (by simp) _))
   ·rw[HR.out]
    rfl
  ·have hq0':((q:Int) == 0)=false:=by simpa using hq0
   by_cases hq1:s.size-A<q
   ·have hq1':(s.size:Int)-(A:Nat)<q:=by omega
    have HR:Hid (readP s=none):=by
     show _=_
     rw[HP.out,HX.out]
     simp only[Option.bind_some]
     rw[HPd.out,if_pos (.inr hq1)]
     rfl
    clear hq0
    go_wp2
    go_step3
    refine jump_here 0 ?_
    go_wp2
    rw[Exit.noGoto_ret]
    refine bodyPost_ret (v:=wrongV) (by simp[results,Tryz.results72,wrongV,go_sem,r0,r1,r2,r3,r4,r5,r6,r7,r8,r9,r10]) rfl ⟨?_,?_⟩
    ·exact below_fin (((bel.setCell (p:=⟨w.heap.size+1,5,none⟩) (by simp) _).setCell (p:=⟨w.heap.size+1,10,none⟩) (by simp) _))
    ·rw[HR.out]
     rfl
   ·have hq1':¬((s.size:Int)-(A:Nat)<q):=by omega
    have hq2:(1:Int)<=q:=by omega
    have hq3:(q:Int)<=s.size:=by omega
    have HPd2:Hid (padPart s A=if noughts (s.extract (s.size-q) (s.size-1)).data.toList=true then some (q,s.size-q)else none):=by show _=_;rw[HPd.out,if_neg (by omega)]
    clear hq0 HPd
    have hz1:s.size-q<=s.size-1:=by omega
    have hz2:A<=s.size-q:=by omega
    have hz3:s.size-q<=s.size:=by omega
    go_wp2_with fail
    refine(allNoughts_any _ _ (by simp only[ByteArray.size_extract];unfold maxLen;omega)).mono ?_
    rintro e w4 ⟨rfl,rfl⟩
    cases hN:noughts (s.extract (s.size-q) (s.size-1)).data.toList with
    | false=>
     have HR:Hid (readP s=none):=by
      show _=_
      rw[HP.out,HX.out]
      simp only[Option.bind_some]
      rw[HPd2.out,hN]
      rfl
     clear hN
     go_wp2
     go_step3
     refine jump_here 0 ?_
     go_wp2
     rw[Exit.noGoto_ret]
     refine bodyPost_ret (v:=wrongV) (by simp[results,Tryz.results72,wrongV,go_sem,r0,r1,r2,r3,r4,r5,r6,r7,r8,r9,r10]) rfl ⟨?_,?_⟩
     ·exact below_fin (((bel.setCell (p:=⟨w.heap.size+1,5,none⟩) (by simp) _).setCell (p:=⟨w.heap.size+1,10,none⟩) (by simp) _))
     ·rw[HR.out]
      rfl
    | true=>
     have HR:Hid (readP s=some (mkP s (0,⟨#[]⟩,A) (q,s.size-q))):=by
      show _=_
      rw[HP.out,HX.out]
      simp only[Option.bind_some]
      rw[HPd2.out,hN]
      rfl
     clear hN
     go_wp2_with fail
     clear bel siz r0 r1 r2 r3 r4 r5 r6 r7 r8 r9 r10 y0 y1 y2 y3 y4 y5 y6 y7 y8 y9 y10 fr fy
     refine(clone_any _ _ (by simp only[ByteArray.size_extract];omega)).mono ?_
     rintro e w9 ⟨rfl,hb9⟩
     have hStn:=((hSt.set5 _).set10 _).below hb9
     have hownn:=((Hown.out.setCell (a:=⟨w.heap.size+1,5,none⟩) (by simp) _).setCell (a:=⟨w.heap.size+1,10,none⟩) (by simp) _).below hb9
     clear hb9 hSt Hown
     have Hown:=hyd hownn
     clear hownn
     have hSt:=hStn
     obtain⟨bel,siz,r0,r1,r2,r3,r4,r5,r6,r7,r8,r9,r10,y0,y1,y2,y3,y4,y5,y6,y7,y8,y9,y10,fr,fy⟩:=hStn
     go_wp2
     simp only[Exit.jump]
     obtain⟨q1,q2⟩:=told_fin (bel.setCell (p:=⟨w.heap.size+1,9,none⟩) (by simp) _) (Hown.out.setCell (a:=⟨w.heap.size+1,9,none⟩) (by simp) _)
     refine bodyPost_ret (v:=.tuple #[.agg #[.bool (decide (128<=(B1 s).toNat)),.int .i64 ((B1 s).toNat%128),.int .i64 (num ((s.data.toList.drop 2).take 2)),.int .i64 (num ((s.data.toList.drop 4).take 4)),.int .i64 (num ((s.data.toList.drop 8).take 4)),.slice ao cl.length cap,.bool false,.int .i64 0,.string ⟨#[]⟩,.string (s.extract A (s.size-q)),.int .i64 q],.int .i64 0]) (by simp[results,Tryz.results72,go_sem,r0,r1,r2,r3,r4,r5,r6,r7,r8,r9,r10]) rfl ⟨?_,?_⟩
     ·exact q1
     ·rw[HR.out]
      refine⟨.slice ao cl.length cap,?_,?_⟩
      ·simp[okV,mkP,hxd]
      ·have e:(mkP s (0,⟨#[]⟩,A) (q,s.size-q)).cl=cl:=by rw[<-Hcl.out,HA.out];rfl
       rw[e]
       exact q2.mono (by omega)
 ·have hpd:(bits .and .u8 ((B0 s).toNat:Int) 32 != 0)=false:=by rw[pad_bit];exact decide_eq_false hp
  have HR:Hid (readP s=some (mkP s (0,⟨#[]⟩,A) (0,s.size))):=by
   show _=_
   rw[HP.out,HX.out]
   simp[padPart,hp]
  clear hp
  go_wp2_with fail
  clear bel siz r0 r1 r2 r3 r4 r5 r6 r7 r8 r9 r10 y0 y1 y2 y3 y4 y5 y6 y7 y8 y9 y10 fr fy
  refine(clone_any _ _ (by simp only[ByteArray.size_extract];omega)).mono ?_
  rintro e w9 ⟨rfl,hb9⟩
  have hStn:=(hSt.set5 _).below hb9
  have hownn:=(Hown.out.setCell (a:=⟨w.heap.size+1,5,none⟩) (by simp) _).below hb9
  clear hb9 hSt Hown
  have Hown:=hyd hownn
  clear hownn
  have hSt:=hStn
  obtain⟨bel,siz,r0,r1,r2,r3,r4,r5,r6,r7,r8,r9,r10,y0,y1,y2,y3,y4,y5,y6,y7,y8,y9,y10,fr,fy⟩:=hStn
  go_wp2
  simp only[Exit.jump]
  obtain⟨q1,q2⟩:=told_fin (bel.setCell (p:=⟨w.heap.size+1,9,none⟩) (by simp) _) (Hown.out.setCell (a:=⟨w.heap.size+1,9,none⟩) (by simp) _)
  refine bodyPost_ret (v:=.tuple #[.agg #[.bool (decide (128<=(B1 s).toNat)),.int .i64 ((B1 s).toNat%128),.int .i64 (num ((s.data.toList.drop 2).take 2)),.int .i64 (num ((s.data.toList.drop 4).take 4)),.int .i64 (num ((s.data.toList.drop 8).take 4)),.slice ao cl.length cap,.bool false,.int .i64 0,.string ⟨#[]⟩,.string (s.extract A s.size),.int .i64 0],.int .i64 0]) (by simp[results,Tryz.results72,go_sem,r0,r1,r2,r3,r4,r5,r6,r7,r8,r9,r10]) rfl ⟨?_,?_⟩
  ·exact q1
  ·rw[HR.out]
   refine⟨.slice ao cl.length cap,?_,?_⟩
   ·simp[okV,mkP,hxd]
   ·have e:(mkP s (0,⟨#[]⟩,A) (0,s.size)).cl=cl:=by rw[<-Hcl.out,HA.out];rfl
    rw[e]
    exact q2.mono (by omega)
end Go.Proofs.YtdjhhnolcafkiaaGreat
namespace Go.Proofs.YtdjhhnolcafkiaaGreat
open Go.RowKit
namespace Pk
def pushE (E:List (Nat × Nat)) (n:Nat):List (Nat × Nat):=
 match E.getLast? with
 | some (f,a)=>if 1<=stepsTo n f/\stepsTo n f<=16 then E.dropLast++[(f,a ||| 2 ^ (stepsTo n f-1))]else E++[(n,0)]
 | none=>[(n,0)]
def entriesF (l:List Int):List (Nat × Nat):=l.foldl (fun E n=>pushE E n.toNat) []
def flatE (E:List (Nat × Nat)):List Value:=E.flatMap fun p=>[.int .u16 p.1,.int .u16 p.2]
theorem flatE_length (E:List (Nat × Nat)):(flatE E).length=E.length*2:=by
 induction E with
 | nil=>rfl
 | cons p E ih=>rw[show flatE (p::E) = .int .u16 p.1::.int .u16 p.2::flatE E from rfl,List.length_cons,List.length_cons,ih,List.length_cons];omega
theorem flatE_snoc (E:List (Nat × Nat)) (p:Nat × Nat):flatE (E++[p])=flatE E++[.int .u16 p.1,.int .u16 p.2]:=by simp[flatE]
theorem flatE_set (E:List (Nat × Nat)) (f a c:Nat):(flatE (E++[(f,a)])).set (E.length*2+1) (.int .u16 c)=flatE (E++[(f,c)]):=by
 rw[flatE_snoc,flatE_snoc,List.set_append_right _ _ (by rw[flatE_length];omega),flatE_length]
 congr 1
 rw[show E.length*2+1-E.length*2=1 by omega]
 rfl
theorem flatE_fst (E:List (Nat × Nat)) (f a:Nat):(flatE (E++[(f,a)]))[E.length*2]? = some (.int .u16 f):=by
 rw[flatE_snoc,List.getElem?_append_right (by rw[flatE_length];omega),flatE_length,Nat.sub_self]
 rfl
theorem flatE_snd (E:List (Nat × Nat)) (f a:Nat):(flatE (E++[(f,a)]))[E.length*2+1]? = some (.int .u16 a):=by
 rw[flatE_snoc,List.getElem?_append_right (by rw[flatE_length];omega),flatE_length,show E.length*2+1-E.length*2=1 by omega]
 rfl
theorem pushE_yes (E:List (Nat × Nat)) (f a n:Nat) (h1:1<=stepsTo n f) (h2:stepsTo n f<=16):pushE (E++[(f,a)]) n=E++[(f,a ||| 2 ^ (stepsTo n f-1))]:=by
 unfold pushE
 rw[List.getLast?_concat]
 simp only
 rw[if_pos ⟨h1,h2⟩,List.dropLast_concat]
theorem pushE_no (E:List (Nat × Nat)) (f a n:Nat) (h:¬(1<=stepsTo n f/\stepsTo n f<=16)):pushE (E++[(f,a)]) n=E++[(f,a)]++[(n,0)]:=by
 unfold pushE
 rw[List.getLast?_concat]
 simp only
 rw[if_neg h]
theorem pushE_nil (n:Nat):pushE [] n=[]++[(n,0)]:=rfl
theorem entriesF_succ (l:List Int) (k:Nat) (h:k<l.length):entriesF (l.take (k+1))=pushE (entriesF (l.take k)) (l.getD k 0).toNat:=by
 unfold entriesF
 rw[List.take_succ_eq_append_getElem h,List.foldl_append]
 simp[List.getD,h]
theorem snoc_cases {α:Type}(E:List α):E=[]\/∃I p,E=I++[p]:=by
 rcases List.eq_nil_or_concat E with h|⟨I,p,h⟩
 ·exact .inl h
 ·exact .inr ⟨I,p,by simpa using h⟩
theorem row_shapeN {W:World}{base e size n:Nat}{v:Value}{xs:List Value}(h:W.ownsRow base e size v n xs):∃ao cap,v = .slice ao n cap:=by
 obtain⟨_,h2|⟨g,cap,cur,rfl,_⟩⟩:=h
 ·exact⟨none,0,by rw[h2.1,h2.2]⟩
 ·exact⟨_,_,rfl⟩
theorem row_some {W:World}{base e size n cap:Nat}{ao:Option Addr}{xs:List Value}(h:W.ownsRow base e size (.slice ao n cap) n xs) (hn:0<n):∃g,ao=some ⟨g,0,none⟩:=by
 obtain⟨_,h2|⟨g,cap',cur,e',_⟩⟩:=h
 ·omega
 ·simp only[Value.slice.injEq]at e'
  exact⟨g,e'.1⟩
def OkE (E:List (Nat × Nat)):Prop:=∀p∈E,p.1<65536/\p.2<65536
theorem or_lt (a d:Nat) (ha:a<65536) (h2:d<=16) (h1:1<=d):a ||| 2 ^ (d-1)<65536:=by
 have h:=pow_lt (d-1) (by omega)
 exact Nat.or_lt_two_pow (n:=16) (by omega) (by omega)
theorem OkE.push {E:List (Nat × Nat)}(h:OkE E) (n:Nat) (hn:n<65536):OkE (pushE E n):=by
 rcases snoc_cases E with rfl|⟨I,⟨f,a⟩,rfl⟩
 ·intro p hp
  simp[pushE_nil]at hp
  subst hp
  exact⟨hn,show 0<65536 by omega⟩
 ·have hl:=h (f,a) (by simp)
  by_cases hc:1<=stepsTo n f/\stepsTo n f<=16
  ·rw[pushE_yes I f a n hc.1 hc.2]
   intro p hp
   rcases List.mem_append.1 hp with hp|hp
   ·exact h p (by simp[hp])
   ·simp at hp
    subst hp
    exact⟨hl.1,or_lt a _ hl.2 hc.2 hc.1⟩
  ·rw[pushE_no I f a n hc]
   intro p hp
   rcases List.mem_append.1 hp with hp|hp
   ·exact h p hp
   ·simp at hp
    subst hp
    exact⟨hn,show 0<65536 by omega⟩
theorem pushE_len (E:List (Nat × Nat)) (n:Nat):(pushE E n).length<=E.length+1/\1<=(pushE E n).length:=by
 rcases snoc_cases E with rfl|⟨I,⟨f,a⟩,rfl⟩
 ·exact⟨Nat.le_refl _,Nat.le_refl _⟩
 ·by_cases hc:1<=stepsTo n f/\stepsTo n f<=16
  ·rw[pushE_yes I f a n hc.1 hc.2];simp
  ·rw[pushE_no I f a n hc];simp
end Pk
open Pk
theorem makeEntries_any (v:Value) (l:List Int) (w:World) (hv:IsInts w.heap.size w v l) (hl:l.length<=300) (hin:∀n∈l,0<=n/\n<=65535) :
  Calls Tryz.prog 123 #[v] w fun e w'=>∃v',e = .returned v'/\w'.ownsRow w.heap.size 205 2 v' (entriesF l).length (flatE (entriesF l))/\Below w.heap.size w w'/\OkE (entriesF l)/\(entriesF l).length<=l.length:=by
 obtain⟨ao,cap,rfl,hc⟩:=hv
 have Hc:=hyd hc
 have Hin:=hyd hin
 clear hc hin
 have hinfo:(Tryz.prog.info? 205).map (fun i=>(i.zero,i.size,i.bytes))=some (some (.agg #[.int .u16 0,.int .u16 0]),2,4):=by kernel_rfl
 obtain⟨i0,hi,hz0,hz1,hz2⟩:=info_parts hinfo
 have Hi:Hid (Tryz.prog.info? 205=some i0/\i0.zero=some (.agg #[.int .u16 0,.int .u16 0])/\i0.size=2/\i0.bytes=4):=⟨hi,hz0,hz1,hz2⟩
 clear hi hz0 hz1 hz2 hinfo
 go_enter Tryz.func123,Tryz.ntmps123
 go_wp2
 go_loopw [3,9] (fun s3 s9 wr=>∃k:Nat,k<=l.length/\s9 = .int .i64 k/\wr.ownsRow w.heap.size 205 2 s3 (entriesF (l.take k)).length (flatE (entriesF (l.take k)))/\Below w.heap.size w wr/\OkE (entriesF (l.take k))/\(entriesF (l.take k)).length<=k) (fun _ s9 _=>l.length-(intOf s9).toNat)
 case atStart=>exact⟨0,Nat.zero_le _,rfl,World.ownsRow_nil _ _ _ _,Below.refl _ _,(by intro p hp;simp[entriesF]at hp),Nat.le_refl _⟩
 case round=>
  obtain⟨k,hk,rfl,hrow,hb,hok,hEk⟩:=hrel
  by_cases hlt:k<l.length
  ·obtain⟨b,off,rfl,hbb,hcell⟩:=Hc.out k hlt
   have hcr:wr.cell? ⟨b,off+k,none⟩=some (.int .i64 (l.getD k 0)):=(hb.cell (p:=⟨b,off+k,none⟩) hbb).trans hcell
   have hq:=Hin.out (l.getD k 0) (by simp[List.getD,hlt])
   have Hsc:Hid (entriesF (l.take (k+1))=pushE (entriesF (l.take k)) (l.getD k 0).toNat):=entriesF_succ l k hlt
   obtain⟨q,hqq⟩:∃q:Nat,l.getD k 0=(q:Int):=⟨(l.getD k 0).toNat,by omega⟩
   rw[hqq]at hcr hq Hsc
   rw[Int.toNat_natCast]at Hsc
   have hq2:q<65536:=by omega
   have hwq:IntKind.u16.wrap (q:Int)=(q:Int):=by simp[IntKind.wrap,IntKind.signed,IntKind.bits];omega
   clear hcell hqq hq
   have Hok1:=hok.push q hq2
   have Hlen1:=pushE_len (entriesF (l.take k)) q
   rw[<-Hsc.out]at Hok1 Hlen1
   have HOK:=hyd Hok1
   have HLN:Hid ((entriesF (l.take (k+1))).length<=k+1):=by show _<=_;omega
   clear Hok1 Hlen1
   generalize hE1:entriesF (l.take (k+1))=E1 at *
   have HEQ:=hyd hE1
   clear hE1
   have hlt':(k:Int)<l.length:=by omega
   rcases snoc_cases (entriesF (l.take k))with hE|⟨I,⟨f,a⟩,hE⟩
   ·rw[hE]at hrow
    obtain⟨a1,c1,rfl⟩:=row_shapeN hrow
    have Hrow:=hyd hrow
    have HE1:Hid (E1=[]++[(q,0)]):=by show _=_;rw[Hsc.out,hE,pushE_nil]
    clear hrow hok hE Hsc hEk
    go_wp2_with (at_builtin;(
     refine wpList_append_own _ rfl (.tmp 27) (.tmp 31) 201 rfl w.heap.size 205 i0 (.agg #[.int .u16 0,.int .u16 0]) 2 4 Tryz.underlying201 Hi.out.1 Hi.out.2.1 Hi.out.2.2.1 Hi.out.2.2.2 rfl (by decide) _ 0 [] rfl (World.ownsRow.alloc Hrow.out _) _ 1 1 [.int .u16 q,.int .u16 0] rfl rfl (cells_new _ [.int .u16 q,.int .u16 0] _) ?_ ?_ ?_ ?_ ?_
     ·intro u hu;simp at hu;rcases hu with rfl|rfl<;>rfl
     ·unfold maxLen;omega
     ·omega
     ·have:=hb.size;simp;omega
     intro v' w1 hown' hgrow _
     refine stop_here ?_))
    have R1:Hid (w1.ownsRow w.heap.size 205 2 v' E1.length (flatE E1)):=by show World.ownsRow _ _ _ _ _ _ _;rw[HE1.out];exact hown'
    have R2:Hid (Below w.heap.size w w1):=(hb.alloc hb.size _).grown hgrow (by have:=hb.size;simp;omega) (fun g hg=>(World.ownsRow.lt Hrow.out g hg).1)
    clear hown' hgrow
    refine hid_in ?_
    go_wp2
    go_roundw
    case rel=>exact⟨k+1,by omega,by go_num,by rw[HEQ.out];exact R1.out,R2.out,by rw[HEQ.out];exact HOK.out,by rw[HEQ.out];exact HLN.out⟩
    case measure=>simp[intOf];omega
   ·rw[hE]at hrow hok hEk
    rw[List.length_append,List.length_singleton]at hrow hEk
    obtain⟨a1,c1,rfl⟩:=row_shapeN hrow
    obtain⟨g,rfl⟩:=row_some hrow (by omega)
    have d0:wr.cell? ⟨g,I.length*2,none⟩=some (.int .u16 f):=(hrow.cellAt (I.length*2) (by omega)).trans (flatE_fst I f a)
    have d1:wr.cell? ⟨g,I.length*2+1,none⟩=some (.int .u16 a):=(hrow.cellAt (I.length*2+1) (by omega)).trans (flatE_snd I f a)
    have fz:∀j,wr.frozen? ⟨g,j,none⟩=false:=fun j=>hrow.frozenAt j
    have hfa:=hok (f,a) (by simp)
    have Hrow:=hyd hrow
    have hlast:((I.length+1:Nat):Int)-1=(I.length:Int):=by omega
    have hge:¬(I.length:Int)<0:=by omega
    have hgb:w.heap.size<=g:=(hrow.lt g rfl).1
    clear hrow hok
    by_cases hst:1<=stepsTo q f/\stepsTo q f<=16
    ·have HE1:Hid (E1=I++[(f,a ||| 2 ^ (stepsTo q f-1))]):=by show _=_;rw[Hsc.out,hE,pushE_yes I f a q hst.1 hst.2]
     clear Hsc hE
     go_wp2_with fail
     refine(take_yes g (I.length*2) f a q _ d0 d1 fz hfa.1 hfa.2 hq2 hst.1 hst.2).mono ?_
     rintro e w1 ⟨rfl,rfl⟩
     have R1:Hid ((wr.setCell ⟨g,I.length*2+1,none⟩ (.int .u16 ((a ||| 2 ^ (stepsTo q f-1):Nat):Int))).ownsRow w.heap.size 205 2 (.slice (some ⟨g,0,none⟩) (I.length+1) c1) E1.length (flatE E1)):=by
      show World.ownsRow _ _ _ _ _ _ _
      rw[HE1.out,<-flatE_set I f a]
      have h:=(Hrow.out.stored (I.length*2+1) (.int .u16 ((a ||| 2 ^ (stepsTo q f-1):Nat):Int))).1
      simpa using h
     have R2:Hid (Below w.heap.size w (wr.setCell ⟨g,I.length*2+1,none⟩ (.int .u16 ((a ||| 2 ^ (stepsTo q f-1):Nat):Int)))):=hb.setCell (p:=⟨g,I.length*2+1,none⟩) hgb _
     have R3:Hid (E1.length=I.length+1):=by show _=_;rw[HE1.out];simp
     go_wp2
     go_roundw
     case rel=>exact⟨k+1,by omega,by go_num,by rw[HEQ.out];exact R1.out,R2.out,by rw[HEQ.out];exact HOK.out,by rw[HEQ.out];exact HLN.out⟩
     case measure=>simp[intOf];omega
    ·have HE1:Hid (E1=I++[(f,a)]++[(q,0)]):=by show _=_;rw[Hsc.out,hE,pushE_no I f a q hst]
     clear Hsc hE
     go_wp2_with fail
     refine(take_no g (I.length*2) f q _ d0 hfa.1 hq2 hst).mono ?_
     rintro e w1 ⟨rfl,rfl⟩
     go_wp2_with (at_builtin;(
      refine wpList_append_own _ rfl (.tmp 27) (.tmp 31) 201 rfl w.heap.size 205 i0 (.agg #[.int .u16 0,.int .u16 0]) 2 4 Tryz.underlying201 Hi.out.1 Hi.out.2.1 Hi.out.2.2.1 Hi.out.2.2.2 rfl (by decide) _ (I.length+1) (flatE (I++[(f,a)])) rfl (World.ownsRow.alloc Hrow.out _) _ 1 1 [.int .u16 q,.int .u16 0] rfl rfl (cells_new _ [.int .u16 q,.int .u16 0] _) ?_ ?_ ?_ ?_ ?_
      ·intro u hu;simp at hu;rcases hu with rfl|rfl<;>rfl
      ·unfold maxLen;omega
      ·omega
      ·have:=hb.size;simp;omega
      intro v' w2 hown' hgrow _
      refine stop_here ?_))
     have R1:Hid (w2.ownsRow w.heap.size 205 2 v' E1.length (flatE E1)):=by
      show World.ownsRow _ _ _ _ _ _ _
      rw[HE1.out,flatE_snoc,List.length_append,List.length_append]
      exact hown'
     have R2:Hid (Below w.heap.size w w2):=(hb.alloc hb.size _).grown hgrow (by have:=hb.size;simp;omega) (fun g hg=>(World.ownsRow.lt Hrow.out g hg).1)
     clear hown' hgrow
     refine hid_in ?_
     go_wp2
     go_roundw
     case rel=>exact⟨k+1,by omega,by go_num,by rw[HEQ.out];exact R1.out,R2.out,by rw[HEQ.out];exact HOK.out,by rw[HEQ.out];exact HLN.out⟩
     case measure=>simp[intOf];omega
  ·have hke:k=l.length:=by omega
   have hlt':¬(k:Int)<l.length:=by omega
   rw[hke,List.take_of_length_le (Nat.le_refl _)]at hrow hok hEk
   have G1:=hyd hok
   have G2:=hyd hEk
   clear hok hEk
   go_wp2
   go_ret
   exact⟨_,rfl,hrow,hb,G1.out,G2.out⟩
end Go.Proofs.YtdjhhnolcafkiaaGreat
namespace Go.Proofs.YtdjhhnolcafkiaaGreat
open Go.RowKit
theorem headFits_any (mk ex:Bool) (ty nu ti so pr pa:Int) (cv:Value) (cl:List Int) (en py:ByteArray) (w:World) (B:Nat) (hBw:B<=w.heap.size) (hv:Pk.IsInts B w cv cl) (hl:cl.length<=17592186044416) :
  Calls Tryz.prog 107 #[.agg #[.bool mk,.int .i64 ty,.int .i64 nu,.int .i64 ti,.int .i64 so,cv,.bool ex,.int .i64 pr,.string en,.string py,.int .i64 pa]] w
   fun e w'=>e = .returned (.bool (Pk.headOk ty nu ti so cl))/\Below w.heap.size w w':=by
 have hvo:∀o,Pk.IsInts B (w.alloc o) cv cl:=fun o=>hv.alloc hBw o
 have Hv:Hid (∀o,Pk.IsInts B (w.alloc o) cv cl):=hvo
 clear hvo
 obtain⟨ao,cap,rfl,_⟩:=hv
 go_enter Tryz.func107,Tryz.ntmps107
 go_wp2_with (first
  | (go_at_call 109;refine(within_any _ _ _).mono ?_;rintro e w' ⟨rfl,rfl⟩)
  | (go_at_call 128;refine(allWithin_any B _ cl _ _ ?_ hl).mono ?_;exact Hv.out _;rintro e w' ⟨rfl,rfl⟩))
 all_goals go_ret
 all_goals refine⟨Pk.ret_bool ?_,?_⟩
 all_goals first|exact(Below.refl _ _).alloc (Nat.le_refl _) _|skip
 all_goals unfold Pk.headOk
 all_goals first
  | (rw[decide_eq_false ‹¬(0<=ty/\ty<=127)›];simp)
  | (rw[decide_eq_false ‹¬(0<=nu/\nu<=65535)›];simp)
  | (rw[decide_eq_false ‹¬(0<=ti/\ti<=4294967295)›];simp)
  | (rw[decide_eq_false ‹¬(0<=so/\so<=4294967295)›];simp)
  | (rw[decide_eq_false (p:=cl.length<=15) (by omega)];simp)
  | (rw[decide_eq_true ‹0<=ty/\ty<=127›,decide_eq_true ‹0<=nu/\nu<=65535›,decide_eq_true ‹0<=ti/\ti<=4294967295›,decide_eq_true ‹0<=so/\so<=4294967295›,decide_eq_true (p:=cl.length<=15) (by omega)];simp)
theorem extensionFits_any (mk ex:Bool) (ty nu ti so pr pa:Int) (cv:Value) (en py:ByteArray) (w:World) (hen:en.size<=maxLen) :
  Calls Tryz.prog 108 #[.agg #[.bool mk,.int .i64 ty,.int .i64 nu,.int .i64 ti,.int .i64 so,cv,.bool ex,.int .i64 pr,.string en,.string py,.int .i64 pa]] w
   fun e w'=>e = .returned (.bool (Pk.extOk ex pr en))/\Below w.heap.size w w':=by
 unfold maxLen at hen
 cases ex
 all_goals
  go_enter Tryz.func108,Tryz.ntmps108
  go_wp2_with (first
   | (go_at_call 109;refine(within_any _ _ _).mono ?_;rintro e w' ⟨rfl,rfl⟩))
 all_goals go_ret
 all_goals refine⟨Pk.ret_bool ?_,(Below.refl _ _).alloc (Nat.le_refl _) _⟩
 all_goals first|rw[Pk.extOk_no]|rw[Pk.extOk_yes]
 all_goals first
  | (rw[decide_eq_false ‹¬pr=0›];rfl)
  | (rw[decide_eq_false ‹¬(0<=pr/\pr<=65535)›];rfl)
  | (rw[decide_eq_true ‹pr=0›,Bool.true_and];exact Pk.isEmpty_size en)
  | (rw[decide_eq_true ‹0<=pr/\pr<=65535›,Bool.true_and,Bool.eq_iff_iff];simp;omega)
theorem packetLength_any (mk ex:Bool) (ty nu ti so pr pa:Int) (ao:Option Addr) (n cap:Nat) (en py:ByteArray) (w:World) (hen:en.size<=140737488355328) (hpy:py.size<=140737488355328) (hn:n<=15) (hp0:0<=pa) (hp1:pa<=255) :
  Calls Tryz.prog 110 #[.agg #[.bool mk,.int .i64 ty,.int .i64 nu,.int .i64 ti,.int .i64 so,.slice ao n cap,.bool ex,.int .i64 pr,.string en,.string py,.int .i64 pa]] w
   fun e w'=>e = .returned (.int .i64 (12+4*n+py.size+pa+if ex then 4+en.size else 0))/\Below w.heap.size w w':=by
 cases ex
 all_goals
  go_enter Tryz.func110,Tryz.ntmps110
  go_wp2
  go_ret
  refine⟨Pk.ret_int ?_,(Below.refl _ _).alloc (Nat.le_refl _) _⟩
  simp<;>omega
end Go.Proofs.YtdjhhnolcafkiaaGreat
namespace Go.Proofs.YtdjhhnolcafkiaaGreat
open Go.RowKit Pk
theorem addNumber_any (base g n cap:Nat) (l:List UInt8) (x:Nat) (k:Nat) (w:World) (_hx:x<4294967296) (hk:k<=4) (hroom:n+k<=cap) (hB:Buf w base g n cap l) :
  Calls Tryz.prog 124 #[.slice (some ⟨g,0,none⟩) n cap,.int .i64 x,.int .i64 k] w fun e w'=>
   e = .returned (.slice (some ⟨g,0,none⟩) (n+k) cap)/\Buf w' base g (n+k) cap (l++told x k)/\w.grownBy w' (some g):=by
 go_enter Tryz.func124,Tryz.ntmps124
 go_wp2
 go_loopw [0,9] (fun v i wr=>∃j:Nat,j<=k/\i = .int .i64 j/\v = .slice (some ⟨g,0,none⟩) (n+j) cap/\Buf wr base g (n+j) cap (l++(told x k).take j)/\w.grownBy wr (some g)) (fun _ i _=>k-(intOf i).toNat)
 case atStart=>exact⟨0,Nat.zero_le _,rfl,rfl,by simpa using hB,World.grownBy.refl _ _⟩
 case round=>
  obtain⟨j,hj,rfl,rfl,hBr,hgr⟩:=hrel
  by_cases hlt:j<k
  ·have hb:=byte_at x (k-1-j)
   have Hb:Hid ((x:Int)/2 ^ (8*(k-1-j))%256=((UInt8.ofNat (x/256 ^ (k-1-j)%256)).toNat:Int)):=hb
   clear hb
   go_wp2_with (at_builtin;refine wl_bytes rfl (.tmp 12) (.tmp 21) rfl rfl (hBr.alloc _) _ 1 1 [UInt8.ofNat (x/256 ^ (k-1-j)%256)] rfl rfl (new_one _ _ rfl _ _ _ (congrArg (Value.int .u8) Hb.out)) (by omega) ?_;intro w1 hB1 hg1)
   have R:=hg1
   go_roundw
   case rel=>exact⟨j+1,by omega,by go_num,rfl,by rw[told_take x k j hlt,<-List.append_assoc];exact hB1,grown_trans hgr (grown_trans (World.grownBy_alloc _ _ _) hg1)⟩
   case measure=>simp[intOf];omega
  ·go_wp2
   go_ret
   have e:j=k:=by omega
   subst e
   refine⟨rfl,?_,hgr⟩
   rw[List.take_of_length_le (by rw[told_length];exact Nat.le_refl _)]at hBr
   exact hBr
theorem addNumber_int (base g n cap:Nat) (l:List UInt8) (x:Int) (k:Nat) (w:World) (hx0:0<=x) (hx:x<4294967296) (hk:k<=4) (hroom:n+k<=cap) (hB:Buf w base g n cap l) :
  Calls Tryz.prog 124 #[.slice (some ⟨g,0,none⟩) n cap,.int .i64 x,.int .i64 k] w fun e w'=>
   e = .returned (.slice (some ⟨g,0,none⟩) (n+k) cap)/\Buf w' base g (n+k) cap (l++told x.toNat k)/\w.grownBy w' (some g):=by
 obtain⟨q,rfl⟩:=Int.eq_ofNat_of_zero_le hx0
 rw[Int.toNat_natCast]
 exact addNumber_any base g n cap l q k w (by omega) hk hroom hB
theorem addPadding_any (base g n cap:Nat) (l:List UInt8) (p:Nat) (w:World) (hp:p<=255) (hroom:n+p<=cap) (hB:Buf w base g n cap l) :
  Calls Tryz.prog 113 #[.slice (some ⟨g,0,none⟩) n cap,.int .i64 p] w fun e w'=>
   e = .returned (.slice (some ⟨g,0,none⟩) (n+p) cap)/\Buf w' base g (n+p) cap (l++padB p)/\w.grownBy w' (some g):=by
 by_cases h0:p=0
 ·subst h0
  go_enter Tryz.func113,Tryz.ntmps113
  go_wp2
  go_ret
  exact⟨rfl,by simpa[padB]using hB,World.grownBy.refl _ _⟩
 ·obtain⟨m,hm⟩:∃m,p=m+1:=⟨p-1,by omega⟩
  subst hm
  have Hp:Hid (padB (m+1)=List.replicate m 0++[UInt8.ofNat (m+1)]):=by show _=_;simp[padB]
  have hne:(((m+1:Nat):Int) == 0)=false:=by simp;omega
  have Hb:Hid (((m:Int)+1)=((UInt8.ofNat (m+1)).toNat:Int)):=by
   show _=_
   rw[UInt8.toNat_ofNat'];omega
  clear h0
  go_enter Tryz.func113,Tryz.ntmps113
  go_wp2_with (first
   | (at_builtin;refine wl_zeros rfl (.tmp 8) (.tmp 10) rfl rfl hB _ m ?_ (by omega) rfl (by omega) ?_;(first|rfl|omega);intro w1 hB1 hg1)
   | (at_builtin;refine wl_bytes rfl (.tmp 12) (.tmp 15) rfl rfl (hB1.alloc _) _ 1 1 [UInt8.ofNat (m+1)] rfl rfl (new_one _ _ rfl _ _ _ (congrArg (Value.int .u8) Hb.out)) (by omega) ?_;intro w2 hB2 hg2))
  go_ret
  refine⟨rfl,?_,grown_trans hg1 (grown_trans (World.grownBy_alloc _ _ _) hg2)⟩
  rw[Hp.out,<-List.append_assoc]
  exact hB2
theorem addExtension_any (base g n cap:Nat) (l:List UInt8) (mk ex:Bool) (ty nu ti so pa:Int) (pr:Nat) (cv:Value) (en py:ByteArray) (w:World)
  (hpr:pr<65536) (hen:en.size<=2000) (hroom:n+(if ex then 4+en.size else 0)<=cap) (hB:Buf w base g n cap l) :
  Calls Tryz.prog 112 #[.slice (some ⟨g,0,none⟩) n cap,.agg #[.bool mk,.int .i64 ty,.int .i64 nu,.int .i64 ti,.int .i64 so,cv,.bool ex,.int .i64 pr,.string en,.string py,.int .i64 pa]] w fun e w'=>
   e = .returned (.slice (some ⟨g,0,none⟩) (n+(if ex then 4+en.size else 0)) cap)/\Buf w' base g (n+(if ex then 4+en.size else 0)) cap (l++extB ex pr en.data.toList)/\w.grownBy w' (some g):=by
 cases ex
 ·go_enter Tryz.func112,Tryz.ntmps112
  go_wp2
  go_ret
  exact⟨rfl,by simpa[extB]using hB.alloc _,World.grownBy_alloc _ _ _⟩
 ·have hroom':n+4+en.size<=cap:=by simpa[Nat.add_assoc]using hroom
  have hne:w.heap.size≠g:=by have:=hB.lt;omega
  clear hroom
  have Hx:Hid (extB true pr en.data.toList=told pr 2++told (en.size/4) 2++en.data.toList):=by show _=_;rw[Lib.size_eq];rfl
  go_enter Tryz.func112,Tryz.ntmps112
  go_wp2_with fail
  refine(addNumber_any base g n cap l pr 2 _ (by omega) (by omega) (by omega) (hB.alloc _)).mono ?_
  rintro e w1 ⟨rfl,hB1,hg1⟩
  have hc1:∀o,w1.cell? ⟨w.heap.size,o,none⟩=_:=fun o=>World.cell?_of_block (a:=⟨w.heap.size,o,none⟩) (hg1.block w.heap.size (by simp) (by simpa using hne))
  go_wp2_with fail
  refine(addNumber_int base g (n+2) cap _ _ 2 _ (by omega) (by omega) (by omega) (by omega) hB1).mono ?_
  rintro e w2 ⟨rfl,hB2,hg2⟩
  have hc2:∀o,w2.cell? ⟨w.heap.size,o,none⟩=w1.cell? ⟨w.heap.size,o,none⟩:=fun o=>World.cell?_of_block (a:=⟨w.heap.size,o,none⟩) (hg2.block w.heap.size (by have:=hg1.size;simp at this;omega) (by simpa using hne))
  go_wp2_with (at_builtin;refine wl_string rfl (.tmp 19) (.tmp 21) rfl rfl hB2 en rfl (by omega) ?_;intro w3 hB3 hg3)
  go_ret
  refine⟨?_,?_,grown_trans (World.grownBy_alloc _ _ _) (grown_trans hg1 (grown_trans hg2 hg3))⟩
  ·simp[Nat.add_assoc]
  ·have e:(((en.size:Int)/4).toNat)=en.size/4:=by omega
   rw[e]at hB3
   rw[Hx.out]
   simpa[Nat.add_assoc,List.append_assoc]using hB3
theorem box_kept {w w':World}{g:Nat}(h:w.grownBy w' (some g)) (b:Nat) (hb:b<w.heap.size) (hne:b≠g):∀o,w'.cell? ⟨b,o,none⟩=w.cell? ⟨b,o,none⟩:=
 fun o=>World.cell?_of_block (a:=⟨b,o,none⟩) (h.block b hb (by simpa using hne))
theorem addHead_any (base g n cap:Nat) (l:List UInt8) (mk ex pd:Bool) (ty nu ti so pa:Nat) (pr:Int) (cv:Value) (cl:List Int) (en py:ByteArray) (w:World)
  (hty:ty<=127) (hnu:nu<=65535) (hti:ti<=4294967295) (hso:so<=4294967295) (hcl:cl.length<=15) (hci:allIn cl 4294967295=true) (hv:IsInts base w cv cl)
  (hroom:n+(12+4*cl.length)<=cap) (hpd0:pd=decide (0<pa)) (hB:Buf w base g n cap l) :
  Calls Tryz.prog 111 #[.slice (some ⟨g,0,none⟩) n cap,.agg #[.bool mk,.int .i64 ty,.int .i64 nu,.int .i64 ti,.int .i64 so,cv,.bool ex,.int .i64 pr,.string en,.string py,.int .i64 pa]] w fun e w'=>
   e = .returned (.slice (some ⟨g,0,none⟩) (n+(12+4*cl.length)) cap)/\Buf w' base g (n+(12+4*cl.length)) cap (l++headB cl.length mk pd ex ty nu ti so++conB cl)/\w.grownBy w' (some g):=by
 have hne:w.heap.size≠g:=by have:=hB.lt;omega
 have hbg:base<=g:=hB.at.2.1
 have hBw:base<=w.heap.size:=by have:=hB.lt;omega
 obtain⟨ao,cap2,rfl,hc⟩:=hv
 have Hc:Hid (∀j,j<cl.length->∃b off,ao=some ⟨b,off,none⟩/\b<base/\w.cell? ⟨b,off+j,none⟩=some (.int .i64 (cl.getD j 0))):=hc
 have Hi:Hid (allIn cl 4294967295=true):=hci
 have HB:Hid (Buf w base g n cap l):=hB
 clear hc hci
 have e1:=or_n cl.length hcl
 have e2:=or_32 cl.length hcl
 have e3:=or_16 cl.length hcl
 have e4:=or_48 cl.length hcl
 have e5:=or_128 ty hty
 clear hB
 have hcase:(pd=true/\0<pa)\/(pd=false/\pa=0):=by
  cases pd
  ·exact .inr ⟨rfl,by have:=of_decide_eq_false hpd0.symm;omega⟩
  ·exact .inl ⟨rfl,of_decide_eq_true hpd0.symm⟩
 clear hpd0
 rcases Bool.eq_false_or_eq_true ex with hex|hex<;>rcases Bool.eq_false_or_eq_true mk with hmk|hmk<;>rcases hcase with⟨hpd,hpa⟩|⟨hpd,hpa⟩
 all_goals
  go_enter Tryz.func111,Tryz.ntmps111
  go_wp2_with (at_builtin;refine wl_bytes rfl (.tmp 28) (.tmp 33) rfl rfl (HB.out.alloc _ |>.alloc _) _ 2 2 [hdB cl.length pd ex,tyB ty mk] rfl rfl (new_two _ _ (by simp) _ _ _ _ _ ?_ ?_) (by omega) ?_;exact hd_val (pad:=pd) (ex:=ex) hcl (by simp[hpd,hex]<;>omega);exact ty_val (mk:=mk) hty (by simp[hmk]);intro w1 hB1 hg1;have hc1:=box_kept (g:=g) (grown_trans (World.grownBy_alloc _ _ _) hg1) w.heap.size (by simp) hne;clear e1 e2 e3 e4 e5)
  have hs1:w.heap.size<w1.heap.size:=by have:=hg1.size;simp at this;omega
  refine(addNumber_any base g (n+2) cap _ nu 2 _ (by omega) (by omega) (by omega) hB1).mono ?_
  rintro e w2 ⟨rfl,hB2,hg2⟩
  have hs2:w.heap.size<w2.heap.size:=Nat.lt_of_lt_of_le hs1 hg2.size
  have hc2:=box_kept hg2 w.heap.size hs1 hne
  go_wp2_with fail
  refine(addNumber_any base g (n+2+2) cap _ ti 4 _ (by omega) (by omega) (by omega) hB2).mono ?_
  rintro e w3 ⟨rfl,hB3,hg3⟩
  have hs3:w.heap.size<w3.heap.size:=Nat.lt_of_lt_of_le hs2 hg3.size
  have hc3:=box_kept hg3 w.heap.size hs2 hne
  go_wp2_with fail
  refine(addNumber_any base g (n+2+2+4) cap _ so 4 _ (by omega) (by omega) (by omega) hB3).mono ?_
  rintro e w4 ⟨rfl,hB4,hg4⟩
  have hc4:=box_kept hg4 w.heap.size hs3 hne
  have hg:w.grownBy w4 (some g):=grown_trans (World.grownBy_alloc _ _ _) (grown_trans (World.grownBy_alloc _ _ _) (grown_trans hg1 (grown_trans hg2 (grown_trans hg3 hg4))))
  have HB4:Hid (Buf w4 base g (n+12+4*0) cap (l++headB cl.length mk pd ex ty nu ti so++conB (cl.take 0))):=by
   have h:=hB4
   simp only[Nat.add_assoc,List.append_assoc]at h
   simpa[Hid,headB,conB,Nat.add_assoc,List.append_assoc]using h
  go_wp2
  clear hc1 hc2 hc3 hc4 hg1 hg2 hg3 hg4 hB1 hB2 hB3 hB4 hs1 hs2 hs3
  go_loopw [0,50] (fun v i wr=>∃j:Nat,j<=cl.length/\i = .int .i64 j/\v = .slice (some ⟨g,0,none⟩) (n+12+4*j) cap/\Buf wr base g (n+12+4*j) cap (l++headB cl.length mk pd ex ty nu ti so++conB (cl.take j))/\w.grownBy wr (some g)) (fun _ i _=>cl.length-(intOf i).toNat)
  case atStart=>exact⟨0,Nat.zero_le _,rfl,rfl,HB4.out,hg⟩
  case round=>
   obtain⟨j,hj,rfl,rfl,hBr,hgr⟩:=hrel
   by_cases hlt:j<cl.length
   ·obtain⟨b,off,rfl,hb,hcell⟩:=Hc.out j hlt
    have hcr:wr.cell? ⟨b,off+j,none⟩=some (.int .i64 (cl.getD j 0)):=(box_kept hgr b (by omega) (by omega) (off+j)).trans hcell
    clear hcell
    have Hq:=allIn_at cl j _ hlt Hi.out
    have Ht:Hid (conB (cl.take (j+1))=conB (cl.take j)++told (cl.getD j 0).toNat 4):=conB_take cl j hlt
    generalize cl.getD j 0=q at *
    go_wp2_with fail
    refine(addNumber_int base g (n+12+4*j) cap _ q 4 _ (by omega) (by omega) (by omega) (by omega) hBr).mono ?_
    rintro e w5 ⟨rfl,hB5,hg5⟩
    go_wp2
    go_roundw
    case rel=>exact⟨j+1,by omega,by go_num,rfl,by rw[Ht.out,<-List.append_assoc];exact hB5,grown_trans hgr hg5⟩
    case measure=>simp[intOf];omega
   ·have e:j=cl.length:=by omega
    subst e
    go_wp2
    go_ret
    rw[List.take_length]at hBr
    exact⟨ret_slice (by omega),by rw[<-Nat.add_assoc];exact hBr,hgr⟩
theorem box_below {w w':World}{B:Nat}(h:Below B w w') (b:Nat) (hb:b<B):∀o,w'.cell? ⟨b,o,none⟩=w.cell? ⟨b,o,none⟩:=
 fun o=>h.cell (p:=⟨b,o,none⟩) hb
theorem ret_two {a b:ByteArray}{x y:Int}(h:a=b) (k:x=y):Ending.returned (.tuple #[.string a,.int .i64 x]) = .returned (.tuple #[.string b,.int .i64 y]):=by rw[h,k]
theorem packetLength_p (mk ex:Bool) (ty nu ti so pr pa:Int) (ao:Option Addr) (cl:List Int) (cap:Nat) (en py:ByteArray) (w:World) (hen:en.size<=140737488355328) (hpy:py.size<=140737488355328) (hn:cl.length<=15) (hp0:0<=pa) (hp1:pa<=255) :
  Calls Tryz.prog 110 #[.agg #[.bool mk,.int .i64 ty,.int .i64 nu,.int .i64 ti,.int .i64 so,.slice ao cl.length cap,.bool ex,.int .i64 pr,.string en,.string py,.int .i64 pa]] w
   fun e w'=>e = .returned (.int .i64 (plen ex cl en py pa))/\Below w.heap.size w w':=by
 refine(packetLength_any mk ex ty nu ti so pr pa ao cl.length cap en py w hen hpy hn hp0 hp1).mono ?_
 rintro e w' ⟨rfl,h⟩
 refine⟨ret_int ?_,h⟩
 unfold plen
 cases ex<;>simp
theorem box_grown_none {w w':World}(h:w.grownBy w' none) (b:Nat) (hb:b<w.heap.size):∀o,w'.cell? ⟨b,o,none⟩=w.cell? ⟨b,o,none⟩:=
 fun o=>World.cell?_of_block (a:=⟨b,o,none⟩) (h.block b hb (by simp))
theorem extOk_pr {ex:Bool}{pr:Int}{en:ByteArray}(h:extOk ex pr en=true):0<=pr/\pr<=65535:=by
 cases ex
 ·rw[extOk_no,Bool.and_eq_true,decide_eq_true_eq]at h;omega
 ·rw[extOk_yes,Bool.and_eq_true,decide_eq_true_eq]at h;exact h.1
theorem extOk_en {ex:Bool}{pr:Int}{en:ByteArray}(h:extOk ex pr en=true):ex=false->en.size=0:=by
 intro e
 subst e
 rw[extOk_no,Bool.and_eq_true,decide_eq_true_eq,decide_eq_true_eq]at h;exact h.2
theorem write_refused (mk ex:Bool) (ty nu ti so pr pa:Int) (cv:Value) (cl:List Int) (en py:ByteArray) (w:World) (B:Nat) (hBw:B<=w.heap.size) (hv:IsInts B w cv cl) (hl:cl.length<=17592186044416)
  (hen:en.size<=maxLen) (hno:tellOk ex ty nu ti so pr pa cl en=false) :
  Calls Tryz.prog 93 #[.agg #[.bool mk,.int .i64 ty,.int .i64 nu,.int .i64 ti,.int .i64 so,cv,.bool ex,.int .i64 pr,.string en,.string py,.int .i64 pa]] w
   fun e w'=>e = .returned (.tuple #[.string ⟨#[]⟩,.int .i64 2])/\Below w.heap.size w w':=by
 have hvo:∀o,IsInts B (w.alloc o) cv cl:=fun o=>hv.alloc hBw o
 have Hv:Hid (∀o,IsInts B (w.alloc o) cv cl):=hvo
 clear hvo
 obtain⟨ao,cap,rfl,_⟩:=hv
 have Hno:Hid ((headOk ty nu ti so cl && extOk ex pr en && decide (0<=pa/\pa<=255))=false):=hno
 clear hno
 go_enter Tryz.func93,Tryz.ntmps93
 go_wp2_with fail
 refine(headFits_any mk ex ty nu ti so pr pa _ cl en py _ B (by simp;omega) (Hv.out _) hl).mono ?_
 rintro e w1 ⟨rfl,hb1⟩
 have hc1:=box_below hb1 w.heap.size (by simp)
 have hw1:w.heap.size<w1.heap.size:=by have:=hb1.size;simp at this;omega
 have Hb1:Hid (Below w.heap.size w w1):=((Below.refl _ _).alloc (Nat.le_refl _) _).trans (hb1.mono (by simp))
 cases hh:headOk ty nu ti so cl with
 | false=>
  go_wp2
  go_ret2
  exact⟨rfl,Hb1.out⟩
 | true=>
  have Hh:Hid (headOk ty nu ti so cl=true):=hh
  clear hh
  go_wp2_with fail
  refine(extensionFits_any mk ex ty nu ti so pr pa _ en py _ hen).mono ?_
  rintro e w2 ⟨rfl,hb2⟩
  have hc2:=box_below hb2 w.heap.size hw1
  have Hb2:Hid (Below w.heap.size w w2):=Hb1.out.trans (hb2.mono (Nat.le_of_lt hw1))
  cases hx:extOk ex pr en with
  | false=>
   go_wp2
   go_ret2
   exact⟨rfl,Hb2.out⟩
  | true=>
   have hpa:¬(0<=pa/\pa<=255):=by
    have h:=Hno.out
    rw[Hh.out,hx]at h
    simpa using h
   have Hd:Hid (decide (0<=pa/\pa<=255)=false):=decide_eq_false hpa
   clear hx hpa
   go_wp2_with fail
   refine(within_any _ _ _).mono ?_
   rintro e w3 ⟨rfl,rfl⟩
   rw[Hd.out]
   go_wp2
   go_ret2
   exact⟨rfl,Hb2.out⟩
theorem write_long (mk ex:Bool) (ty nu ti so pr pa:Int) (cv:Value) (cl:List Int) (en py:ByteArray) (w:World) (B:Nat) (hBw:B<=w.heap.size) (hv:IsInts B w cv cl) (hl:cl.length<=17592186044416)
  (hen:en.size<=140737488355328) (hpy:py.size<=140737488355328) (hok:tellOk ex ty nu ti so pr pa cl en=true) (hlen:1500<plen ex cl en py pa) :
  Calls Tryz.prog 93 #[.agg #[.bool mk,.int .i64 ty,.int .i64 nu,.int .i64 ti,.int .i64 so,cv,.bool ex,.int .i64 pr,.string en,.string py,.int .i64 pa]] w
   fun e w'=>e = .returned (.tuple #[.string ⟨#[]⟩,.int .i64 1])/\Below w.heap.size w w':=by
 have hvo:∀o,IsInts B (w.alloc o) cv cl:=fun o=>hv.alloc hBw o
 have Hv:Hid (∀o,IsInts B (w.alloc o) cv cl):=hvo
 clear hvo
 obtain⟨ao,cap,rfl,_⟩:=hv
 simp only[tellOk,Bool.and_eq_true,decide_eq_true_eq]at hok
 obtain⟨⟨hh,hx⟩,hp0,hp1⟩:=hok
 have Hd:Hid (decide (0<=pa/\pa<=255)=true):=decide_eq_true ⟨hp0,hp1⟩
 have Hh:Hid (headOk ty nu ti so cl=true):=hh
 have Hx:Hid (extOk ex pr en=true):=hx
 obtain⟨hty,hnu,hti,hso,hcl,hci⟩:=headOk_of hh
 have Hi:Hid (allIn cl 4294967295=true):=hci
 have Hlen:Hid (1500<plen ex cl en py pa):=hlen
 clear hh hx hci hlen
 go_enter Tryz.func93,Tryz.ntmps93
 go_wp2_with fail
 refine(headFits_any mk ex ty nu ti so pr pa _ cl en py _ B (by simp;omega) (Hv.out _) hl).mono ?_
 rintro e w1 ⟨rfl,hb1⟩
 rw[Hh.out]
 have hc1:=box_below hb1 w.heap.size (by simp)
 have hw1:w.heap.size<w1.heap.size:=by have:=hb1.size;simp at this;omega
 have Hb1:Hid (Below w.heap.size w w1):=((Below.refl _ _).alloc (Nat.le_refl _) _).trans (hb1.mono (by simp))
 go_wp2_with fail
 refine(extensionFits_any mk ex ty nu ti so pr pa _ en py _ (by unfold maxLen;omega)).mono ?_
 rintro e w2 ⟨rfl,hb2⟩
 rw[Hx.out]
 have hc2:=box_below hb2 w.heap.size hw1
 have hw2:w.heap.size<w2.heap.size:=Nat.lt_of_lt_of_le hw1 hb2.size
 have Hb2:Hid (Below w.heap.size w w2):=Hb1.out.trans (hb2.mono (Nat.le_of_lt hw1))
 go_wp2_with fail
 refine(within_any _ _ _).mono ?_
 rintro e w3 ⟨rfl,rfl⟩
 rw[Hd.out]
 go_wp2_with fail
 refine(packetLength_p mk ex ty nu ti so pr pa _ cl _ en py _ hen hpy hcl hp0 hp1).mono ?_
 rintro e w3 ⟨rfl,hb3⟩
 have hc3:=box_below hb3 w.heap.size hw2
 have hw3:w.heap.size<w3.heap.size:=Nat.lt_of_lt_of_le hw2 hb3.size
 have Hb3:Hid (Below w.heap.size w w3):=Hb2.out.trans (hb3.mono (Nat.le_of_lt hw2))
 have hL:=Hlen.out
 generalize plen ex cl en py pa=L at *
 go_wp2
 go_ret2
 exact⟨rfl,Hb3.out⟩
theorem write_ok (mk ex:Bool) (ty nu ti so pr pa:Int) (cv:Value) (cl:List Int) (en py:ByteArray) (w:World) (B:Nat) (hBw:B<=w.heap.size) (hv:IsInts B w cv cl) (hl:cl.length<=17592186044416)
  (hen:en.size<=140737488355328) (hpy:py.size<=140737488355328) (hok:tellOk ex ty nu ti so pr pa cl en=true) (hlen:plen ex cl en py pa<=1500) :
  Calls Tryz.prog 93 #[.agg #[.bool mk,.int .i64 ty,.int .i64 nu,.int .i64 ti,.int .i64 so,cv,.bool ex,.int .i64 pr,.string en,.string py,.int .i64 pa]] w
   fun e w'=>e = .returned (.tuple #[.string ⟨(tellB mk ex ty nu ti so pr pa cl en py).toArray⟩,.int .i64 0])/\Below w.heap.size w w':=by
 have hvo:∀o,IsInts B (w.alloc o) cv cl:=fun o=>hv.alloc hBw o
 have Hv:Hid (∀o,IsInts B (w.alloc o) cv cl):=hvo
 clear hvo
 have Hv0:Hid (IsInts B w cv cl):=hv
 obtain⟨ao,cap,rfl,_⟩:=hv
 simp only[tellOk,Bool.and_eq_true,decide_eq_true_eq]at hok
 obtain⟨⟨hh,hx⟩,hp0,hp1⟩:=hok
 have Hd:Hid (decide (0<=pa/\pa<=255)=true):=decide_eq_true ⟨hp0,hp1⟩
 have Hh:Hid (headOk ty nu ti so cl=true):=hh
 have Hx:Hid (extOk ex pr en=true):=hx
 obtain⟨hty,hnu,hti,hso,hcl,hci⟩:=headOk_of hh
 have Hi:Hid (allIn cl 4294967295=true):=hci
 have hpr:=extOk_pr hx
 have hxl:(if ex then 4+en.size else 0)+(12+4*cl.length)+py.size+pa.toNat<=1500/\en.size<=1500/\py.size<=1500:=by
  unfold plen at hlen
  cases ex
  ·have h2:=extOk_en hx rfl
   simp at hlen ⊢;omega
  ·simp at hlen ⊢;omega
 obtain⟨ty,rfl⟩:=Int.eq_ofNat_of_zero_le hty.1
 obtain⟨nu,rfl⟩:=Int.eq_ofNat_of_zero_le hnu.1
 obtain⟨ti,rfl⟩:=Int.eq_ofNat_of_zero_le hti.1
 obtain⟨so,rfl⟩:=Int.eq_ofNat_of_zero_le hso.1
 obtain⟨pr,rfl⟩:=Int.eq_ofNat_of_zero_le hpr.1
 obtain⟨pa,rfl⟩:=Int.eq_ofNat_of_zero_le hp0
 have Hbytes:Hid (tellB mk ex ty nu ti so pr pa cl en py=headB cl.length mk (decide (0<pa)) ex ty nu ti so++conB cl++extB ex pr en.data.toList++py.data.toList++padB pa):=by
  show _=_
  have e:decide (0<(pa:Int))=decide (0<pa):=by simp
  unfold tellB
  rw[e]
  rfl
 have HL2:Hid ((plen ex cl en py pa).toNat=12+4*cl.length+(if ex then 4+en.size else 0)+py.size+pa):=by
  show _=_
  unfold plen
  cases ex<;>simp<;>omega
 rw[Hbytes.out]
 have Hlen:Hid (plen ex cl en py pa<=1500):=hlen
 clear hh hx hci hlen
 go_enter Tryz.func93,Tryz.ntmps93
 go_wp2_with fail
 refine(headFits_any mk ex _ _ _ _ _ _ _ cl en py _ B (by simp;omega) (Hv.out _) hl).mono ?_
 rintro e w1 ⟨rfl,hb1⟩
 rw[Hh.out]
 have hc1:=box_below hb1 w.heap.size (by simp)
 have hw1:w.heap.size<w1.heap.size:=by have:=hb1.size;simp at this;omega
 have Hb1:Hid (Below w.heap.size w w1):=((Below.refl _ _).alloc (Nat.le_refl _) _).trans (hb1.mono (by simp))
 go_wp2_with fail
 refine(extensionFits_any mk ex _ _ _ _ _ _ _ en py _ (by unfold maxLen;omega)).mono ?_
 rintro e w2 ⟨rfl,hb2⟩
 rw[Hx.out]
 have hc2:=box_below hb2 w.heap.size hw1
 have hw2:w.heap.size<w2.heap.size:=Nat.lt_of_lt_of_le hw1 hb2.size
 have Hb2:Hid (Below w.heap.size w w2):=Hb1.out.trans (hb2.mono (Nat.le_of_lt hw1))
 go_wp2_with fail
 refine(within_any _ _ _).mono ?_
 rintro e w3 ⟨rfl,rfl⟩
 rw[Hd.out]
 go_wp2_with fail
 refine(packetLength_p mk ex _ _ _ _ _ _ _ cl _ en py _ hen hpy hcl hp0 hp1).mono ?_
 rintro e w3 ⟨rfl,hb3⟩
 have hc3:=box_below hb3 w.heap.size hw2
 have hw3:w.heap.size<w3.heap.size:=Nat.lt_of_lt_of_le hw2 hb3.size
 have Hb3:Hid (Below w.heap.size w w3):=Hb2.out.trans (hb3.mono (Nat.le_of_lt hw2))
 have hL:=Hlen.out
 have hL0:12<=plen ex cl en py pa:=by unfold plen;split<;>omega
 obtain⟨L,hLe⟩:∃L:Nat,plen ex cl en py pa=L:=⟨(plen ex cl en py pa).toNat,by omega⟩
 rw[hLe]at hL hL0
 have HLe:Hid (plen ex cl en py pa=L):=hLe
 rw[hLe]
 clear hLe
 have hLn:L=12+4*cl.length+(if ex then 4+en.size else 0)+py.size+pa:=by have h:=HL2.out;rw[HLe.out]at h;simpa using h
 generalize hxe:(if ex then 4+en.size else 0)=xe at *
 have Hxe:Hid ((if ex then 4+en.size else 0)=xe):=hxe
 have HLn:Hid (L=12+4*cl.length+xe+py.size+pa):=hLn
 have hLge:12+4*cl.length+xe+py.size+pa<=L:=Nat.le_of_eq hLn.symm
 clear hxe hLn
 have hinfo:(Tryz.prog.info? 5).map (fun i=>(i.zero,i.size,i.bytes))=some (some (.int .u8 0),1,1):=by kernel_rfl
 obtain⟨i0,hi,hz0,hz1,hz2⟩:=info_parts hinfo
 have Hm:Hid (i0.bytes*L<=281474976710656):=by show _<=_;rw[hz2];omega
 have Hhi:Hid (Tryz.prog.info? 5=some i0/\i0.zero=some (.int .u8 0)/\i0.size=1):=⟨hi,hz0,hz1⟩
 clear hi hz0 hz1 hz2 hinfo
 go_wp2_with (at_make;refine wpList_make_own _ rfl (.const (.int .i64 0)) (.tmp 24) 166 rfl w.heap.size 5 i0 (.int .u8 0) 1 Tryz.underlying166 Hhi.out.1 Hhi.out.2.1 Hhi.out.2.2 .i64 .i64 _ L rfl rfl rfl Hm.out (by unfold maxLen;omega) (Nat.le_of_lt hw3) ?_;intro w4 hown4 hg4;have hc4:=box_grown_none hg4 w.heap.size hw3)
 have HB4:Hid (Buf w4 w.heap.size w3.heap.size 0 L []):=⟨rfl,hown4⟩
 have hw4:w.heap.size<w4.heap.size:=Nat.lt_of_lt_of_le hw3 hg4.size
 have hne:w.heap.size≠w3.heap.size:=by omega
 have Hb4:Hid (Below w.heap.size w w4):=Hb3.out.trans ((Below.refl _ _).grown hg4 (Nat.le_of_lt hw3) (by simp))
 have Hv4:Hid (IsInts w.heap.size w4 (.slice ao cl.length cap) cl):=(Hv0.out.mono hBw).carry Hb4.out
 clear hown4 hg4
 generalize w3.heap.size=g at *
 refine(addHead_any w.heap.size g 0 L [] mk ex (decide (0<pa)) ty nu ti so pa _ _ cl en py _ (by omega) (by omega) (by omega) (by omega) hcl Hi.out Hv4.out (by omega) rfl HB4.out).mono ?_
 rintro e w5 ⟨rfl,hB5,hg5⟩
 have hc5:=box_kept hg5 w.heap.size hw4 hne
 have hw5:w.heap.size<w5.heap.size:=Nat.lt_of_lt_of_le hw4 hg5.size
 have Hb5:Hid (Below w.heap.size w w5):=Hb4.out.trans ((Below.refl _ _).grown hg5 (Nat.le_of_lt hw4) (by intro k hk;cases hk;omega))
 rw[Nat.zero_add]
 rw[Nat.zero_add,List.nil_append]at hB5
 have HB5:Hid (Buf w5 w.heap.size g (12+4*cl.length) L (headB cl.length mk (decide (0<pa)) ex ty nu ti so++conB cl)):=hB5
 clear hB5
 go_wp2_with fail
 refine(addExtension_any w.heap.size g (12+4*cl.length) L _ mk ex _ _ _ _ _ pr _ en py _ (by omega) (by omega) (by rw[Hxe.out];omega) HB5.out).mono ?_
 rw[Hxe.out]
 rintro e w6 ⟨rfl,hB6,hg6⟩
 have hc6:=box_kept hg6 w.heap.size hw5 hne
 have hw6:w.heap.size<w6.heap.size:=Nat.lt_of_lt_of_le hw5 hg6.size
 have Hb6:Hid (Below w.heap.size w w6):=Hb5.out.trans ((Below.refl _ _).grown hg6 (Nat.le_of_lt hw5) (by intro k hk;cases hk;omega))
 clear hg6 hg5
 go_wp2_with (at_builtin;refine wl_string rfl (.tmp 32) (.tmp 34) rfl rfl hB6 py rfl (by omega) ?_;intro w7 hB7 hg7;have hc7:=box_kept hg7 w.heap.size hw6 hne)
 have hw7:w.heap.size<w7.heap.size:=Nat.lt_of_lt_of_le hw6 hg7.size
 have Hb7:Hid (Below w.heap.size w w7):=Hb6.out.trans ((Below.refl _ _).grown hg7 (Nat.le_of_lt hw6) (by intro k hk;cases hk;omega))
 refine(addPadding_any w.heap.size g (12+4*cl.length+xe+py.size) L _ pa _ (by omega) (by omega) hB7).mono ?_
 rintro e w8 ⟨rfl,hB8,hg8⟩
 have Hb8:Hid (Below w.heap.size w w8):=Hb7.out.trans ((Below.refl _ _).grown hg8 (Nat.le_of_lt hw7) (by intro k hk;cases hk;omega))
 have htx:=run_text hB8
 clear hg7 hg8 hB8 hB7 hB6
 go_wp2
 go_ret2
 exact⟨ret_two (by simp only[List.append_assoc]) rfl,Hb8.out⟩
theorem writePacket_any (mk ex:Bool) (ty nu ti so pr pa:Int) (cv:Value) (cl:List Int) (en py:ByteArray) (w:World) (B:Nat) (hBw:B<=w.heap.size) (hv:IsInts B w cv cl) (hl:cl.length<=17592186044416)
  (hen:en.size<=140737488355328) (hpy:py.size<=140737488355328) :
  Calls Tryz.prog 93 #[.agg #[.bool mk,.int .i64 ty,.int .i64 nu,.int .i64 ti,.int .i64 so,cv,.bool ex,.int .i64 pr,.string en,.string py,.int .i64 pa]] w
   fun e w'=>e = .returned (.tuple #[.string (tellR mk ex ty nu ti so pr pa cl en py).1,.int .i64 (tellR mk ex ty nu ti so pr pa cl en py).2])/\Below w.heap.size w w':=by
 unfold tellR
 cases h:tellOk ex ty nu ti so pr pa cl en with
 | false=>
  rw[if_neg (by simp)]
  exact write_refused mk ex ty nu ti so pr pa cv cl en py w B hBw hv hl (by unfold maxLen;omega) h
 | true=>
  rw[if_pos rfl]
  by_cases hL:1500<plen ex cl en py pa
  ·rw[if_pos hL]
   exact write_long mk ex ty nu ti so pr pa cv cl en py w B hBw hv hl hen hpy h hL
  ·rw[if_neg hL]
   exact write_ok mk ex ty nu ti so pr pa cv cl en py w B hBw hv hl hen hpy h (by omega)
end Go.Proofs.YtdjhhnolcafkiaaGreat
namespace Go.Proofs.YtdjhhnolcafkiaaGreat
open Go.RowKit
namespace Pk
def askOk (se so:Int) (l:List Int):Bool:=decide (0<=se/\se<=4294967295) && decide (0<=so/\so<=4294967295) && decide (1<=l.length) && decide (l.length<=300) && allIn l 65535
def entB (E:List (Nat × Nat)):List UInt8:=E.flatMap fun p=>told p.1 2++told p.2 2
def askB (se so:Nat) (E:List (Nat × Nat)):List UInt8:=[129,205]++told (2+E.length) 2++told se 4++told so 4++entB E
def askR (se so:Int) (l:List Int):ByteArray × Int:=if askOk se so l=true then(⟨(askB se.toNat so.toNat (entriesF l)).toArray⟩,0)else(⟨#[]⟩,2)
theorem entB_succ (E:List (Nat × Nat)) (k:Nat) (h:k<E.length):entB (E.take (k+1))=entB (E.take k)++told (E[k]).1 2++told (E[k]).2 2:=by
 unfold entB
 rw[List.take_succ_eq_append_getElem h,List.flatMap_append,List.append_assoc]
 simp
theorem flatE_at (E:List (Nat × Nat)):∀k (h:k<E.length),(flatE E)[k*2]? = some (.int .u16 (E[k]).1)/\(flatE E)[k*2+1]? = some (.int .u16 (E[k]).2):=by
 induction E with
 | nil=>intro k h;simp at h
 | cons p E ih=>
  intro k h
  rw[show flatE (p::E) = .int .u16 p.1::.int .u16 p.2::flatE E from rfl]
  cases k with
  | zero=>exact⟨rfl,rfl⟩
  | succ k=>
   have:=ih k (by simpa using h)
   rw[show(k+1)*2=k*2+1+1 by omega]
   simpa using this
end Pk
open Pk
theorem askingFits_any (se so:Int) (nv:Value) (l:List Int) (w:World) (hv:IsInts w.heap.size w nv l) (hl:l.length<=17592186044416) :
  Calls Tryz.prog 122 #[.agg #[.int .i64 se,.int .i64 so,nv]] w fun e w'=>e = .returned (.bool (askOk se so l))/\Below w.heap.size w w':=by
 have Hv:Hid (∀o,IsInts w.heap.size (w.alloc o) nv l):=fun o=>hv.alloc (Nat.le_refl _) o
 obtain⟨ao,cap,rfl,_⟩:=hv
 go_enter Tryz.func122,Tryz.ntmps122
 go_wp2_with (first
  | (go_at_call 109;refine(within_any _ _ _).mono ?_;rintro e w' ⟨rfl,rfl⟩)
  | (go_at_call 128;refine(allWithin_any w.heap.size _ l _ _ ?_ hl).mono ?_;exact Hv.out _;rintro e w' ⟨rfl,rfl⟩))
 all_goals go_ret
 all_goals refine⟨Pk.ret_bool ?_,?_⟩
 all_goals first|exact(Below.refl _ _).alloc (Nat.le_refl _) _|skip
 all_goals unfold Pk.askOk
 all_goals first
  | (rw[decide_eq_false ‹¬(0<=se/\se<=4294967295)›];simp;done)
  | (rw[decide_eq_false ‹¬(0<=so/\so<=4294967295)›];simp;done)
  | (rw[decide_eq_false (p:=1<=l.length) (by omega)];simp;done)
  | (rw[decide_eq_false (p:=l.length<=300) (by omega)];simp;done)
  | (rw[decide_eq_true ‹0<=se/\se<=4294967295›,decide_eq_true ‹0<=so/\so<=4294967295›,decide_eq_true (p:=1<=l.length) (by omega),decide_eq_true (p:=l.length<=300) (by omega)];simp;done)
theorem rowN_chg {T:Nat->Prop}{a b:World}{base e size n:Nat}{v:Value}{xs:List Value}(h:Chg T a b) (ho:a.ownsRow base e size v n xs) (hn:∀x,v.ownBlock=some x->¬T x):b.ownsRow base e size v n xs:=by
 have hl:=ho.lt
 obtain⟨h1,h2|⟨g,cap,cur,rfl,hb,hh,r⟩⟩:=ho
 ·exact⟨h1,.inl h2⟩
 ·exact⟨h1,.inr ⟨g,cap,cur,rfl,hb,(h.block g (hl g rfl).2 (hn g rfl)).trans hh,r⟩⟩
theorem rowN_mono {a:World}{base base' e size n:Nat}{v:Value}{xs:List Value}(ho:a.ownsRow base e size v n xs) (hb:base'<=base):a.ownsRow base' e size v n xs:=by
 obtain⟨h1,h2|⟨g,cap,cur,rfl,hg,r⟩⟩:=ho
 ·exact⟨h1,.inl h2⟩
 ·exact⟨h1,.inr ⟨g,cap,cur,rfl,by omega,r⟩⟩
theorem allIn_mem {l:List Int}{m:Int}(h:allIn l m=true):∀n∈l,0<=n/\n<=m:=by
 intro n hn
 have:=List.all_eq_true.1 h n hn
 simpa using this
theorem writeAsking_ok (se so:Int) (nv:Value) (l:List Int) (w:World) (hv:IsInts w.heap.size w nv l) (hok:askOk se so l=true) :
  Calls Tryz.prog 101 #[.agg #[.int .i64 se,.int .i64 so,nv]] w fun e w'=>e = .returned (.tuple #[.string ⟨(askB se.toNat so.toNat (entriesF l)).toArray⟩,.int .i64 0])/\Below w.heap.size w w':=by
 have Hv:Hid (∀o,IsInts (w.alloc o).heap.size (w.alloc o) nv l):=fun o=>(hv.alloc (Nat.le_refl _) o).mono (by simp)
 have Hv0:=hyd hv
 have Hok:=hyd hok
 simp only[askOk,Bool.and_eq_true,decide_eq_true_eq]at hok
 obtain⟨⟨⟨⟨h1,h2⟩,h3⟩,h4⟩,h5⟩:=hok
 have Hin:Hid (∀n∈l,0<=n/\n<=65535):=allIn_mem h5
 obtain⟨ao,cap,rfl,_⟩:=hv
 obtain⟨se,rfl⟩:=Int.eq_ofNat_of_zero_le h1.1
 obtain⟨so,rfl⟩:=Int.eq_ofNat_of_zero_le h2.1
 rw[Int.toNat_natCast,Int.toNat_natCast]
 clear h5
 go_enter Tryz.func101,Tryz.ntmps101
 go_wp2_with fail
 refine(askingFits_any _ _ _ l _ (Hv.out _) (by omega)).mono ?_
 rintro e w1 ⟨rfl,hb1⟩
 rw[Hok.out]
 have hc1:=box_below hb1 w.heap.size (by simp)
 have hw1:w.heap.size<w1.heap.size:=by have:=hb1.size;simp at this;omega
 have Hb1:Hid (Below w.heap.size w w1):=((Below.refl _ _).alloc (Nat.le_refl _) _).trans (hb1.mono (by simp))
 clear hb1
 go_wp2_with fail
 refine(makeEntries_any _ l _ ((Hv0.out.carry Hb1.out).mono (Nat.le_of_lt hw1)) h4 Hin.out).mono ?_
 rintro e w2 ⟨ev,rfl,hrow,hb2,hE,hEl⟩
 generalize hEE:entriesF l=E at *
 have HEE:=hyd hEE
 obtain⟨ae,ce,rfl⟩:=row_shapeN hrow
 have hc2:=box_below hb2 w.heap.size hw1
 have hw2:w.heap.size<w2.heap.size:=Nat.lt_of_lt_of_le hw1 hb2.size
 have Hb2:Hid (Below w.heap.size w w2):=Hb1.out.trans (hb2.mono (Nat.le_of_lt hw1))
 have Hrow:=hyd hrow
 have Hrl:Hid (∀b,(Value.slice ae E.length ce).ownBlock=some b->b<w2.heap.size):=fun b hb=>(hrow.lt b hb).2
 have HE:=hyd hE
 have hn:E.length<=300:=by omega
 clear hb2 hrow hE hEE
 obtain⟨L,hL⟩:∃L:Nat,L=12+4*E.length:=⟨_,rfl⟩
 have hLi:12+4*(E.length:Int)=(L:Int):=by omega
 have HL:=hyd hL
 have hLb:L<=1212/\12<=L:=by omega
 obtain⟨M,hM⟩:∃M,M=2+E.length:=⟨_,rfl⟩
 have HM:=hyd hM
 have hLq:((L:Int)-4)/4=(M:Int):=by omega
 have hMb:M<=302:=by omega
 clear hL hM
 have hinfo:(Tryz.prog.info? 5).map (fun i=>(i.zero,i.size,i.bytes))=some (some (.int .u8 0),1,1):=by kernel_rfl
 obtain⟨i0,hi,hz0,hz1,hz2⟩:=info_parts hinfo
 have Hm:Hid (i0.bytes*L<=281474976710656):=by show _<=_;rw[hz2];omega
 have Hhi:Hid (Tryz.prog.info? 5=some i0/\i0.zero=some (.int .u8 0)/\i0.size=1):=⟨hi,hz0,hz1⟩
 clear hi hz0 hz1 hz2 hinfo
 go_wp2_with (at_make;refine wpList_make_own _ rfl (.const (.int .i64 0)) (.tmp 19) 166 rfl w.heap.size 5 i0 (.int .u8 0) 1 Tryz.underlying166 Hhi.out.1 Hhi.out.2.1 Hhi.out.2.2 .i64 .i64 _ L rfl rfl rfl Hm.out (by unfold maxLen;omega) (Nat.le_of_lt hw2) ?_;intro w3 hown3 hg3;have hc3:=box_grown_none hg3 w.heap.size hw2;refine stop_here ?_)
 have hw3:w.heap.size<w3.heap.size:=Nat.lt_of_lt_of_le hw2 hg3.size
 have hne:w.heap.size≠w2.heap.size:=by omega
 have HB3:Hid (Buf w3 w.heap.size w2.heap.size 0 L []):=⟨rfl,hown3⟩
 have Hb3:Hid (Below w.heap.size w w3):=Hb2.out.trans ((Below.refl _ _).grown hg3 (Nat.le_of_lt hw2) (by simp))
 have Hrow3:Hid (w3.ownsRow w.heap.size 205 2 (.slice ae E.length ce) E.length (flatE E)):=rowN_mono (rowN_chg (Chg.ofGrown hg3) Hrow.out (fun _ _ e=>by cases e)) (Nat.le_of_lt hw1)
 clear hown3 hg3 Hrow
 generalize w2.heap.size=g at *
 refine hid_in ?_
 go_wp2_with (at_builtin;(
  refine wl_bytes rfl (.tmp 21) (.tmp 22) rfl rfl (HB3.out.alloc _) _ 2 2 [129,205] rfl rfl (cells_new _ [.int .u8 129,.int .u8 205] _) (by omega) ?_
  intro w4 hB4 hg4
  refine stop_here ?_))
 have hg4':w3.grownBy w4 (some g):=(World.grownBy_alloc _ _ _).trans hg4
 have hc4:=box_kept hg4' w.heap.size hw3 hne
 have hw4:w.heap.size<w4.heap.size:=Nat.lt_of_lt_of_le hw3 hg4'.size
 have HB4:=hyd hB4
 have Hb4:Hid (Below w.heap.size w w4):=Hb3.out.trans ((Below.refl _ _).grown hg4' (Nat.le_of_lt hw3) (by intro k hk;cases hk;omega))
 have Hrow4:Hid (w4.ownsRow w.heap.size 205 2 (.slice ae E.length ce) E.length (flatE E)):=rowN_chg (Chg.ofGrown hg4') Hrow3.out (fun x hx e=>by have:=Hrl.out x hx;cases e;omega)
 clear hB4 hg4 hg4' HB3 Hb3 Hrow3
 refine hid_in ?_
 go_wp2_with fail
 refine(addNumber_any w.heap.size g 2 L _ M 2 _ (by omega) (by omega) (by omega) HB4.out).mono ?_
 rintro e w5 ⟨rfl,hB5,hg5⟩
 have hc5:=box_kept hg5 w.heap.size hw4 hne
 have hw5:w.heap.size<w5.heap.size:=Nat.lt_of_lt_of_le hw4 hg5.size
 have HB5:=hyd hB5
 have Hb5:Hid (Below w.heap.size w w5):=Hb4.out.trans ((Below.refl _ _).grown hg5 (Nat.le_of_lt hw4) (by intro k hk;cases hk;omega))
 have Hrow5:Hid (w5.ownsRow w.heap.size 205 2 (.slice ae E.length ce) E.length (flatE E)):=rowN_chg (Chg.ofGrown hg5) Hrow4.out (fun x hx e=>by have:=Hrl.out x hx;cases e;omega)
 clear hB5 hg5 HB4 Hb4 Hrow4
 go_wp2_with fail
 refine(addNumber_any w.heap.size g 4 L _ se 4 _ (by omega) (by omega) (by omega) HB5.out).mono ?_
 rintro e w6 ⟨rfl,hB6,hg6⟩
 have hc6:=box_kept hg6 w.heap.size hw5 hne
 have hw6:w.heap.size<w6.heap.size:=Nat.lt_of_lt_of_le hw5 hg6.size
 have HB6:=hyd hB6
 have Hb6:Hid (Below w.heap.size w w6):=Hb5.out.trans ((Below.refl _ _).grown hg6 (Nat.le_of_lt hw5) (by intro k hk;cases hk;omega))
 have Hrow6:Hid (w6.ownsRow w.heap.size 205 2 (.slice ae E.length ce) E.length (flatE E)):=rowN_chg (Chg.ofGrown hg6) Hrow5.out (fun x hx e=>by have:=Hrl.out x hx;cases e;omega)
 clear hB6 hg6 HB5 Hb5 Hrow5
 go_wp2_with fail
 refine(addNumber_any w.heap.size g 8 L _ so 4 _ (by omega) (by omega) (by omega) HB6.out).mono ?_
 rintro e w7 ⟨rfl,hB7,hg7⟩
 have hc7:=box_kept hg7 w.heap.size hw6 hne
 have hw7:w.heap.size<w7.heap.size:=Nat.lt_of_lt_of_le hw6 hg7.size
 have HB7:=hyd hB7
 have Hb7:Hid (Below w.heap.size w w7):=Hb6.out.trans ((Below.refl _ _).grown hg7 (Nat.le_of_lt hw6) (by intro k hk;cases hk;omega))
 have Hrow7:Hid (w7.ownsRow w.heap.size 205 2 (.slice ae E.length ce) E.length (flatE E)):=rowN_chg (Chg.ofGrown hg7) Hrow6.out (fun x hx e=>by have:=Hrl.out x hx;cases e;omega)
 clear hB7 hg7 HB6 Hb6 Hrow6
 go_wp2
 go_loopw [6,39] (fun s6 s39 wr=>∃k:Nat,k<=E.length/\s39 = .int .i64 k/\s6 = .slice (some ⟨g,0,none⟩) (12+4*k) L/\Buf wr w.heap.size g (12+4*k) L ([129,205]++told M 2++told se 4++told so 4++entB (E.take k))/\wr.ownsRow w.heap.size 205 2 (.slice ae E.length ce) E.length (flatE E)/\Below w.heap.size w wr) (fun _ s39 _=>E.length-(intOf s39).toNat)
 case atStart=>exact⟨0,Nat.zero_le _,rfl,rfl,by have h:=HB7.out;simpa[entB]using h,Hrow7.out,Hb7.out⟩
 case round=>
  obtain⟨k,hk,rfl,rfl,hB,hrow,hb⟩:=hrel
  have HB:=hyd hB
  have Hrow:=hyd hrow
  have Hb:=hyd hb
  have hgl:=hB.lt
  have hwr:=hb.size
  by_cases hlt:k<E.length
  ·have hlt':(k:Int)<E.length:=by omega
   obtain⟨ge,rfl⟩:=row_some hrow (by omega)
   have hf:=flatE_at E k hlt
   have d0:wr.cell? ⟨ge,k*2,none⟩=some (.int .u16 (E[k]).1):=(hrow.cellAt (k*2) (by omega)).trans hf.1
   have d1:wr.cell? ⟨ge,k*2+1,none⟩=some (.int .u16 (E[k]).2):=(hrow.cellAt (k*2+1) (by omega)).trans hf.2
   have hpr:=HE.out (E[k]) (List.getElem_mem hlt)
   have Hes:Hid (entB (E.take (k+1))=entB (E.take k)++told (E[k]).1 2++told (E[k]).2 2):=entB_succ E k hlt
   have hge:ge≠g:=fun e=>by have:=Hrl.out ge rfl;omega
   generalize (E[k]).1=p at *
   generalize (E[k]).2=r at *
   have hkL:12+4*k+4<=L:=by have:=HL.out;omega
   clear hB hrow hb hf
   go_wp2_with fail
   refine(addNumber_any w.heap.size g (12+4*k) L _ p 2 _ (by omega) (by omega) (by omega) (HB.out.alloc _)).mono ?_
   rintro e w8 ⟨rfl,hB8,hg8⟩
   have hc8:=box_kept hg8 wr.heap.size (by simp) (by omega)
   have HB8:=hyd hB8
   have hw8:wr.heap.size<w8.heap.size:=by have:=hg8.size;simp at this;omega
   have hg8':wr.grownBy w8 (some g):=(World.grownBy_alloc _ _ _).trans hg8
   have Hb8:Hid (Below w.heap.size w w8):=Hb.out.trans ((Below.refl _ _).grown hg8' hwr (by intro k hk;cases hk;omega))
   have Hrow8:Hid (w8.ownsRow w.heap.size 205 2 (.slice (some ⟨ge,0,none⟩) E.length ce) E.length (flatE E)):=rowN_chg (Chg.ofGrown hg8') Hrow.out (fun x hx e=>by have:=Hrl.out x hx;cases e;omega)
   clear hB8 hg8 hg8' d0 d1
   go_wp2_with fail
   refine(addNumber_any w.heap.size g (12+4*k+2) L _ r 2 _ (by omega) (by omega) (by omega) HB8.out).mono ?_
   rintro e w9 ⟨rfl,hB9,hg9⟩
   have Hb9:Hid (Below w.heap.size w w9):=Hb8.out.trans ((Below.refl _ _).grown hg9 (by omega) (by intro k hk;cases hk;omega))
   have Hrow9:Hid (w9.ownsRow w.heap.size 205 2 (.slice (some ⟨ge,0,none⟩) E.length ce) E.length (flatE E)):=rowN_chg (Chg.ofGrown hg9) Hrow8.out (fun x hx e=>by have:=Hrl.out x hx;cases e;omega)
   have HB9:Hid (Buf w9 w.heap.size g (12+4*(k+1)) L ([129,205]++told M 2++told se 4++told so 4++entB (E.take (k+1)))):=by
    show Buf _ _ _ _ _ _
    rw[Hes.out,show 12+4*(k+1)=12+4*k+2+2 by omega]
    simpa only[List.append_assoc]using hB9
   clear hB9 hg9 HB8 Hb8 Hrow8
   go_wp2
   go_roundw
   case rel=>exact⟨k+1,by omega,by go_num,by congr 1,HB9.out,Hrow9.out,Hb9.out⟩
   case measure=>simp[intOf];omega
  ·have hke:k=E.length:=by omega
   subst hke
   have hlt':¬(E.length:Int)<E.length:=by omega
   have htx:=run_text hB
   clear hB hrow hb
   go_wp2
   go_ret2
   refine⟨ret_two ?_ rfl,Hb.out⟩
   rw[HEE.out,HM.out]
   simp[askB]
theorem writeAsking_no (se so:Int) (nv:Value) (l:List Int) (w:World) (hv:IsInts w.heap.size w nv l) (hl:l.length<=17592186044416) (hok:askOk se so l=false) :
  Calls Tryz.prog 101 #[.agg #[.int .i64 se,.int .i64 so,nv]] w fun e w'=>e = .returned (.tuple #[.string ⟨#[]⟩,.int .i64 2])/\Below w.heap.size w w':=by
 have Hv:Hid (∀o,IsInts (w.alloc o).heap.size (w.alloc o) nv l):=fun o=>(hv.alloc (Nat.le_refl _) o).mono (by simp)
 have Hok:=hyd hok
 clear hok
 obtain⟨ao,cap,rfl,_⟩:=hv
 go_enter Tryz.func101,Tryz.ntmps101
 go_wp2_with fail
 refine(askingFits_any _ _ _ l _ (Hv.out _) hl).mono ?_
 rintro e w1 ⟨rfl,hb1⟩
 rw[Hok.out]
 have Hb1:Hid (Below w.heap.size w w1):=((Below.refl _ _).alloc (Nat.le_refl _) _).trans (hb1.mono (by simp))
 clear hb1
 go_wp2
 go_ret2
 exact⟨rfl,Hb1.out⟩
theorem writeAsking_any (se so:Int) (nv:Value) (l:List Int) (w:World) (hv:IsInts w.heap.size w nv l) (hl:l.length<=17592186044416) :
  Calls Tryz.prog 101 #[.agg #[.int .i64 se,.int .i64 so,nv]] w fun e w'=>e = .returned (.tuple #[.string (askR se so l).1,.int .i64 (askR se so l).2])/\Below w.heap.size w w':=by
 unfold askR
 cases h:askOk se so l with
 | true=>exact writeAsking_ok se so nv l w hv h
 | false=>exact writeAsking_no se so nv l w hv hl h
end Go.Proofs.YtdjhhnolcafkiaaGreat
namespace Go.Proofs.YtdjhhnolcafkiaaGreat
namespace Pk
theorem told_num (n:Nat):∀l:List UInt8,l.length=n->told (num l) n=l:=by
 induction n with
 | zero=>intro l h;rw[List.eq_nil_of_length_eq_zero h];rfl
 | succ n ih=>
  intro l h
  obtain⟨i,b,rfl⟩:∃i b,l=i++[b]:=⟨l.dropLast,l.getLast (by intro e;subst e;simp at h),(List.dropLast_concat_getLast _).symm⟩
  have hi:i.length=n:=by simpa using h
  have hb:=b.toNat_lt
  rw[num_snoc,told,show(num i*256+b.toNat)/256=num i by omega,ih i hi,show(num i*256+b.toNat)%256=b.toNat by omega,UInt8.ofNat_toNat]
theorem conB_words (n:Nat):∀l:List UInt8,l.length=4*n->conB (words l)=l:=by
 induction n with
 | zero=>intro l h;rw[List.eq_nil_of_length_eq_zero (l:=l) (by omega)];rfl
 | succ n ih=>
  intro l h
  rw[words_step l (by omega),conB,ih (l.drop 4) (by rw[List.length_drop];omega),Int.toNat_natCast,told_num 4 (l.take 4) (by rw[List.length_take];omega),List.take_append_drop]
theorem words_in (n:Nat):∀l:List UInt8,l.length=4*n->allIn (words l) 4294967295=true:=by
 induction n with
 | zero=>intro l h;rw[words_stop l (by omega)];rfl
 | succ n ih=>
  intro l h
  have hn:=num_lt (l.take 4)
  have hl:(l.take 4).length=4:=by rw[List.length_take];omega
  rw[hl]at hn
  have h2:=ih (l.drop 4) (by rw[List.length_drop];omega)
  rw[words_step l (by omega)]
  simp only[allIn,List.all_cons,Bool.and_eq_true,decide_eq_true_eq]
  exact⟨by omega,h2⟩
theorem noughts_rep (n:Nat):noughts (List.replicate n 0)=true:=by simp[noughts]
theorem rep_noughts (l:List UInt8) (h:noughts l=true):l=List.replicate l.length 0:=by
 apply List.eq_replicate_of_mem
 simpa[noughts]using h
theorem mid {α:Type}(p m q:List α) (a n:Nat) (ha:a=p.length) (hn:n=m.length):((p++(m++q)).drop a).take n=m:=by
 subst ha hn
 rw[List.drop_left,List.take_left]
theorem cutAt {α:Type}(l:List α) (a b:Nat) (h:a<=b):l.drop a=(l.drop a).take (b-a)++l.drop b:=by
 have e:l.drop b=(l.drop a).drop (b-a):=by rw[List.drop_drop];congr 1;omega
 rw[e,List.take_append_drop]
theorem ext_told (s:ByteArray) (pr a1:Nat) (en:ByteArray) (h0:at0 s<=s.size) (h:extPart s=some (pr,en,a1)) :
  extOk (decide ((B0 s).toNat/16%2=1)) pr en=true/\(s.data.toList.drop (at0 s)).take (a1-at0 s)=extB (decide ((B0 s).toNat/16%2=1)) pr en.data.toList/\at0 s<=a1/\a1<=s.size:=by
 unfold extPart at h
 by_cases hx:(B0 s).toNat/16%2=1
 ·rw[if_pos hx]at h
  rw[decide_eq_true hx]
  by_cases h4:s.size-at0 s<4
  ·rw[if_pos h4]at h;cases h
  ·rw[if_neg h4]at h
   by_cases hL:s.size-(at0 s+4)<extLen s
   ·rw[if_pos hL]at h;cases h
   ·rw[if_neg hL,Option.some.injEq,Prod.mk.injEq,Prod.mk.injEq]at h
    obtain⟨h1,h2,h3⟩:=h
    have hen:en.data.toList=(s.data.toList.drop (at0 s+4)).take (extLen s):=by
     rw[<-h2,Lib.extract_data];congr 1;omega
    have hel:en.size=extLen s:=by
     rw[Lib.size_eq,hen,List.length_take,List.length_drop,<-Lib.size_eq];omega
    have hp:told pr 2=(s.data.toList.drop (at0 s)).take 2:=by
     rw[<-h1,Lib.extract_data,show at0 s+2-at0 s=2 by omega]
     exact told_num 2 _ (by rw[List.length_take,List.length_drop,<-Lib.size_eq];omega)
    have hm:told (en.data.toList.length/4) 2=(s.data.toList.drop (at0 s+2)).take 2:=by
     rw[<-Lib.size_eq,hel]
     unfold extLen
     rw[Nat.mul_div_cancel_left _ (by omega),Lib.extract_data,show at0 s+4-(at0 s+2)=2 by omega]
     exact told_num 2 _ (by rw[List.length_take,List.length_drop,<-Lib.size_eq];omega)
    have hpr:pr<65536:=by
     have:=num_lt (s.extract (at0 s) (at0 s+2)).data.toList
     have h5:(s.extract (at0 s) (at0 s+2)).data.toList.length=2:=by rw[<-Lib.size_eq,ByteArray.size_extract];omega
     rw[h5,h1]at this
     omega
    refine⟨?_,?_,by omega,by omega⟩
    ·rw[extOk_yes,Bool.and_eq_true,decide_eq_true_eq,decide_eq_true_eq,hel]
     unfold extLen
     omega
    ·unfold extB
     rw[if_pos rfl,hp,hm,hen,show a1-at0 s=2+(2+extLen s) by omega,List.take_add,List.take_add,List.drop_drop,List.drop_drop,List.append_assoc]
 ·rw[if_neg hx,Option.some.injEq,Prod.mk.injEq,Prod.mk.injEq]at h
  obtain⟨h1,h2,h3⟩:=h
  subst h1 h2 h3
  rw[decide_eq_false hx]
  refine⟨rfl,?_,by omega,h0⟩
  simp[extB]
theorem pad_told (s:ByteArray) (a pa fin:Nat) (h0:a<=s.size) (h1:12<=s.size) (h:padPart s a=some (pa,fin)) :
  s.data.toList.drop fin=padB pa/\a<=fin/\fin<=s.size/\pa<=255/\decide (0<pa)=decide ((B0 s).toNat/32%2=1):=by
 unfold padPart at h
 by_cases hx:(B0 s).toNat/32%2=1
 ·rw[if_pos hx]at h
  rw[decide_eq_true hx]
  by_cases h2:(Bl s).toNat=0\/s.size-a<(Bl s).toNat
  ·rw[if_pos h2]at h;cases h
  ·rw[if_neg h2]at h
   by_cases hN:noughts (s.extract (s.size-(Bl s).toNat) (s.size-1)).data.toList=true
   ·rw[if_pos hN,Option.some.injEq,Prod.mk.injEq]at h
    obtain⟨h3,h4⟩:=h
    rw[h3]at h2 hN h4
    have hb:=(Bl s).toNat_lt
    have hl:s.data.toList.length=s.size:=(Lib.size_eq s).symm
    refine⟨?_,by omega,by omega,by omega,decide_eq_true (by omega)⟩
    rw[cutAt s.data.toList fin (s.size-1) (by omega)]
    have e1:(s.data.toList.drop fin).take (s.size-1-fin)=List.replicate (pa-1) 0:=by
     have h5:=rep_noughts _ hN
     rw[Lib.extract_data,h4,List.length_take,List.length_drop,hl]at h5
     rw[h5]
     congr 1
     omega
    have e2:s.data.toList.drop (s.size-1)=[UInt8.ofNat pa]:=by
     rw[List.drop_eq_getElem_cons (by omega),List.drop_of_length_le (by omega)]
     have h6:s.data.toList[s.size-1]'(by omega)=Bl s:=by
      unfold Bl
      rw[List.getD_eq_getElem?_getD,List.getElem?_eq_getElem (by omega)]
      rfl
     rw[h6,<-h3,UInt8.ofNat_toNat]
    rw[e1,e2]
    unfold padB
    rw[if_neg (by omega)]
   ·rw[if_neg hN]at h;cases h
 ·rw[if_neg hx,Option.some.injEq,Prod.mk.injEq]at h
  obtain⟨h3,h4⟩:=h
  subst h3 h4
  rw[decide_eq_false hx]
  refine⟨?_,h0,by omega,by omega,rfl⟩
  rw[List.drop_of_length_le (by rw[<-Lib.size_eq];omega)]
  rfl
def setOf (p bits:Nat):List Int:=((List.range 16).filter fun i=>bits.testBit i).map fun i=>(((p+1+i)%65536:Nat):Int)
def entNums (p bits:Nat):List Int:=(p:Int)::setOf p bits
def entsR:List UInt8->List Int
 | a::b::c::d::r=>entNums (num [a,b]) (num [c,d])++entsR r
 | _=>[]
def partLen (l:List UInt8):Nat:=4+4*num ((l.drop 2).take 2)
def partsR:Nat->List UInt8->Option (List (Nat × Nat × List Int))
 | 0,l=>if l=[]then some []else none
 | n+1,l=>
  if l=[]then some []
  else if l.length<4\/(l.getD 0 0).toNat/32≠4 then none
  else if l.length<partLen l then none
  else if(l.getD 0 0).toNat%32=1/\(l.getD 1 0).toNat=205 then
   if partLen l<16 then none else(partsR n (l.drop (partLen l))).map ((num ((l.drop 4).take 4),num ((l.drop 8).take 4),entsR ((l.drop 12).take (partLen l-12)))::·)
  else partsR n (l.drop (partLen l))
def partsF (l:List UInt8):Option (List (Nat × Nat × List Int)):=partsR l.length l
theorem parts_fuel:∀(n m:Nat) (l:List UInt8),l.length<=n->l.length<=m->partsR n l=partsR m l:=by
 intro n
 induction n with
 | zero=>
  intro m l h1 h2
  have e:l=[]:=List.eq_nil_of_length_eq_zero (by omega)
  subst e
  cases m<;>rfl
 | succ n ih=>
  intro m l h1 h2
  by_cases e:l=[]
  ·subst e
   cases m<;>rfl
  ·have hl:0<l.length:=List.length_pos_iff.2 e
   cases m with
   | zero=>omega
   | succ m=>
    have hd:(l.drop (partLen l)).length<=n/\(l.drop (partLen l)).length<=m:=by
     rw[List.length_drop]
     unfold partLen
     omega
    have h:=ih m (l.drop (partLen l)) hd.1 hd.2
    unfold partsR
    rw[h]
theorem partsF_nil:partsF []=some []:=rfl
theorem partsF_step (l:List UInt8) (h:l≠[]):partsF l =
  if l.length<4\/(l.getD 0 0).toNat/32≠4 then none
  else if l.length<partLen l then none
  else if(l.getD 0 0).toNat%32=1/\(l.getD 1 0).toNat=205 then
   if partLen l<16 then none else(partsF (l.drop (partLen l))).map ((num ((l.drop 4).take 4),num ((l.drop 8).take 4),entsR ((l.drop 12).take (partLen l-12)))::·)
  else partsF (l.drop (partLen l)):=by
 have hl:0<l.length:=List.length_pos_iff.2 h
 obtain⟨n,hn⟩:∃n,l.length=n+1:=⟨l.length-1,by omega⟩
 have hf:partsR n (l.drop (partLen l))=partsF (l.drop (partLen l)):=parts_fuel _ _ _ (by rw[List.length_drop];unfold partLen;omega) (Nat.le_refl _)
 have e:partsF l=partsR (n+1) l:=by show partsR l.length l=_;rw[hn]
 rw[e,partsR,if_neg h,hf]
def repR (s:ByteArray):Option (List (Nat × Nat × List Int)):=if s.size=0\/1500<s.size then none else partsF s.data.toList
theorem entsR_step (l:List UInt8) (h:4<=l.length):entsR l=entNums (num (l.take 2)) (num ((l.drop 2).take 2))++entsR (l.drop 4):=by
 match l,h with
 | a::b::c::d::r,_=>rfl
theorem entB_cons (p:Nat × Nat) (E:List (Nat × Nat)):entB (p::E)=told p.1 2++(told p.2 2++entB E):=by
 simp[entB]
theorem entB_length (E:List (Nat × Nat)):(entB E).length=4*E.length:=by
 induction E with
 | nil=>rfl
 | cons p E ih=>rw[entB_cons,List.length_append,List.length_append,told_length,told_length,ih,List.length_cons];omega
theorem askB_length (se so:Nat) (E:List (Nat × Nat)):(askB se so E).length=12+4*E.length:=by
 unfold askB
 rw[List.length_append,List.length_append,List.length_append,List.length_append,told_length,told_length,told_length,entB_length]
 rfl
def In16 (l:List Int):Prop:=∀n∈l,0<=n/\n<=65535
end Pk
end Go.Proofs.YtdjhhnolcafkiaaGreat
namespace Go.Proofs.YtdjhhnolcafkiaaGreat
open Go.RowKit
namespace Pk
def bitsF (b k:Nat):List Nat:=(List.range k).filter fun i=>b.testBit i
theorem bitsF_succ (b k:Nat):bitsF b (k+1)=bitsF b k++(if b.testBit k then[k]else[]):=by
 unfold bitsF
 rw[List.range_succ,List.filter_append]
 congr 1
 cases h:b.testBit k<;>simp[h]
theorem bitsF_length (b k:Nat):(bitsF b k).length<=k:=by
 have:=List.length_filter_le (fun i=>b.testBit i) (List.range k)
 rwa [List.length_range]at this
theorem bitsF_lt {b k i:Nat}(h:i∈bitsF b k):i<k:=List.mem_range.1 (List.mem_filter.1 h).1
theorem bits16 (c d:Nat) (hd:d<256):(List.range 16).filter (fun i=>(c*256+d).testBit i)=bitsF d 8++(bitsF c 8).map (·+8):=by
 have hr:List.range 16=List.range 8++(List.range 8).map (·+8):=by decide
 have e:c*256+d=2 ^ 8*c+d:=by omega
 unfold bitsF
 rw[hr,List.filter_append,e]
 congr 1
 ·refine List.filter_congr fun i hi=>?_
  rw[Nat.testBit_two_pow_mul_add c hd i,if_pos (List.mem_range.1 hi)]
 ·rw[List.filter_map]
  congr 1
  refine List.filter_congr fun i hi=>?_
  show(2 ^ 8*c+d).testBit (i+8)=_
  rw[Nat.testBit_two_pow_mul_add c hd (i+8),if_neg (by omega),Nat.add_sub_cancel]
def byteNums (lo b:Nat):List Int:=(bitsF b 8).map fun i=>(((lo+i)%65536:Nat):Int)
theorem setOf_bytes (p c d:Nat) (hd:d<256):setOf p (c*256+d)=byteNums (p+1) d++byteNums (p+9) c:=by
 unfold setOf byteNums
 rw[bits16 c d hd,List.map_append,List.map_map]
 congr 1
 refine List.map_congr_left fun i _=>?_
 show(((p+1+(i+8))%65536:Nat):Int)=_
 rw[show p+1+(i+8)=p+9+i by omega]
theorem byteNums_mod (lo b:Nat):byteNums (lo%65536) b=byteNums lo b:=by
 unfold byteNums
 refine List.map_congr_left fun i _=>?_
 rw[Nat.mod_add_mod]
theorem byteNums_length (lo b:Nat):(byteNums lo b).length<=8:=by
 unfold byteNums
 rw[List.length_map]
 exact bitsF_length b 8
theorem num_pair (c d:UInt8):num [c,d]=c.toNat*256+d.toNat:=by simp[num]
theorem entsR_bytes (a b c d:UInt8) (r:List UInt8):entsR (a::b::c::d::r)=((num [a,b]:Nat):Int)::(byteNums (num [a,b]+1) d.toNat++byteNums (num [a,b]+9) c.toNat)++entsR r:=by
 show entNums _ _++_=_
 rw[entNums,num_pair c d,setOf_bytes _ _ _ d.toNat_lt]
theorem entsR_length:∀(n:Nat) (l:List UInt8),l.length<=4*n->(entsR l).length<=17*n:=by
 intro n
 induction n with
 | zero=>intro l h;cases l with|nil=>simp[entsR]|cons a l=>simp at h
 | succ n ih=>
  intro l h
  match l with
  | []=>simp[entsR]
  | [_]=>simp[entsR]
  | [_,_]=>simp[entsR]
  | [_,_,_]=>simp[entsR]
  | a::b::c::d::r=>
   have h1:=ih r (by simp at h;omega)
   have h2:=byteNums_length (num [a,b]+1) d.toNat
   have h3:=byteNums_length (num [a,b]+9) c.toNat
   rw[entsR_bytes]
   simp only[List.length_append,List.length_cons]
   omega
def rowV (l:List Nat):Value:=.agg #[.int .u8 l.length,.int .u8 (l[0]?.getD 0:Nat),.int .u8 (l[1]?.getD 0:Nat),.int .u8 (l[2]?.getD 0:Nat),.int .u8 (l[3]?.getD 0:Nat),.int .u8 (l[4]?.getD 0:Nat),.int .u8 (l[5]?.getD 0:Nat),.int .u8 (l[6]?.getD 0:Nat),.int .u8 (l[7]?.getD 0:Nat)]
theorem getD_snoc (l:List Nat) (x j:Nat):(l++[x]).getD j 0=if j=l.length then x else l.getD j 0:=by
 simp only[List.getD_eq_getElem?_getD,List.getElem?_append]
 split
 ·rw[if_neg (by omega)]
 ·rename_i h
  split
  ·rename_i h2;subst h2;simp
  ·rename_i h2
   rw[List.getElem?_eq_none (by simp;omega),List.getElem?_eq_none (by omega)]
def zero9:Obj:=.cells #[.int .u8 0,.int .u8 0,.int .u8 0,.int .u8 0,.int .u8 0,.int .u8 0,.int .u8 0,.int .u8 0,.int .u8 0] 216
theorem cell_new (w:World) (xs:Array Value) (t:TypeId) (o:Nat):(w.alloc (.cells xs t)).cell? ⟨w.heap.size,o,none⟩=xs[o]?:=
 cell_of_row _ w.heap.size o xs t (0,0) (heap_alloc_new w _)
theorem frozen_new (w:World) (xs:Array Value) (t:TypeId) (o:Nat):(w.alloc (.cells xs t)).frozen? ⟨w.heap.size,o,none⟩=false:=by
 unfold World.frozen?
 rw[heap_alloc_new]
 simp
theorem cell_newAt (w:World) (xs:Array Value) (t:TypeId) (k o:Nat) (hk:w.heap.size=k):(w.alloc (.cells xs t)).cell? ⟨k,o,none⟩=xs[o]?:=by subst hk;exact cell_new w xs t o
theorem frozen_newAt (w:World) (xs:Array Value) (t:TypeId) (k o:Nat) (hk:w.heap.size=k):(w.alloc (.cells xs t)).frozen? ⟨k,o,none⟩=false:=by subst hk;exact frozen_new w xs t o
structure Fb (w wr:World) (l:List Nat):Prop where
 bel:Below (w.heap.size+1) (w.alloc zero9) wr
 c0:wr.cell? ⟨w.heap.size+1,0,none⟩=some (.int .u8 l.length)
 cs:∀j,j<8->wr.cell? ⟨w.heap.size+1,1+j,none⟩=some (.int .u8 (l.getD j 0))
 fz:∀o,wr.frozen? ⟨w.heap.size+1,o,none⟩=false
theorem Fb.set {w wr:World}{l:List Nat}(h:Fb w wr l) (hl:l.length<8) (x:Nat):Fb w ((wr.setCell ⟨w.heap.size+1,1+l.length,none⟩ (.int .u8 x)).setCell ⟨w.heap.size+1,0,none⟩ (.int .u8 (l.length+1:Nat))) (l++[x]):=by
 have n0:(⟨w.heap.size+1,0,none⟩:Addr)≠⟨w.heap.size+1,1+l.length,none⟩:=fun e=>by injection e with _ e _;omega
 refine⟨(h.bel.setCell (p:=⟨w.heap.size+1,1+l.length,none⟩) (Nat.le_refl _) _).setCell (p:=⟨w.heap.size+1,0,none⟩) (Nat.le_refl _) _,?_,?_,fun o=>by rw[World.frozen?_setCell,World.frozen?_setCell];exact h.fz o⟩
 ·rw[List.length_append,List.length_singleton]
  exact World.cell?_setCell_same _ _ _ ((World.cell?_setCell_other _ _ _ _ (Ne.symm n0)).trans h.c0)
 ·intro j hj
  rw[World.cell?_setCell_other _ _ _ _ (fun e=>by injection e with _ e _;omega),getD_snoc]
  by_cases hjl:j=l.length
  ·subst hjl
   rw[if_pos rfl,World.cell?_setCell_same _ _ _ (h.cs _ hl)]
  ·rw[if_neg hjl,World.cell?_setCell_other _ _ _ _ (fun e=>by injection e with _ e _;omega)]
   exact h.cs j hj
theorem bit_test (b k:Nat) (hb:b<256):(bits .and .u8 ((b:Int)/2 ^ k) 1 == 1)=b.testBit k:=by
 have e:(b:Int)/2 ^ k=((b/2 ^ k:Nat):Int):=by simp
 have hd:b/2 ^ k<256:=Nat.lt_of_le_of_lt (Nat.div_le_self _ _) hb
 rw[e]
 have h:=u8_and_nat (b/2 ^ k) 1 hd (by omega)
 rw[show((1:Nat):Int)=1 from rfl]at h
 rw[h,Nat.testBit_eq_decide_div_mod_eq,Nat.and_one_is_mod]
 rw[Bool.eq_iff_iff]
 simp only[beq_iff_eq,decide_eq_true_eq]
 omega
end Pk
open Pk
theorem findBits_any (b:Nat) (w:World) (hb:b<256) :
  Calls Tryz.prog 138 #[.int .u8 b] w fun e w'=>e = .returned (rowV (bitsF b 8))/\Below w.heap.size w w':=by
 go_enter Tryz.func138,Tryz.ntmps138
 go_wp2
 go_loopw [5] (fun s5 wr=>∃k:Nat,k<=8/\s5 = .int .u8 k/\Fb w wr (bitsF b k)) (fun s5 _=>8-(intOf s5).toNat)
 case atStart=>
  exact⟨0,by omega,rfl,(Below.refl _ _).alloc (by simp) _,cell_newAt _ _ _ _ 0 (by simp),fun j hj=>by
   rw[cell_newAt _ _ _ _ (1+j) (by simp)]
   rcases(show j=0\/j=1\/j=2\/j=3\/j=4\/j=5\/j=6\/j=7 by omega)with rfl|rfl|rfl|rfl|rfl|rfl|rfl|rfl<;>rfl,fun o=>frozen_newAt _ _ _ _ o (by simp)⟩
 case round=>
  obtain⟨k,hk,rfl,hF⟩:=hrel
  have HF:=hyd hF
  have hc0:=hF.c0
  have hfz:=hF.fz
  have hcs:=hF.cs
  have hL:(bitsF b k).length<=k:=bitsF_length b k
  have Hsc:Hid (bitsF b (k+1)=bitsF b k++(if b.testBit k then[k]else[])):=bitsF_succ b k
  clear hF
  generalize hl:bitsF b k=l at *
  by_cases hlt:k<8
  ·have hlt':(k:Int)<8:=by omega
   have hbit:=bit_test b k hb
   cases ht:b.testBit k with
   | true=>
    rw[ht]at hbit Hsc
    have hc1:=hcs l.length (by omega)
    clear hcs
    go_wp2
    refine⟨⟨k+1,by omega,by go_num,?_⟩,by simp[intOf];omega⟩
    rw[Hsc.out,if_pos rfl]
    exact HF.out.set (by omega) k
   | false=>
    rw[ht]at hbit Hsc
    clear hcs
    go_wp2
    refine⟨⟨k+1,by omega,by go_num,?_⟩,by simp[intOf];omega⟩
    rw[Hsc.out,if_neg (by simp),List.append_nil]
    exact HF.out
  ·have hk8:k=8:=by omega
   subst hk8
   have d1:=hcs 0 (by omega)
   have d2:=hcs 1 (by omega)
   have d3:=hcs 2 (by omega)
   have d4:=hcs 3 (by omega)
   have d5:=hcs 4 (by omega)
   have d6:=hcs 5 (by omega)
   have d7:=hcs 6 (by omega)
   have d8:=hcs 7 (by omega)
   have hr:∀o,wr.cell? ⟨w.heap.size,o,none⟩=(w.alloc zero9).cell? ⟨w.heap.size,o,none⟩:=fun o=>HF.out.bel.cell (p:=⟨w.heap.size,o,none⟩) (Nat.lt_succ_self _)
   have hz:∀o,wr.frozen? ⟨w.heap.size,o,none⟩=false:=fun o=>(HF.out.bel.frozen (p:=⟨w.heap.size,o,none⟩) (Nat.lt_succ_self _)).trans (frozen_new w _ _ o)
   have e0:∀o,o<9->wr.cell? ⟨w.heap.size,o,none⟩=some (.int .u8 0):=fun o ho=>by
    rw[hr o]
    rcases(show o=0\/o=1\/o=2\/o=3\/o=4\/o=5\/o=6\/o=7\/o=8 by omega)with rfl|rfl|rfl|rfl|rfl|rfl|rfl|rfl|rfl<;>exact cell_new w _ _ _
   have f0:=e0 0 (by omega)
   have f1:=e0 1 (by omega)
   have f2:=e0 2 (by omega)
   have f3:=e0 3 (by omega)
   have f4:=e0 4 (by omega)
   have f5:=e0 5 (by omega)
   have f6:=e0 6 (by omega)
   have f7:=e0 7 (by omega)
   have f8:=e0 8 (by omega)
   clear hcs hr e0
   have Hb:Hid (Below w.heap.size w wr):=((Below.refl _ _).alloc (Nat.le_refl _) _).trans (HF.out.bel.mono (Nat.le_succ _))
   go_wp2
   refine bodyPost_ret (v:=rowV l) (by simp[results,Tryz.results138,rowV,go_sem,f0,f1,f2,f3,f4,f5,f6,f7,f8]) rfl ⟨by rw[hl],?_⟩
   exact((((((((Hb.out.setCell (p:=⟨w.heap.size,0,none⟩) (Nat.le_refl _) _).setCell (p:=⟨w.heap.size,1,none⟩) (Nat.le_refl _) _).setCell (p:=⟨w.heap.size,2,none⟩) (Nat.le_refl _) _).setCell (p:=⟨w.heap.size,3,none⟩) (Nat.le_refl _) _).setCell (p:=⟨w.heap.size,4,none⟩) (Nat.le_refl _) _).setCell (p:=⟨w.heap.size,5,none⟩) (Nat.le_refl _) _).setCell (p:=⟨w.heap.size,6,none⟩) (Nat.le_refl _) _).setCell (p:=⟨w.heap.size,7,none⟩) (Nat.le_refl _) _).setCell (p:=⟨w.heap.size,8,none⟩) (Nat.le_refl _) _
theorem addSet_any (base:Nat) (v:Value) (l:List Int) (lo b:Nat) (w:World) (hb:b<256) (_hlo:lo<65536) (hown:OwnInts w base v l) (hbase:base<=w.heap.size) (hl:l.length<=10000) :
  Calls Tryz.prog 131 #[v,.int .u16 lo,.int .u8 b] w fun e w'=>∃v',e = .returned v'/\OwnInts w' base v' (l++byteNums lo b)/\Below base w w':=by
 obtain⟨ao,cap,rfl⟩:=hown.shape
 have Hown:=hyd hown
 clear hown
 go_enter Tryz.func131,Tryz.ntmps131
 go_wp2_with fail
 refine(findBits_any b _ hb).mono ?_
 rintro e w1 ⟨rfl,hb1⟩
 have hown1:=Hown.out.below hb1
 have Hown1:=hyd hown1
 have Hb1:Hid (Below base w w1):=hb1.mono hbase
 have hw1:base<=w1.heap.size:=Nat.le_trans hbase hb1.size
 clear hown1 Hown hb1
 have hF:=bitsF_length b 8
 have HF:Hid (byteNums lo b=(bitsF b 8).map fun i=>(((lo+i)%65536:Nat):Int)):=rfl
 generalize hf:bitsF b 8=f at *
 unfold rowV
 go_wp2
 obtain⟨W1,hW1⟩:∃W1,W1=w1.alloc (.cells #[.int .u8 f.length,.int .u8 (f[0]?.getD 0:Nat),.int .u8 (f[1]?.getD 0:Nat),.int .u8 (f[2]?.getD 0:Nat),.int .u8 (f[3]?.getD 0:Nat),.int .u8 (f[4]?.getD 0:Nat),.int .u8 (f[5]?.getD 0:Nat),.int .u8 (f[6]?.getD 0:Nat),.int .u8 (f[7]?.getD 0:Nat)] 216):=⟨_,rfl⟩
 have Hcell:Hid (∀j,j<8->W1.cell? ⟨w1.heap.size,1+j,none⟩=some (.int .u8 (f[j]?.getD 0:Nat))):=fun j hj=>by
  rw[hW1,cell_new]
  rcases(show j=0\/j=1\/j=2\/j=3\/j=4\/j=5\/j=6\/j=7 by omega)with rfl|rfl|rfl|rfl|rfl|rfl|rfl|rfl<;>rfl
 have Hb2:Hid (Below base w W1):=by show Below _ _ _;rw[hW1];exact Hb1.out.alloc hw1 _
 have HownW:Hid (OwnInts W1 base (.slice ao l.length cap) l):=by show OwnInts _ _ _ _;rw[hW1];exact Hown1.out.alloc _
 have hgs:w1.heap.size<W1.heap.size:=by rw[hW1];simp
 have hng:(Value.slice ao l.length cap).ownBlock≠some w1.heap.size:=fun e=>by have:=(World.ownsRow.lt Hown1.out _ e).2;omega
 rw[<-hW1]
 clear hW1 Hb1 Hown1
 generalize w1.heap.size=g at *
 go_loopw [0,13] (fun s0 s13 wr=>∃k:Nat,k<=f.length/\s13 = .int .u8 k/\OwnInts wr base s0 (l++(f.take k).map fun i=>(((lo+i)%65536:Nat):Int))/\Below base w wr/\wr.heap[g]? = W1.heap[g]?/\g<wr.heap.size/\s0.ownBlock≠some g/\base<=wr.heap.size) (fun _ s13 _=>f.length-(intOf s13).toNat)
 case atStart=>exact⟨0,Nat.zero_le _,rfl,by simpa using HownW.out,Hb2.out,rfl,hgs,hng,by omega⟩
 case round=>
  obtain⟨k,hk,rfl,hown,hbw,hbl,hgl,hne,hbs⟩:=hrel
  obtain⟨a1,c1,rfl⟩:=hown.shape
  obtain⟨n,hn⟩:∃n,n=(l++(f.take k).map fun i=>(((lo+i)%65536:Nat):Int)).length:=⟨_,rfl⟩
  rw[<-hn]at hown ⊢
  have Hown:=hyd hown
  rw[<-hn]at hne
  clear hn
  have Hbw:=hyd hbw
  clear hown hbw
  by_cases hlt:k<f.length
  ·have hlt':(k:Int)<f.length:=by omega
   have hck:wr.cell? ⟨g,1+k,none⟩=some (.int .u8 (f[k]?.getD 0:Nat)):=(World.cell?_of_block (a:=⟨g,1+k,none⟩) (w:=W1) (w':=wr) hbl).trans (Hcell.out k (by omega))
   have hfk:(f[k]?.getD 0)<256:=by
    have hm:f[k]?.getD 0∈bitsF b 8:=by rw[hf,List.getElem?_eq_getElem hlt];exact List.getElem_mem hlt
    have:=bitsF_lt hm
    omega
   have Htk:Hid ((f.take (k+1)).map (fun i=>(((lo+i)%65536:Nat):Int))=(f.take k).map (fun i=>(((lo+i)%65536:Nat):Int))++[(((lo+f[k]?.getD 0)%65536:Nat):Int)]):=by
    show _=_
    rw[List.take_succ_eq_append_getElem hlt,List.map_append,List.getElem?_eq_getElem hlt]
    rfl
   have hlen:(l++(f.take k).map fun i=>(((lo+i)%65536:Nat):Int)).length<=10008:=by rw[List.length_append,List.length_map,List.length_take];omega
   generalize f[k]?.getD 0=q at *
   generalize hLL:l++(f.take k).map (fun i=>(((lo+i)%65536:Nat):Int))=L at *
   have HL:=hyd hLL
   have Hbl:=hyd hbl
   clear hLL
   have hwq:IntKind.u16.wrap ((lo:Int)+q)=(((lo+q)%65536:Nat):Int):=by simp[IntKind.wrap,IntKind.signed,IntKind.bits]
   have hq2:((lo+q)%65536)<65536:=Nat.mod_lt _ (by decide)
   generalize (lo+q)%65536=r at *
   clear hbl
   go_wp2_with (at_builtin;(
    refine wpList_append_int rfl (.tmp 16) (.tmp 25) rfl base _ L (r:Int) rfl (Hown.out.alloc _) _ 1 rfl ?_ (by omega) (by simp;omega) ?_
    ·exact cell_one_new _ _ _ 0 _ rfl
    intro v' w2 hown' hgrow hob
    refine stop_here ?_))
   have R1:Hid (OwnInts w2 base v' (L++[(r:Int)])):=hown'
   have hx2:wr.heap.size<w2.heap.size:=by have:=hgrow.size;simp at this;omega
   have R2:Hid (Below base w w2):=(Hbw.out.alloc hbs _).grown hgrow (by simp;omega) (fun x hx=>(World.ownsRow.lt Hown.out x hx).1)
   have R3:Hid (w2.heap[g]? = W1.heap[g]?):=(hgrow.block g (by simp;omega) (fun e=>hne e.symm)).trans ((heap_alloc_old wr _ hgl).trans Hbl.out)
   have R4:Hid (v'.ownBlock≠some g):=fun e=>by
    rcases hob with h|h
    ·exact hne (h▸e)
    ·rw[e]at h;simp at h;omega
   obtain⟨a2,c2,rfl⟩:=hown'.shape
   clear hown' hgrow hob
   refine hid_in ?_
   go_wp2
   go_roundw
   case rel=>exact⟨k+1,by omega,by go_num,by rw[Htk.out,<-List.append_assoc,HL.out];exact R1.out,R2.out,R3.out,by omega,R4.out,by omega⟩
   case measure=>simp[intOf];omega
  ·have hke:k=f.length:=by omega
   have hlt':¬(k:Int)<f.length:=by omega
   rw[hke,List.take_of_length_le (Nat.le_refl _),<-HF.out]at Hown
   go_wp2
   go_ret
   exact⟨_,rfl,Hown.out,Hbw.out⟩
end Go.Proofs.YtdjhhnolcafkiaaGreat
namespace Go.Proofs.YtdjhhnolcafkiaaGreat
open Go.RowKit Pk
theorem find1K_any (x:Kp) (num B:Nat) (W:World) (hc:W.cell? ⟨B,0,none⟩=some (.int .u16 num)) :
  Calls Tryz.prog 133 #[.agg #[.int .u16 x.n,.bool x.x.mrk,.int .i64 x.x.ty,.int .i64 x.x.nu,.int .i64 x.x.ti,.int .i64 x.x.so,x.cv,.bool x.x.ex,.int .i64 x.x.pr,.string x.x.en,.string x.x.py,.int .i64 x.x.pa,.int .i64 x.rests],.pointer (some ⟨B,0,none⟩)] W fun e w'=>e = .returned (.bool (decide (x.n=num)))/\Below W.heap.size W w':=by
 have hne:B≠W.heap.size:=by have:=lt_of_cell hc;simp only at this;omega
 have hlt:B<W.heap.size:=lt_of_cell hc
 have Heq:Hid (((x.n:Int) == (num:Int))=decide (x.n=num)):=by
  show _=_
  rw[Bool.eq_iff_iff]
  simp only[beq_iff_eq,decide_eq_true_eq]
  omega
 go_enter Tryz.func133,Tryz.ntmps133
 go_wp2
 go_ret
 exact⟨ret_bool (by first|exact Heq.out|simpa using Heq.out),(Below.refl _ _).alloc (Nat.le_refl _) _⟩
theorem indexK_any (base:Nat) (v:Value) (l:List Kp) (num B:Nat) (w:World) (hown:w.ownsRow base 194 13 v l.length (l.flatMap cellsK)) (hc:w.cell? ⟨B,0,none⟩=some (.int .u16 num)) (hn:l.length<=100000) :
  Calls Tryz.prog 132 #[v,.func (.func 133) #[] #[.pointer (some ⟨B,0,none⟩)]] w fun e w'=>e = .returned (.int .i64 (posF num (l.map (·.n))))/\Below w.heap.size w w':=by
 obtain⟨ao,cap,rfl⟩:=rowA_shape hown
 have Hown:=hyd hown
 have Hc:=hyd hc
 clear hown hc
 go_enter Tryz.func132,Tryz.ntmps132
 go_wp2
 go_loopw [8] (fun s8 wr=>∃k:Nat,k<=l.length/\s8 = .int .i64 k/\(∀m (hm:m<l.length),m<k->(l[m]).n≠num)/\Below w.heap.size w wr) (fun s8 _=>l.length-(intOf s8).toNat)
 case atStart=>exact⟨0,Nat.zero_le _,rfl,fun m _ hm=>by omega,Below.refl _ _⟩
 case round=>
  obtain⟨k,hk,rfl,hno,hbel⟩:=hrel
  have Hno:=hyd hno
  have Hbel:=hyd hbel
  clear hno hbel
  by_cases hlt:k<l.length
  ·have hlt':(k:Int)<l.length:=by omega
   obtain⟨g,rfl⟩:=rowA_some Hown.out (by omega)
   have hglt:g<w.heap.size:=(Hown.out.lt g rfl).2
   obtain⟨x,hx⟩:∃x,l[k]=x:=⟨_,rfl⟩
   have at_:∀j,j<13->∀u,(cellsK x)[j]? = some u->wr.cell? ⟨g,k*13+j,none⟩=some u:=fun j hj u hu=>by
    refine(Hbel.out.cell (p:=⟨g,k*13+j,none⟩) hglt).trans ?_
    rw[Hown.out.cellAt (k*13+j) (by omega),flat_at cellsK_len l k j hlt hj,hx]
    exact hu
   have d0:wr.cell? ⟨g,k*13,none⟩=some (.int .u16 x.n):=at_ 0 (by omega) _ rfl
   have d1:wr.cell? ⟨g,k*13+1,none⟩=some (.bool x.x.mrk):=at_ 1 (by omega) _ rfl
   have d2:wr.cell? ⟨g,k*13+2,none⟩=some (.int .i64 x.x.ty):=at_ 2 (by omega) _ rfl
   have d3:wr.cell? ⟨g,k*13+3,none⟩=some (.int .i64 x.x.nu):=at_ 3 (by omega) _ rfl
   have d4:wr.cell? ⟨g,k*13+4,none⟩=some (.int .i64 x.x.ti):=at_ 4 (by omega) _ rfl
   have d5:wr.cell? ⟨g,k*13+5,none⟩=some (.int .i64 x.x.so):=at_ 5 (by omega) _ rfl
   have d6:wr.cell? ⟨g,k*13+6,none⟩=some (x.cv):=at_ 6 (by omega) _ rfl
   have d7:wr.cell? ⟨g,k*13+7,none⟩=some (.bool x.x.ex):=at_ 7 (by omega) _ rfl
   have d8:wr.cell? ⟨g,k*13+8,none⟩=some (.int .i64 x.x.pr):=at_ 8 (by omega) _ rfl
   have d9:wr.cell? ⟨g,k*13+9,none⟩=some (.string x.x.en):=at_ 9 (by omega) _ rfl
   have d10:wr.cell? ⟨g,k*13+10,none⟩=some (.string x.x.py):=at_ 10 (by omega) _ rfl
   have d11:wr.cell? ⟨g,k*13+11,none⟩=some (.int .i64 x.x.pa):=at_ 11 (by omega) _ rfl
   have d12:wr.cell? ⟨g,k*13+12,none⟩=some (.int .i64 x.rests):=at_ 12 (by omega) _ rfl
   have hcB:wr.cell? ⟨B,0,none⟩=some (.int .u16 num):=(Hbel.out.cell (p:=⟨B,0,none⟩) (lt_of_cell Hc.out)).trans Hc.out
   have Hx:=hyd hx
   clear at_ hx
   go_wp2_with fail
   refine(find1K_any x num B _ hcB).mono ?_
   rintro e w1 ⟨rfl,hb1⟩
   have Hb1:Hid (Below w.heap.size w w1):=Hbel.out.trans (hb1.mono Hbel.out.size)
   clear hb1 d0 d1 d2 d3 d4 d5 d6 d7 d8 d9 d10 d11 d12 hcB
   by_cases he:x.n=num
   ·rw[decide_eq_true he]
    have Hp:Hid (posF num (l.map (·.n))=(k:Int)):=by
     refine posF_at num (l.map (·.n)) k (by simpa using hlt) (fun m hm=>?_) ?_
     ·rw[List.getElem_map];exact Hno.out m (by omega) hm
     ·rw[List.getElem_map,Hx.out];exact he
    go_wp2
    go_ret
    exact⟨ret_int Hp.out.symm,Hb1.out⟩
   ·rw[decide_eq_false he]
    have He:=hyd he
    clear he
    go_wp2
    go_roundw
    case rel=>exact⟨k+1,by omega,by go_num,fun m hm hmk=>by
     rcases Nat.lt_or_ge m k with h|h
     ·exact Hno.out m hm h
     ·obtain rfl:m=k:=by omega
      rw[Hx.out];exact He.out,Hb1.out⟩
    case measure=>simp[intOf];omega
  ·have hlt':¬(k:Int)<l.length:=by omega
   have Hp:Hid (posF num (l.map (·.n)) = -1):=by
    refine posF_no num _ (fun y hy=>?_)
    obtain⟨z,hz,rfl⟩:=List.mem_map.1 hy
    obtain⟨m,hm,rfl⟩:=List.mem_iff_getElem.1 hz
    exact Hno.out m hm (by omega)
   go_wp2
   go_ret
   exact⟨ret_int Hp.out.symm,Hbel.out⟩
theorem findK_any (base sb:Nat) (v:Value) (l:List Kp) (num:Nat) (w:World) (hv:w.cell? ⟨sb,2,none⟩=some v) (hown:w.ownsRow base 194 13 v l.length (l.flatMap cellsK)) (hn:l.length<=100000) :
  Calls Tryz.prog 117 #[.pointer (some ⟨sb,0,none⟩),.int .u16 num] w fun e w'=>e = .returned (.int .i64 (posF num (l.map (·.n))))/\Below w.heap.size w w':=by
 obtain⟨ao,cap,rfl⟩:=rowA_shape hown
 have Hown:=hyd hown
 have hlt:sb<w.heap.size:=lt_of_cell hv
 have hne:sb≠w.heap.size:=by omega
 clear hown
 go_enter Tryz.func117,Tryz.ntmps117
 go_wp2_with fail
 refine(indexK_any base _ l num w.heap.size _ (World.ownsRow.alloc Hown.out _) (cell_new _ _ _ 0) hn).mono ?_
 rintro e w1 ⟨rfl,hb1⟩
 have Hb1:Hid (Below w.heap.size w w1):=((Below.refl _ _).alloc (Nat.le_refl _) _).trans (hb1.mono (by simp))
 clear hb1
 go_wp2
 go_ret
 exact⟨rfl,Hb1.out⟩
end Go.Proofs.YtdjhhnolcafkiaaGreat
namespace Go.Proofs.YtdjhhnolcafkiaaGreat
open Go.RowKit
namespace Pk
theorem zeroK (w:World):(zeroValue 194).run Tryz.prog w = .ok (.agg #[.int .u16 0,.bool false,.int .i64 0,.int .i64 0,.int .i64 0,.int .i64 0,.slice none 0 0,.bool false,.int .i64 0,.string ⟨#[]⟩,.string ⟨#[]⟩,.int .i64 0,.int .i64 0]) w:=by kernel_rfl
theorem infoK:(Tryz.prog.info? 194).map (fun i=>(i.zero,i.size,i.bytes))=some (some (.agg #[.int .u16 0,.bool false,.int .i64 0,.int .i64 0,.int .i64 0,.int .i64 0,.slice none 0 0,.bool false,.int .i64 0,.string ⟨#[]⟩,.string ⟨#[]⟩,.int .i64 0,.int .i64 0]),13,136):=by kernel_rfl
theorem wp_append_shiftK {w:World}{o:Oper}{a:Act}{K:Act->World->Prop}{Q:Exit->Act->World->Prop}(s x:Operand)
  (ho:o.op = .call { callee:=.builtin .append,args:=#[s,x],argTypes:=#[137,137] }) (g i cap:Nat) (hs:a.eval s = .slice (some ⟨g,0,none⟩) i cap) (ad:Addr) (m c:Nat) (news:List Value)
  (hx:a.eval x = .slice (some ad) m c) (hl:news.length=m*13) (hnews:∀j u,news[j]? = some u->w.cell? (ad.add j)=some u) (h1:∀u∈news,u.oneCell'=true) (hroom:i+m<=cap)
  (hc:∀j,j<news.length->(w.cell? ⟨g,0+i*13+j,none⟩).isSome=true) (hf:∀j,j<news.length->w.frozen? ⟨g,0+i*13+j,none⟩=false)
  (h:K (a.put o.dst (.slice (some ⟨g,0,none⟩) (i+m) cap)) (w.setCells g (0+i*13) news)):o.wp Tryz.prog a w K Q:=by
 obtain⟨i0,hi,hz0,hz1,hz2⟩:=info_parts infoK
 have hr:=run_append_room_cells (P:=Tryz.prog) (w:=w) 137 o.type 194 i0 Tryz.underlying137 hi g 0 i cap ad m c news (by rw[hz1];exact hl) hnews h1 hroom (by rw[hz1];exact hc) (by rw[hz1];exact hf)
 rw[hz1]at hr
 unfold Oper.wp execOp
 simp only[ho,resolve,invoke,builtin,Sem.run_bind,Sem.run_pure,Result.andThen_ok,List.map_toArray,List.map_cons,List.map_nil,hs,hx,hr]
 exact h
end Pk
open Pk
theorem deleteK_any (base:Nat) (v:Value) (n i j:Nat) (xs:List Value) (w:World) (hown:w.ownsRow base 194 13 v n xs) (h1:∀u∈xs,u.oneCell'=true) (hij:i<=j) (hjn:j<=n) (hn:n<=100000) :
  Calls Tryz.prog 130 #[v,.int .i64 i,.int .i64 j] w fun e w'=>∃v',e = .returned v'/\w'.ownsRow base 194 13 v' (n-(j-i)) (xs.take (i*13)++xs.drop (j*13))/\w.grownBy w' v.ownBlock/\v'.ownBlock=v.ownBlock:=by
 obtain⟨ao,cap,rfl⟩:=rowA_shape hown
 have hxl:=hown.1
 have hcap:n<=cap/\(cap:Int)<=9223372036854775807:=by
  obtain⟨_,⟨h2,h0⟩|⟨g,cap',cur,e',_,_,hn',hm',_⟩⟩:=hown
  ·simp only[Value.slice.injEq]at h2
   omega
  ·simp only[Value.slice.injEq]at e'
   unfold maxLen at hm'
   omega
 obtain⟨hcap,hcm⟩:=hcap
 have hcapi:(n:Int)<=cap:=by omega
 have hiji:(i:Int)<=j:=by omega
 have hjni:(j:Int)<=n:=by omega
 have hic:i<=cap:=by omega
 have hjc:j<=cap:=by omega
 by_cases hlt:i<j
 ·obtain⟨g,rfl⟩:=rowA_some hown (by omega)
  have hne:((i:Int) == (j:Int))=false:=by rw[beq_eq_false_iff_ne];omega
  have hc0:¬cap=0:=by omega
  have Hown:=hyd hown
  have H1:=hyd h1
  have Hxl:=hyd hxl
  clear hown h1 hxl
  by_cases hcj:cap=j
  ·obtain rfl:n=j:=by omega
   obtain rfl:n=cap:=by omega
   go_enter Tryz.func130,Tryz.ntmps130
   go_wp2
   refine wp_region_noPanic ?_
   refine wp_region_held_drew (S:=fun _=>True) (by kernel_rfl) trivial (fun zH=>?_)
   refine tka 0 ?_
   refine tka 1 ?_
   refine tka 2 ?_
   refine tka 3 ?_
   refine tka 4 ?_
   refine tka 5 ?_
   refine rd1 6 fun K hK=>?_
   rw[if_pos (by rfl)]
   refine wp_append_shiftK (.tmp 22) (.tmp 25) rfl g i n (by rfl) _ 0 _ [] (by rfl) (by simp) (fun q u hq=>by simp at hq) (fun u hu=>by simp at hu) (by omega) (fun q hq=>by simp at hq) (fun q hq=>by simp at hq) ?_
   refine hK.out _ _ trivial (fun zH=>?_)
   clear hK K
   refine tka 7 ?_
   refine doN ?_
   have R1:(w.drew).ownsRow base 194 13 (.slice (some ⟨g,0,none⟩) n n) n xs:=World.ownsRow.drew Hown.out
   obtain⟨zs,hzl,hcl⟩:=run_clear_row (P:=Tryz.prog) w.drew 137 194 0 (.agg #[.int .u16 0,.bool false,.int .i64 0,.int .i64 0,.int .i64 0,.int .i64 0,.slice none 0 0,.bool false,.int .i64 0,.string ⟨#[]⟩,.string ⟨#[]⟩,.int .i64 0,.int .i64 0]) Tryz.underlying137 zeroK (by intro u hu;simp[Value.cells]at hu;rcases hu with rfl|rfl|rfl|rfl|rfl|rfl|rfl|rfl<;>rfl) (by decide) g (i*13) (n-i) (n-i) (by omega) (fun q hq=>by
    have hq':q<(n-i)*13:=hq
    have:=R1.cellAt (i*13+q) (by omega)
    rw[this,List.getElem?_eq_getElem (by rw[Hxl.out];omega)]
    rfl) (fun q _=>R1.frozenAt _)
   have hzl':zs.length=(n-i)*13:=hzl
   obtain⟨R3,R4⟩:=row_writes zs (i*13) w.drew _ R1 (by rw[hzl',Hxl.out];omega)
   have F1:Hid (World.ownsRow (w.drew.setCells g (i*13) zs) base 194 13 (.slice (some ⟨g,0,none⟩) i n) i (xs.take (i*13)++xs.drop (n*13))):=by
    have h:=row_fewer R3 (m:=i) (by omega) (.inl (by simp))
    have e:(xs.take (i*13)++zs++xs.drop (i*13+zs.length)).take (i*13)=xs.take (i*13)++xs.drop (n*13):=by
     rw[List.drop_of_length_le (i:=n*13) (by rw[Hxl.out];omega),List.append_nil,List.append_assoc,List.take_left' (by rw[List.length_take,Hxl.out];omega)]
    rw[e]at h
    exact h
   have F2:Hid (w.grownBy (w.drew.setCells g (i*13) zs) (some g)):=(World.grownBy_drewX w (some g)).trans R4
   have hcc:∀ty,(Builtin.clear_ #[137] ty #[.slice (some ⟨g,i*13,none⟩) (n-i) (n-i)]).run Tryz.prog (w.drew.setCells g (i*13) []) = .ok (.tuple #[]) (w.drew.setCells g (i*13) zs):=fun ty=>hcl
   have Hnn:Hid (n-(n-i)=i):=by show _=_;omega
   have hnn3:¬n=i:=by omega
   clear hcl R1 R3 R4 hzl hzl'
   go_wp2_with (simp only[hcc])
   go_ret
   rw[Hnn.out]
   exact⟨_,rfl,F1.out,F2.out,rfl⟩
  ·go_enter Tryz.func130,Tryz.ntmps130
   go_wp2
   refine wp_region_noPanic ?_
   refine wp_region_held_drew (S:=fun _=>True) (by kernel_rfl) trivial (fun zH=>?_)
   refine tka 0 ?_
   refine tka 1 ?_
   refine tka 2 ?_
   refine tka 3 ?_
   refine tka 4 ?_
   refine tka 5 ?_
   refine rd1 6 fun K hK=>?_
   rw[if_pos (by rfl)]
   refine wp_append_shiftK (.tmp 22) (.tmp 25) rfl g i cap (by rfl) _ (n-j) _ (xs.drop (j*13)) (by rfl) (by rw[List.length_drop,Hxl.out,Nat.sub_mul]) (fun q u hq=>by
    have hql:j*13+q<xs.length:=by have:=(List.getElem?_eq_some_iff.1 hq).1;rw[List.length_drop]at this;omega
    rw[List.getElem?_drop]at hq
    show World.cell? w ((⟨g,j*13,none⟩:Addr).add q)=some u
    rw[show(⟨g,j*13,none⟩:Addr).add q=⟨g,j*13+q,none⟩ by unfold Addr.add;split<;>simp_all,Hown.out.cellAt _ (by rw[<-Hxl.out];exact hql)]
    exact hq) (fun u hu=>H1.out u (List.mem_of_mem_drop hu)) (by omega) (fun q hq=>by
    rw[List.length_drop,Hxl.out]at hq
    have:=Hown.out.cellAt (i*13+q) (by omega)
    show(World.cell? w ⟨g,0+i*13+q,none⟩).isSome=true
    rw[Nat.zero_add,this,List.getElem?_eq_getElem (by rw[Hxl.out];omega)]
    rfl) (fun q _=>Hown.out.frozenAt _) ?_
   refine hK.out _ _ trivial (fun zH=>?_)
   clear hK K
   refine tka 7 ?_
   refine doN ?_
   have hdl:(xs.drop (j*13)).length=(n-j)*13:=by rw[List.length_drop,Hxl.out,Nat.sub_mul]
   obtain⟨R1,R2⟩:=row_writes (xs.drop (j*13)) (0+i*13) w.drew xs (World.ownsRow.drew Hown.out) (by rw[hdl,Hxl.out];omega)
   generalize hw1:(w.drew).setCells g (0+i*13) (xs.drop (j*13))=w1 at *
   have hxl1:=R1.1
   obtain⟨zs,hzl,hcl⟩:=run_clear_row (P:=Tryz.prog) w1 137 194 0 (.agg #[.int .u16 0,.bool false,.int .i64 0,.int .i64 0,.int .i64 0,.int .i64 0,.slice none 0 0,.bool false,.int .i64 0,.string ⟨#[]⟩,.string ⟨#[]⟩,.int .i64 0,.int .i64 0]) Tryz.underlying137 zeroK (by intro u hu;simp[Value.cells]at hu;rcases hu with rfl|rfl|rfl|rfl|rfl|rfl|rfl|rfl<;>rfl) (by decide) g ((i+(n-j))*13) (n-(i+(n-j))) (cap-(i+(n-j))) (by omega) (fun q hq=>by
    have hq':q<(n-(i+(n-j)))*13:=hq
    have:=R1.cellAt ((i+(n-j))*13+q) (by omega)
    rw[this,List.getElem?_eq_getElem (by rw[hxl1];omega)]
    rfl) (fun q _=>R1.frozenAt _)
   have hzl':zs.length=(n-(i+(n-j)))*13:=hzl
   obtain⟨R3,R4⟩:=row_writes zs ((i+(n-j))*13) w1 _ R1 (by rw[hzl',hxl1];omega)
   have F1:Hid (World.ownsRow (w1.setCells g ((i+(n-j))*13) zs) base 194 13 (.slice (some ⟨g,0,none⟩) (i+(n-j)) cap) (i+(n-j)) (xs.take (i*13)++xs.drop (j*13))):=by
    have h:=row_fewer R3 (m:=i+(n-j)) (by omega) (.inl (by simp))
    have e:(((xs.take (0+i*13)++xs.drop (j*13)++xs.drop (0+i*13+(xs.drop (j*13)).length)).take ((i+(n-j))*13)++zs++(xs.take (0+i*13)++xs.drop (j*13)++xs.drop (0+i*13+(xs.drop (j*13)).length)).drop ((i+(n-j))*13+zs.length)).take ((i+(n-j))*13))=xs.take (i*13)++xs.drop (j*13):=by
     have hl1:(xs.take (i*13)++xs.drop (j*13)).length=(i+(n-j))*13:=by rw[List.length_append,List.length_take,hdl,Hxl.out];omega
     rw[Nat.zero_add,List.take_left' (l₁:=xs.take (i*13)++xs.drop (j*13)) hl1,List.append_assoc,List.take_left' hl1]
    rw[e]at h
    exact h
   have F2:Hid (w.grownBy (w1.setCells g ((i+(n-j))*13) zs) (some g)):=(World.grownBy_drewX w (some g)).trans (R2.trans R4)
   have hcc:∀ty,(Builtin.clear_ #[137] ty #[.slice (some ⟨g,(i+(n-j))*13,none⟩) (n-(i+(n-j))) (cap-(i+(n-j)))]).run Tryz.prog w1 = .ok (.tuple #[]) (w1.setCells g ((i+(n-j))*13) zs):=fun ty=>hcl
   have Hnn:Hid (i+(n-j)=n-(j-i)):=by show _=_;omega
   have hnn1:i+(n-j)<=n:=by omega
   have hnn2:i+(n-j)<=cap:=by omega
   have hnn3:¬cap=i+(n-j):=by omega
   have hnn4:((i+(n-j):Nat):Int)<=n:=by omega
   clear hcl R1 R2 R3 R4 hzl hzl' hdl hxl1 hw1
   generalize i+(n-j)=m at *
   go_wp2_with (simp only[hcc])
   go_ret
   rw[<-Hnn.out]
   exact⟨_,rfl,F1.out,F2.out,rfl⟩
 ·have hij':i=j:=by omega
  subst hij'
  have hne:((i:Int) == (i:Int))=true:=by simp
  have Hown:Hid (∀m,m=n->w.ownsRow base 194 13 (.slice ao m cap) m xs):=fun m e=>by rw[e];exact hown
  clear hown h1 hxl
  rw[Nat.sub_self,Nat.sub_zero,List.take_append_drop]
  go_enter Tryz.func130,Tryz.ntmps130
  go_wp2
  all_goals go_ret
  all_goals exact⟨_,rfl,Hown.out _ (by first|rfl|omega|simp_all),World.grownBy.refl _ _,rfl⟩
end Go.Proofs.YtdjhhnolcafkiaaGreat
