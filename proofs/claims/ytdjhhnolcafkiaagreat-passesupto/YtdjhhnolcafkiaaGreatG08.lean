import Derived.Test.YtdjhhnolcafkiaaGreatG07
import Derived.Test.YtdjhhnolcafkiaaGreatG04
import Derived.Test.YtdjhhnolcafkiaaGreatG01
set_option linter.unusedVariables false
set_option linter.unusedSimpArgs false
set_option maxHeartbeats 40000000
set_option maxRecDepth 20000
namespace Go.Proofs.YtdjhhnolcafkiaaGreat
open Go.RowKit Pk
theorem region_once {P:Program}{c:Code}{Q:Exit->Act->World->Prop}{a a':Act}{w w':World}(h1:Q .normal a' w'->Code.wp P c Q a w) (h2:Q .normal a' w'):Code.wp P c Q a w:=h1 h2
theorem region_once3 {P:Program}{c:Code}{Q:Exit->Act->World->Prop}{a:Act}{w:World}{R:Option Addr->Nat->World->Prop}{fa:Option Addr->Nat->World->Act}{fw:Option Addr->Nat->World->World}
  (h1:(∀a' c' w1,R a' c' w1->Q .normal (fa a' c' w1) (fw a' c' w1))->Code.wp P c Q a w) (h2:∀a' c' w1,R a' c' w1->Q .normal (fa a' c' w1) (fw a' c' w1)):Code.wp P c Q a w:=h1 h2
theorem cell_alloc {W:World}{a:Addr}{u:Value}(h:W.cell? a=some u) (o:Obj):(W.alloc o).cell? a=some u:=(World.cell?_alloc_lt _ _ _ (lt_of_cell h)).trans h
theorem refNoughts_at (a:Int) (n:Nat) (w:World) (ha:a=n) (hn:n<=255) :
  Calls Tryz.prog 71 #[.int .i64 a] w fun e w'=>(∃t:ByteArray,e = .returned (.string t)/\t.data.toList=List.replicate n 0)/\w'=w:=by
 subst ha
 exact refNoughts_any n w hn
theorem tku {P:Program}{md:Region.Mode}{ops:Array Oper}{Q:Exit->Act->World->Prop}{S:World->Prop}{fuel:Nat}{listed l':Array Bool}{a a':Act}{w:World}{oi:Oper}(i:Nat) (h:wpAnyH P md ops Q S fuel l' a' w)
  (hS:S w:=by exact zH)
  (hi:ops[i]? = some oi:=by rfl)
  (hs:Region.noSelect ops=true:=by kernel_rfl) (hf:Region.free md ops listed i=true:=by kernel_rfl) (hr:(Region.ready md ops listed).contains i=true:=by kernel_rfl)
  (hw:Region.wanted oi (yielded ops a.tmps)=false:=by rfl)
  (ha:a.put oi.dst undef=a':=by((try simp only[Act.put]);(try simp only[List.getElem_toArray]);(try simp only[List.getElem_cons_succ]);(try simp only[List.getElem_cons_zero]);(try simp only[List.setIfInBounds_toArray]);(try simp only[List.set_cons_succ]);(try simp only[List.set_cons_zero]);first|done|rfl))
  (hl:listed.setIfInBounds i true=l':=by((try simp only[List.setIfInBounds_toArray]);(try simp only[List.set_cons_succ]);(try simp only[List.set_cons_zero]);first|done|rfl))
  (hQ:∀c a w,Q (.panic c) (a.put oi.dst undef) w->Q (.panic c) a w:=by exact fun _ _ _ h=>h):wpAnyH P md ops Q S (fuel+1) listed a w:=by
 subst ha hl
 exact wpAnyH_take hi hs hf hr hQ (Or.inr ⟨hw,rfl⟩) hS h
set_option maxRecDepth 100000 in
theorem rp_any (s:ByteArray) (w:World) (hs:12<=s.size) (hs2:s.size<=1500) (hm:(B0 s).toNat/64=2) (hat:at0 s<=s.size) :
  Calls Tryz.prog 55 #[.string s] w fun e w'=>Below w.heap.size w w'/\ReadAs (readP s) w.heap.size e w':=by
 have hi:(12:Int)<=s.size:=by omega
 have hi2:(s.size:Int)<=1500:=by omega
 have i0:(0:Int)<s.size:=by omega
 have i1:(1:Int)<s.size:=by omega
 have hbad:bad1 s=false:=by unfold bad1;exact decide_eq_false (by omega)
 have HP:Hid (readP s=(extPart s).bind fun x=>(padPart s x.2.2).map fun y=>mkP s x y):=readP_of s hbad hat
 clear hbad
 have j0:∀W:World,(Instr.index 9 (.string s) (.int .i64 0)).run Tryz.prog W = .ok (.int .u8 ((B0 s).toNat:Int)) W:=fun W=>by
  rw[run_index_string W 9 s .i64 0 Tryz.underlying9,dif_pos ⟨by omega,i0⟩,<-get0 s (by omega)];rfl
 have j1:∀W:World,(Instr.index 9 (.string s) (.int .i64 1)).run Tryz.prog W = .ok (.int .u8 ((B1 s).toNat:Int)) W:=fun W=>by
  rw[run_index_string W 9 s .i64 1 Tryz.underlying9,dif_pos ⟨by omega,i1⟩,<-get1 s (by omega)];rfl
 have hlo:¬((B0 s).toNat:Int)<128:=by omega
 have hhi:¬(191:Int)<((B0 s).toNat:Int):=by omega
 have hb1:=(B1 s).toNat_lt
 have e128:IntKind.i64.wrap ((B1 s).toNat:Int)=((B1 s).toNat:Int):=wrapI64 _ (by omega) (by omega)
 have e129:((B1 s).toNat:Int).tmod 128=((B1 s).toNat:Int)%128:=Int.tmod_eq_emod_of_nonneg (by omega)
 obtain⟨A,hA⟩:∃A,A=at0 s:=⟨_,rfl⟩
 have HA:=hyd hA
 obtain⟨C,hC⟩:∃C,C=(B0 s).toNat%16:=⟨_,rfl⟩
 have hC1:((B0 s).toNat:Int)%16=(C:Int):=by omega
 have hC2:C<=15:=by omega
 have hA1:(12+4*(C:Int))=(A:Int):=by rw[hA];unfold at0;omega
 have hA2:A<=s.size:=by rw[hA];exact hat
 have hA3:12<=A/\A<=72:=by rw[hA];unfold at0;omega
 have hA4:A=12+4*C:=by omega
 have hAs:¬(s.size:Int)<A:=by omega
 have hdl:(s.extract 12 A).data.toList.length=4*C:=by rw[<-Lib.size_eq,ByteArray.size_extract];omega
 have HW:Hid (∀k,k<C->(words (s.extract 12 A).data.toList).getD k 0=(num ((s.data.toList.drop (12+4*k)).take 4):Int)):=by
  intro k hk
  rw[words_get C _ hdl k hk,Lib.extract_data,List.drop_take,List.drop_drop,List.take_take]
  congr 3
  omega
 have hcl0:(words (s.extract 12 A).data.toList).length=C:=words_length C _ hdl
 generalize hcl:words (s.extract 12 A).data.toList=cl at *
 have Hcl:=hyd hcl
 have HL:=hyd hcl0
 have HA4:=hyd hA4
 have HC:=hyd hC
 clear hcl hcl0 hdl hm hat hA hA4 hC
 go_enter Tryz.func55,Tryz.ntmps55
 go_wp2
 refine region_once (a':=?fa) (w':=?fw) ?h1 ?h2
 case h1=>
  intro hQ
  refine wp_region_noPanic ?_
  refine wp_region_held_drew (S:=fun _=>True) (by kernel_rfl) trivial (fun zH=>?_)
  refine tka 0 ?_
  refine tka 1 ?_
  refine tka 2 ?_
  refine tka 3 ?_
  refine tka 4 ?_
  refine tka 5 ?_
  refine tka 6 ?_
  refine tka 7 ?_
  refine tka 9 ?_
  refine tka 11 ?_
  refine wpAnyH_ready (rs:=[8,14]) (by kernel_rfl) (by simp) ?_
  refine AllReadyH.cons rfl (fun K hK=>?_) (AllReadyH.cons rfl (fun K hK=>?_) AllReadyH.nil)
  ·go_simp
   refine(refNumber_at s _ _ 2 2 _ hs2 rfl rfl (by omega) (by omega)).mono ?_
   rintro e w1 ⟨rfl,rfl⟩
   go_wp2_with fail
   refine hK.out _ _ trivial (fun zH=>?_)
   clear hK K
   refine wpAnyH_ready (rs:=[10,14]) (by kernel_rfl) (by simp) ?_
   refine AllReadyH.cons rfl (fun K hK=>?_) (AllReadyH.cons rfl (fun K hK=>?_) AllReadyH.nil)
   ·go_simp
    refine(refNumber_at s _ _ 4 4 _ hs2 rfl rfl (by omega) (by omega)).mono ?_
    rintro e w1 ⟨rfl,rfl⟩
    go_wp2_with fail
    refine hK.out _ _ trivial (fun zH=>?_)
    clear hK K
    refine wpAnyH_ready (rs:=[12,14]) (by kernel_rfl) (by simp) ?_
    refine AllReadyH.cons rfl (fun K hK=>?_) (AllReadyH.cons rfl (fun K hK=>?_) AllReadyH.nil)
    ·go_simp
     refine(refNumber_at s _ _ 8 4 _ hs2 rfl rfl (by omega) (by omega)).mono ?_
     rintro e w1 ⟨rfl,rfl⟩
     go_wp2_with fail
     refine hK.out _ _ trivial (fun zH=>?_)
     clear hK K
     refine tka 13 ?_
     refine rd1 14 fun K hK=>?_
     go_simp
     refine hK.out _ _ trivial (fun zH=>?_)
     clear hK K
     refine rd1 15 fun K hK=>?_
     go_simp
     refine hK.out _ _ trivial (fun zH=>?_)
     clear hK K
     refine doN ?_
     exact hQ
    ·go_simp
     refine hK.out _ _ trivial (fun zH=>?_)
     clear hK K
     refine rd1 12 fun K hK=>?_
     go_simp
     refine(refNumber_at s _ _ 8 4 _ hs2 rfl rfl (by omega) (by omega)).mono ?_
     rintro e w1 ⟨rfl,rfl⟩
     go_wp2_with fail
     refine hK.out _ _ trivial (fun zH=>?_)
     clear hK K
     refine tka 13 ?_
     refine rd1 15 fun K hK=>?_
     go_simp
     refine hK.out _ _ trivial (fun zH=>?_)
     clear hK K
     refine doN ?_
     exact hQ
   ·go_simp
    refine hK.out _ _ trivial (fun zH=>?_)
    clear hK K
    refine rd1 10 fun K hK=>?_
    go_simp
    refine(refNumber_at s _ _ 4 4 _ hs2 rfl rfl (by omega) (by omega)).mono ?_
    rintro e w1 ⟨rfl,rfl⟩
    go_wp2_with fail
    refine hK.out _ _ trivial (fun zH=>?_)
    clear hK K
    refine rd1 12 fun K hK=>?_
    go_simp
    refine(refNumber_at s _ _ 8 4 _ hs2 rfl rfl (by omega) (by omega)).mono ?_
    rintro e w1 ⟨rfl,rfl⟩
    go_wp2_with fail
    refine hK.out _ _ trivial (fun zH=>?_)
    clear hK K
    refine tka 13 ?_
    refine rd1 15 fun K hK=>?_
    go_simp
    refine hK.out _ _ trivial (fun zH=>?_)
    clear hK K
    refine doN ?_
    exact hQ
  ·go_simp
   refine hK.out _ _ trivial (fun zH=>?_)
   clear hK K
   refine rd1 8 fun K hK=>?_
   go_simp
   refine(refNumber_at s _ _ 2 2 _ hs2 rfl rfl (by omega) (by omega)).mono ?_
   rintro e w1 ⟨rfl,rfl⟩
   go_wp2_with fail
   refine hK.out _ _ trivial (fun zH=>?_)
   clear hK K
   refine rd1 10 fun K hK=>?_
   go_simp
   refine(refNumber_at s _ _ 4 4 _ hs2 rfl rfl (by omega) (by omega)).mono ?_
   rintro e w1 ⟨rfl,rfl⟩
   go_wp2_with fail
   refine hK.out _ _ trivial (fun zH=>?_)
   clear hK K
   refine rd1 12 fun K hK=>?_
   go_simp
   refine(refNumber_at s _ _ 8 4 _ hs2 rfl rfl (by omega) (by omega)).mono ?_
   rintro e w1 ⟨rfl,rfl⟩
   go_wp2_with fail
   refine hK.out _ _ trivial (fun zH=>?_)
   clear hK K
   refine tka 13 ?_
   refine rd1 15 fun K hK=>?_
   go_simp
   refine hK.out _ _ trivial (fun zH=>?_)
   clear hK K
   refine doN ?_
   exact hQ
 generalize hp0:decide (128<=((B1 s).toNat:Int))=b0 at *
 have Hp0:=hyd hp0
 generalize hp1:((B1 s).toNat:Int)%128=n1 at *
 have Hp1:=hyd hp1
 generalize hn2:num (List.take 2 (List.drop 2 s.data.toList))=n2 at *
 have Hn2:=hyd hn2
 generalize hn3:num (List.take 4 (List.drop 4 s.data.toList))=n3 at *
 have Hn3:=hyd hn3
 generalize hn4:num (List.take 4 (List.drop 8 s.data.toList))=n4 at *
 have Hn4:=hyd hn4
 clear hp0 hp1 hn2 hn3 hn4 e128 e129 j1 hb1
 have hinfo:(Tryz.prog.info? 3).map (fun i=>(i.zero,i.size,i.bytes))=some (some (.int .i64 0),1,8):=by kernel_rfl
 obtain⟨i0',hi',hz0,hz1,hz2⟩:=info_parts hinfo
 have Hi:Hid (Tryz.prog.info? 3=some i0'/\i0'.zero=some (.int .i64 0)/\i0'.size=1/\i0'.bytes=8):=⟨hi',hz0,hz1,hz2⟩
 clear hi' hz0 hz1 hz2 hinfo
 go_wp2
 go_loopw [9] (fun i wr=>∃(k:Nat) (v:Value),k<=C/\i = .int .i64 k/\RS w wr (.bool b0) (.int .i64 n1) (.int .i64 n2) (.int .i64 n3) (.int .i64 n4) v (.bool false) (.int .i64 0) (.string ⟨#[]⟩) (.string ⟨#[]⟩) (.int .i64 0)/\OwnInts wr (w.heap.size+1+1+1) v (cl.take k)) (fun i _=>C-(intOf i).toNat)
 case atStart=>exact⟨0,.slice none 0 0,by omega,rfl,RS.init ..,World.ownsRow_nil _ _ _ _⟩
 case round=>
  obtain⟨k,v,hkC,rfl,hRS,hown⟩:=hrel
  have hlk:(cl.take k).length=k:=by rw[List.length_take,HL.out];omega
  obtain⟨a1,c1,hv⟩:=hown.shape
  rw[hlk]at hv
  subst hv
  by_cases hlt:k<C
  ·have Htk:Hid (cl.take (k+1)=cl.take k++[(num (List.take 4 (List.drop (12+4*k) s.data.toList)):Int)]):=by
    show _=_
    rw[<-HW.out k hlt,List.take_succ_eq_append_getElem (by rw[HL.out];exact hlt)]
    simp[List.getD,HL.out,hlt]
   obtain⟨q,hq⟩:∃q,num (List.take 4 (List.drop (12+4*k) s.data.toList))=q:=⟨_,rfl⟩
   have Hq:=hyd hq
   rw[hq]at Htk
   clear hq
   have hlk1:Hid ((cl.take (k+1)).length=k+1):=by show _=_;rw[List.length_take,HL.out];omega
   have hsz:=hRS.siz
   have hy5:=hRS.y5
   have hal:∀o,(wr.alloc o).cell? ⟨w.heap.size+1+1,5,none⟩=_:=fun o=>cell_alloc hy5 o
   have HRS:=hyd hRS
   have Hown:Hid (wr.ownsRow (w.heap.size+1+1+1) 3 1 (.slice a1 k c1) k ((cl.take k).map (Value.int .i64))):=by have h:wr.ownsRow _ _ _ _ _ _:=hown;rw[hlk]at h;exact h
   have hlt':(k:Int)<C:=by omega
   have hw4:IntKind.i64.wrap (4*(k:Int))=4*(k:Int):=wrapI64 _ (by omega) (by omega)
   have hw12:IntKind.i64.wrap (12+4*(k:Int))=12+4*(k:Int):=wrapI64 _ (by omega) (by omega)
   have hkA:12+4*k+4<=A:=by have:=HA4.out;omega
   clear hRS hown hlk
   go_wp2
   refine region_once3 (R:=fun a' c' w1=>OwnInts w1 (w.heap.size+1+1+1) (.slice a' (k+1) c') (cl.take (k+1))/\RS w w1 (.bool b0) (.int .i64 n1) (.int .i64 n2) (.int .i64 n3) (.int .i64 n4) (.slice a1 k c1) (.bool false) (.int .i64 0) (.string ⟨#[]⟩) (.string ⟨#[]⟩) (.int .i64 0)) (fa:=?fa3) (fw:=?fw3) ?g1 ?g2
   case g1=>
    intro hQ
    refine wp_region_noPanic ?_
    refine wp_region_held_drew (S:=fun _=>True) (by kernel_rfl) trivial (fun zH=>?_)
    refine tka 0 ?_
    refine tka 2 ?_
    refine tka 3 ?_
    refine tka 4 ?_
    refine tka 5 ?_
    refine wpAnyH_ready (rs:=[1,6]) (by kernel_rfl) (by simp) ?_
    refine AllReadyH.cons rfl (fun K hK=>?_) (AllReadyH.cons rfl (fun K hK=>?_) AllReadyH.nil)
    ·go_simp
     refine hK.out _ _ trivial (fun zH=>?_)
     clear hK K
     refine rd1 6 fun K hK=>?_
     go_simp
     refine(refNumber_at s _ _ (12+4*k) 4 _ hs2 (by omega) rfl (by omega) (by omega)).mono ?_
     rintro e w1 ⟨rfl,rfl⟩
     rw[Hq.out]
     go_wp2_with fail
     refine hK.out _ _ trivial (fun zH=>?_)
     clear hK K
     refine rd1 7 fun K hK=>?_
     go_simp
     refine hK.out _ _ trivial (fun zH=>?_)
     clear hK K
     refine rd1 8 fun K hK=>?_
     rw[if_pos (by rfl)]
     refine wp_append_own _ (.tmp 65) (.tmp 71) 34 rfl (w.heap.size+1+1+1) 3 i0' (.int .i64 0) 1 8 Tryz.underlying34 Hi.out.1 Hi.out.2.1 Hi.out.2.2.1 Hi.out.2.2.2 rfl (by decide) (.slice a1 k c1) k ((cl.take k).map (Value.int .i64)) (by rfl) (World.ownsRow.drew (World.ownsRow.alloc Hown.out _)) _ 1 1 [.int .i64 q] (by rfl) rfl (cell_one_new _ _ _) ?_ ?_ ?_ ?_ ?_
     ·intro u hu;simp at hu;subst hu;rfl
     ·unfold maxLen;omega
     ·omega
     ·have:=hsz;simp;omega
     intro v' w1 hown' hgrow _
     have R1:OwnInts w1 (w.heap.size+1+1+1) v' (cl.take (k+1)):=by show w1.ownsRow _ _ _ _ _ _;rw[hlk1.out,Htk.out,List.map_append];exact hown'
     have R2:RS w w1 (.bool b0) (.int .i64 n1) (.int .i64 n2) (.int .i64 n3) (.int .i64 n4) (.slice a1 k c1) (.bool false) (.int .i64 0) (.string ⟨#[]⟩) (.string ⟨#[]⟩) (.int .i64 0):=(HRS.out.below (((Below.refl _ _).alloc (Nat.succ_le_of_lt hsz) _).drew)).below ((Below.refl _ _).grown hgrow (by have:=hsz;simp;omega) (fun g hg=>(World.ownsRow.lt Hown.out g hg).1))
     obtain⟨a',c',hv'⟩:=R1.shape
     rw[hlk1.out]at hv'
     subst hv'
     refine hK.out _ _ trivial (fun zH=>?_)
     clear hK K hown' hgrow
     refine tka 9 ?_
     refine rd1 10 fun K hK=>?_
     have yy:=R2.y5
     have ff:=R2.fy
     go_simp
     refine hK.out _ _ trivial (fun zH=>?_)
     clear hK K
     refine doN ?_
     exact hQ a' c' w1 ⟨R1,R2⟩
    ·go_simp
     refine(refNumber_at s _ _ (12+4*k) 4 _ hs2 (by omega) rfl (by omega) (by omega)).mono ?_
     rintro e w1 ⟨rfl,rfl⟩
     rw[Hq.out]
     go_wp2_with fail
     refine hK.out _ _ trivial (fun zH=>?_)
     clear hK K
     refine wpAnyH_ready (rs:=[1,7]) (by kernel_rfl) (by simp) ?_
     refine AllReadyH.cons rfl (fun K hK=>?_) (AllReadyH.cons rfl (fun K hK=>?_) AllReadyH.nil)
     ·go_simp
      refine hK.out _ _ trivial (fun zH=>?_)
      clear hK K
      refine rd1 7 fun K hK=>?_
      go_simp
      refine hK.out _ _ trivial (fun zH=>?_)
      clear hK K
      refine rd1 8 fun K hK=>?_
      rw[if_pos (by rfl)]
      refine wp_append_own _ (.tmp 65) (.tmp 71) 34 rfl (w.heap.size+1+1+1) 3 i0' (.int .i64 0) 1 8 Tryz.underlying34 Hi.out.1 Hi.out.2.1 Hi.out.2.2.1 Hi.out.2.2.2 rfl (by decide) (.slice a1 k c1) k ((cl.take k).map (Value.int .i64)) (by rfl) (World.ownsRow.drew (World.ownsRow.alloc Hown.out _)) _ 1 1 [.int .i64 q] (by rfl) rfl (cell_one_new _ _ _) ?_ ?_ ?_ ?_ ?_
      ·intro u hu;simp at hu;subst hu;rfl
      ·unfold maxLen;omega
      ·omega
      ·have:=hsz;simp;omega
      intro v' w1 hown' hgrow _
      have R1:OwnInts w1 (w.heap.size+1+1+1) v' (cl.take (k+1)):=by show w1.ownsRow _ _ _ _ _ _;rw[hlk1.out,Htk.out,List.map_append];exact hown'
      have R2:RS w w1 (.bool b0) (.int .i64 n1) (.int .i64 n2) (.int .i64 n3) (.int .i64 n4) (.slice a1 k c1) (.bool false) (.int .i64 0) (.string ⟨#[]⟩) (.string ⟨#[]⟩) (.int .i64 0):=(HRS.out.below (((Below.refl _ _).alloc (Nat.succ_le_of_lt hsz) _).drew)).below ((Below.refl _ _).grown hgrow (by have:=hsz;simp;omega) (fun g hg=>(World.ownsRow.lt Hown.out g hg).1))
      obtain⟨a',c',hv'⟩:=R1.shape
      rw[hlk1.out]at hv'
      subst hv'
      refine hK.out _ _ trivial (fun zH=>?_)
      clear hK K hown' hgrow
      refine tka 9 ?_
      refine rd1 10 fun K hK=>?_
      have yy:=R2.y5
      have ff:=R2.fy
      go_simp
      refine hK.out _ _ trivial (fun zH=>?_)
      clear hK K
      refine doN ?_
      exact hQ a' c' w1 ⟨R1,R2⟩
     ·go_simp
      refine hK.out _ _ trivial (fun zH=>?_)
      clear hK K
      refine rd1 1 fun K hK=>?_
      go_simp
      refine hK.out _ _ trivial (fun zH=>?_)
      clear hK K
      refine rd1 8 fun K hK=>?_
      rw[if_pos (by rfl)]
      refine wp_append_own _ (.tmp 65) (.tmp 71) 34 rfl (w.heap.size+1+1+1) 3 i0' (.int .i64 0) 1 8 Tryz.underlying34 Hi.out.1 Hi.out.2.1 Hi.out.2.2.1 Hi.out.2.2.2 rfl (by decide) (.slice a1 k c1) k ((cl.take k).map (Value.int .i64)) (by rfl) (World.ownsRow.drew (World.ownsRow.alloc Hown.out _)) _ 1 1 [.int .i64 q] (by rfl) rfl (cell_one_new _ _ _) ?_ ?_ ?_ ?_ ?_
      ·intro u hu;simp at hu;subst hu;rfl
      ·unfold maxLen;omega
      ·omega
      ·have:=hsz;simp;omega
      intro v' w1 hown' hgrow _
      have R1:OwnInts w1 (w.heap.size+1+1+1) v' (cl.take (k+1)):=by show w1.ownsRow _ _ _ _ _ _;rw[hlk1.out,Htk.out,List.map_append];exact hown'
      have R2:RS w w1 (.bool b0) (.int .i64 n1) (.int .i64 n2) (.int .i64 n3) (.int .i64 n4) (.slice a1 k c1) (.bool false) (.int .i64 0) (.string ⟨#[]⟩) (.string ⟨#[]⟩) (.int .i64 0):=(HRS.out.below (((Below.refl _ _).alloc (Nat.succ_le_of_lt hsz) _).drew)).below ((Below.refl _ _).grown hgrow (by have:=hsz;simp;omega) (fun g hg=>(World.ownsRow.lt Hown.out g hg).1))
      obtain⟨a',c',hv'⟩:=R1.shape
      rw[hlk1.out]at hv'
      subst hv'
      refine hK.out _ _ trivial (fun zH=>?_)
      clear hK K hown' hgrow
      refine tka 9 ?_
      refine rd1 10 fun K hK=>?_
      have yy:=R2.y5
      have ff:=R2.fy
      go_simp
      refine hK.out _ _ trivial (fun zH=>?_)
      clear hK K
      refine doN ?_
      exact hQ a' c' w1 ⟨R1,R2⟩
   intro a' c' w1 hR
   obtain⟨R1,R2⟩:=hR
   have hRS:=R2.set5 (.slice a' (k+1) c')
   have hown:=R1.setCell (a:=⟨w.heap.size+1+1,5,none⟩) (by simp) (.slice a' (k+1) c')
   clear R1 R2
   go_wp2
   go_roundw
   case rel=>exact⟨k+1,_,by omega,by go_num,hRS,hown⟩
   case measure=>simp[intOf];omega
  ·have hkk:k=C:=by omega
   subst hkk
   have Hown:Hid (OwnInts wr (w.heap.size+1+1+1) (.slice a1 k c1) cl):=by rw[List.take_of_length_le (by rw[HL.out];exact Nat.le_refl _)]at hown;exact hown
   have hnlt:¬(k:Int)<k:=by omega
   have hb0:(B0 s).toNat<=255:=by have:=(B0 s).toNat_lt;omega
   have E0:Hid (b0=decide (128<=(B1 s).toNat)):=by show _=_;rw[<-Hp0.out,decide_eq_decide];omega
   have E1:Hid (n1=(((B1 s).toNat%128:Nat):Int)):=by show _=_;rw[<-Hp1.out];omega
   clear hown hlk hkC hlt HW Hi HA4 hA1 hC1 hC2
   have HRS:=hyd hRS
   obtain⟨bel,siz,r0,r1,r2,r3,r4,r5,r6,r7,r8,r9,r10,m0,m1,m2,m3,m4,m5,m6,m7,m8,m9,m10,y0,y1,y2,y3,y4,y5,y6,y7,y8,y9,y10,fr,fy⟩:=hRS
   by_cases hx:(B0 s).toNat/16%2=1
   ·have hxd:decide ((B0 s).toNat/2 ^ 4%2=1)=true:=decide_eq_true (by simpa using hx)
    have hxe:decide ((B0 s).toNat/16%2=1)=true:=decide_eq_true hx
    have HX0:Hid (extPart s=if s.size-A<4 then none else if s.size-(A+4)<extLen s then none else some (num (s.extract A (A+2)).data.toList,s.extract (A+4) (A+4+extLen s),A+4+extLen s)):=by show _=_;unfold extPart;rw[if_pos hx,<-HA.out]
    obtain⟨pr,hpr⟩:∃pr,num ((s.data.toList.drop A).take 2)=pr:=⟨_,rfl⟩
    obtain⟨q2,hq2⟩:∃q2,num ((s.data.toList.drop (A+2)).take 2)=q2:=⟨_,rfl⟩
    have hq2b:q2<65536:=by
     have h1:=num_lt ((s.data.toList.drop (A+2)).take 2)
     have h2:((s.data.toList.drop (A+2)).take 2).length<=2:=by rw[List.length_take];omega
     have h3:256 ^ ((s.data.toList.drop (A+2)).take 2).length<=256 ^ 2:=Nat.pow_le_pow_right (by omega) h2
     omega
    obtain⟨L,hL⟩:∃L,L=4*q2:=⟨_,rfl⟩
    have hLi:4*(q2:Int)=(L:Int):=by omega
    have hLb:L<=262140:=by omega
    have HLe:Hid (extLen s=L):=by
     show _=_
     unfold extLen
     rw[<-HA.out,Lib.extract_data,show A+4-(A+2)=2 by omega,hq2,hL]
    have Hpe:Hid (num (s.extract A (A+2)).data.toList=pr):=by
     show _=_
     rw[Lib.extract_data,show A+2-A=2 by omega,hpr]
    have Hpr:=hyd hpr
    have Hq2:=hyd hq2
    clear hx hpr hq2 hL
    go_wp2_with fail
    refine(refBit_at _ _ (B0 s).toNat 4 _ rfl rfl (by omega) (by omega)).mono ?_
    rintro e w1 ⟨rfl,rfl⟩
    rw[hxd]
    by_cases h4:s.size<A+4
    ·have h4':(s.size:Int)<A+4:=by omega
     have HR:Hid (readP s=none):=by
      show _=_
      rw[HP.out,HX0.out,if_pos (by omega)]
      rfl
     clear h4
     go_wp2
     refine bodyPost_ret (v:=wrongV) (by simp[results,Tryz.results55,wrongV,go_sem,r0,r1,r2,r3,r4,r5,r6,r7,r8,r9,r10]) rfl ⟨?_,?_⟩
     ·exact below_fin (bel.setCell (p:=⟨w.heap.size+1+1,6,none⟩) (by simp<;>omega) _)
     ·rw[HR.out]
      rfl
    ·have h4':¬(s.size:Int)<A+4:=by omega
     go_wp2_with fail
     refine(refNumber_at s _ _ A 2 _ hs2 rfl rfl (by omega) (by omega)).mono ?_
     rintro e w9 ⟨rfl,rfl⟩
     rw[Hpr.out]
     go_wp2_with fail
     refine(refNumber_at s _ _ (A+2) 2 _ hs2 (by omega) rfl (by omega) (by omega)).mono ?_
     rintro e w9 ⟨rfl,rfl⟩
     rw[Hq2.out]
     by_cases hLs:s.size<A+4+L
     ·have hLs':(s.size:Int)<(A:Int)+4+(L:Int):=by omega
      have HR:Hid (readP s=none):=by
       show _=_
       rw[HP.out,HX0.out,if_neg (by omega),if_pos (by rw[HLe.out];omega)]
       rfl
      clear hLs
      go_wp2
      refine bodyPost_ret (v:=wrongV) (by simp[results,Tryz.results55,wrongV,go_sem,r0,r1,r2,r3,r4,r5,r6,r7,r8,r9,r10]) rfl ⟨?_,?_⟩
      ·exact below_fin ((bel.setCell (p:=⟨w.heap.size+1+1,6,none⟩) (by simp<;>omega) _).setCell (p:=⟨w.heap.size+1+1,7,none⟩) (by simp<;>omega) _)
      ·rw[HR.out]
       rfl
     ·obtain⟨A1,hA1⟩:∃A1,A1=A+4+L:=⟨_,rfl⟩
      have hA1i:(A:Int)+4+(L:Int)=(A1:Int):=by omega
      have hA1s:A1<=s.size:=by omega
      have hA1t:¬(s.size:Int)<(A1:Int):=by omega
      have hA1u:A+4<=A1:=by omega
      obtain⟨en,hen⟩:∃en,s.extract (A+4) A1=en:=⟨_,rfl⟩
      have HX:Hid (extPart s=some (pr,en,A1)):=by
       show _=_
       rw[HX0.out,if_neg (by omega),if_neg (by rw[HLe.out];omega),HLe.out,Hpe.out,<-hen,<-hA1]
      clear HX0 hA1 hLs h4 HLe Hpe Hpr Hq2
      by_cases hp:(B0 s).toNat/32%2=1
      ·have hpd:decide ((B0 s).toNat/2 ^ 5%2=1)=true:=decide_eq_true (by simpa using hp)
       have hq:=(Bl s).toNat_lt
       have jl:∀W:World,(Instr.index 9 (.string s) (.int .i64 ((s.size:Int)-1))).run Tryz.prog W = .ok (.int .u8 ((Bl s).toNat:Int)) W:=fun W=>run_last W s (by omega)
       have HPd:Hid (padPart s A1=if(Bl s).toNat=0\/s.size-A1<(Bl s).toNat then none else if noughts (s.extract (s.size-(Bl s).toNat) (s.size-1)).data.toList=true then some ((Bl s).toNat,s.size-(Bl s).toNat)else none):=by show _=_;unfold padPart;rw[if_pos hp]
       clear hp
       generalize hqq:(Bl s).toNat=q at *
       have Hqq:=hyd hqq
       clear hqq
       go_wp2_with fail
       refine(refBit_at _ _ (B0 s).toNat 5 _ rfl rfl (by omega) (by omega)).mono ?_
       rintro e w1 ⟨rfl,rfl⟩
       rw[hpd]
       by_cases hE:s.size=A1
       ·have hEm:(s.extract A1 s.size).toList.isEmpty=true:=by rw[isEmpty_size,ByteArray.size_extract];exact decide_eq_true (by omega)
        have HR:Hid (readP s=none):=by
         show _=_
         rw[HP.out,HX.out]
         simp only[Option.bind_some]
         rw[HPd.out,if_pos (by omega)]
         rfl
        clear hE
        go_wp2
        refine bodyPost_ret (v:=wrongV) (by simp[results,Tryz.results55,wrongV,go_sem,r0,r1,r2,r3,r4,r5,r6,r7,r8,r9,r10]) rfl ⟨?_,?_⟩
        ·exact below_fin ((((bel.setCell (p:=⟨w.heap.size+1+1,6,none⟩) (by simp<;>omega) _).setCell (p:=⟨w.heap.size+1+1,7,none⟩) (by simp<;>omega) _).setCell (p:=⟨w.heap.size+1+1,8,none⟩) (by simp<;>omega) _).setCell (p:=⟨w.heap.size+1+1,9,none⟩) (by simp<;>omega) _)
        ·rw[HR.out]
         rfl
       ·have hEm:(s.extract A1 s.size).toList.isEmpty=false:=by rw[isEmpty_size,ByteArray.size_extract];exact decide_eq_false (by omega)
        have hE':A1<s.size:=by omega
        have HS:Hid (∀W,RS w W (.bool b0) (.int .i64 n1) (.int .i64 n2) (.int .i64 n3) (.int .i64 n4) (.slice a1 k c1) (.bool true) (.int .i64 pr) (.string en) (.string (s.extract A1 s.size)) (.int .i64 0)->W.drew.cell? ⟨w.heap.size+1+1,9,none⟩=some (.string (s.extract A1 s.size))):=fun W h=>h.y9
        clear hE
        go_wp2
        by_cases hq0:q=0
        ·have hq0':((q:Int) == 0)=true:=by simp[hq0]
         have HR:Hid (readP s=none):=by
          show _=_
          rw[HP.out,HX.out]
          simp only[Option.bind_some]
          rw[HPd.out,if_pos (.inl hq0)]
          rfl
         clear hq0
         refine wp_region_noPanic ?_
         refine wp_region_held_drew (S:=fun W=>W.cell? ⟨w.heap.size+1+1,9,none⟩=some (.string (s.extract A1 s.size))) (by kernel_rfl) (HS.out _ ((((HRS.out.set6 _).set7 _).set8 _).set9 _)) (fun zH=>?_)
         refine tka 0 ?_
         refine tka 1 ?_
         refine tka 2 ?_
         refine tku 3 ?_
         refine tku 4 ?_
         refine tku 5 ?_
         refine tku 6 ?_
         refine tku 7 ?_
         refine tka 8 ?_
         refine tka 9 ?_
         refine tku 10 ?_
         refine tku 11 ?_
         refine tku 12 ?_
         refine tku 13 ?_
         refine tku 14 ?_
         refine tku 15 ?_
         refine tku 16 ?_
         refine tku 17 ?_
         refine tku 18 ?_
         refine tku 19 ?_
         refine tku 20 ?_
         refine tku 21 ?_
         refine tku 22 ?_
         refine tka 23 ?_
         refine doN ?_
         clear zH
         have hRd:=((((HRS.out.set6 _).set7 _).set8 _).set9 _).below (W':=((((w1.setCell ⟨w.heap.size+1+1,6,none⟩ (.bool true)).setCell ⟨w.heap.size+1+1,7,none⟩ (.int .i64 pr)).setCell ⟨w.heap.size+1+1,8,none⟩ (.string en)).setCell ⟨w.heap.size+1+1,9,none⟩ (.string (s.extract A1 s.size))).drew) ((Below.refl _ _).drew)
         have hOd:OwnInts ((((w1.setCell ⟨w.heap.size+1+1,6,none⟩ (.bool true)).setCell ⟨w.heap.size+1+1,7,none⟩ (.int .i64 pr)).setCell ⟨w.heap.size+1+1,8,none⟩ (.string en)).setCell ⟨w.heap.size+1+1,9,none⟩ (.string (s.extract A1 s.size))).drew (w.heap.size+1+1+1) (.slice a1 k c1) cl:=((((Hown.out.setCell (a:=⟨w.heap.size+1+1,6,none⟩) (by simp) _).setCell (a:=⟨w.heap.size+1+1,7,none⟩) (by simp) _).setCell (a:=⟨w.heap.size+1+1,8,none⟩) (by simp) _).setCell (a:=⟨w.heap.size+1+1,9,none⟩) (by simp) _)
         clear bel siz r0 r1 r2 r3 r4 r5 r6 r7 r8 r9 r10 m0 m1 m2 m3 m4 m5 m6 m7 m8 m9 m10 y0 y1 y2 y3 y4 y5 y6 y7 y8 y9 y10 fr fy HRS Hown
         generalize ((((w1.setCell ⟨w.heap.size+1+1,6,none⟩ (.bool true)).setCell ⟨w.heap.size+1+1,7,none⟩ (.int .i64 pr)).setCell ⟨w.heap.size+1+1,8,none⟩ (.string en)).setCell ⟨w.heap.size+1+1,9,none⟩ (.string (s.extract A1 s.size))).drew=W9 at hRd hOd ⊢
         have Hown:=hyd hOd
         obtain⟨bel,siz,r0,r1,r2,r3,r4,r5,r6,r7,r8,r9,r10,m0,m1,m2,m3,m4,m5,m6,m7,m8,m9,m10,y0,y1,y2,y3,y4,y5,y6,y7,y8,y9,y10,fr,fy⟩:=hRd
         clear hOd
         clear hq0' jl hEm hq
         go_wp2
         refine bodyPost_ret (v:=wrongV) (by simp[results,Tryz.results55,wrongV,go_sem,r0,r1,r2,r3,r4,r5,r6,r7,r8,r9,r10]) rfl ⟨?_,?_⟩
         ·exact below_fin bel
         ·rw[HR.out]
          rfl
        ·have hq0':((q:Int) == 0)=false:=by simpa using hq0
         generalize hPP:s.extract A1 s.size=P at *
         have HPP:=hyd hPP
         have hPs:P.size=s.size-A1:=by rw[<-hPP,ByteArray.size_extract];omega
         have HPs:=hyd hPs
         have hPb:P.size<=1500:=by omega
         clear hPP
         by_cases hq1:s.size-A1<q
         focus
          have hq1':(P.size:Int)<q:=by omega
          have hq1n:P.size<q:=by omega
          have hq1d:decide ((P.size:Int)<(q:Int))=true:=decide_eq_true hq1'
          have HR:Hid (readP s=none):=by
           show _=_
           rw[HP.out,HX.out]
           simp only[Option.bind_some]
           rw[HPd.out,if_pos (.inr hq1)]
           rfl
          clear hq0 hq1 hPs
         rotate_left
         focus
          have hq1':¬(P.size:Int)<q:=by omega
          have hwa:IntKind.i64.wrap ((s.size:Int)-(q:Int))=(s.size:Int)-(q:Int):=wrapI64 _ (by omega) (by omega)
          have hwb:IntKind.i64.wrap ((s.size:Int)-1)=(s.size:Int)-1:=wrapI64 _ (by omega) (by omega)
          have hwc:IntKind.i64.wrap ((q:Int)-1)=(q:Int)-1:=wrapI64 _ (by omega) (by omega)
          obtain⟨T,hT⟩:∃T,T=s.extract (s.size-q) (s.size-1):=⟨_,rfl⟩
          have HT:=hyd hT
          have hsl:∀W:World,(Instr.slice 9 (.string s) (some (.int .i64 ((s.size:Int)-(q:Int)))) (some (.int .i64 ((s.size:Int)-1))) none).run Tryz.prog W = .ok (.string T) W:=fun W=>by
           rw[run_slice_string W 9 s .i64 .i64 _ _ Tryz.underlying9 (by omega) (by omega) (by omega),hT,show((s.size:Int)-(q:Int)).toNat=s.size-q by omega,show((s.size:Int)-1).toNat=s.size-1 by omega]
          have HPd2:Hid (padPart s A1=if noughts (s.extract (s.size-q) (s.size-1)).data.toList=true then some (q,s.size-q)else none):=by show _=_;rw[HPd.out,if_neg (by omega)]
          clear hT HPd hPs
         rotate_left
         all_goals
          refine wp_region_noPanic ?_
          refine wp_region_held_drew (S:=fun W=>W.cell? ⟨w.heap.size+1+1,9,none⟩=some (.string P)) (by kernel_rfl) (HS.out _ ((((HRS.out.set6 _).set7 _).set8 _).set9 _)) (fun zH=>?_)
          refine tka 0 ?_
          refine tka 1 ?_
          refine tka 2 ?_
          refine tka 3 ?_
          refine tka 4 ?_
          refine tka 5 ?_
          refine tka 6 ?_
          refine tka 7 ?_
          refine tka 8 ?_
          refine tka 9 ?_
         ·refine tku 10 ?_
          refine tku 11 ?_
          refine tku 12 ?_
          refine tku 13 ?_
          refine tku 14 ?_
          refine tku 15 ?_
          refine tku 16 ?_
          refine tku 17 ?_
          refine tku 18 ?_
          refine tku 19 ?_
          refine tku 20 ?_
          refine tku 21 ?_
          refine tku 22 ?_
          refine tka 23 ?_
          refine doN ?_
          clear zH
          have hRd:=((((HRS.out.set6 _).set7 _).set8 _).set9 _).below (W':=((((w1.setCell ⟨w.heap.size+1+1,6,none⟩ (.bool true)).setCell ⟨w.heap.size+1+1,7,none⟩ (.int .i64 pr)).setCell ⟨w.heap.size+1+1,8,none⟩ (.string en)).setCell ⟨w.heap.size+1+1,9,none⟩ (.string P)).drew) ((Below.refl _ _).drew)
          have hOd:OwnInts ((((w1.setCell ⟨w.heap.size+1+1,6,none⟩ (.bool true)).setCell ⟨w.heap.size+1+1,7,none⟩ (.int .i64 pr)).setCell ⟨w.heap.size+1+1,8,none⟩ (.string en)).setCell ⟨w.heap.size+1+1,9,none⟩ (.string P)).drew (w.heap.size+1+1+1) (.slice a1 k c1) cl:=((((Hown.out.setCell (a:=⟨w.heap.size+1+1,6,none⟩) (by simp) _).setCell (a:=⟨w.heap.size+1+1,7,none⟩) (by simp) _).setCell (a:=⟨w.heap.size+1+1,8,none⟩) (by simp) _).setCell (a:=⟨w.heap.size+1+1,9,none⟩) (by simp) _)
          clear bel siz r0 r1 r2 r3 r4 r5 r6 r7 r8 r9 r10 m0 m1 m2 m3 m4 m5 m6 m7 m8 m9 m10 y0 y1 y2 y3 y4 y5 y6 y7 y8 y9 y10 fr fy HRS Hown
          generalize ((((w1.setCell ⟨w.heap.size+1+1,6,none⟩ (.bool true)).setCell ⟨w.heap.size+1+1,7,none⟩ (.int .i64 pr)).setCell ⟨w.heap.size+1+1,8,none⟩ (.string en)).setCell ⟨w.heap.size+1+1,9,none⟩ (.string P)).drew=W9 at hRd hOd ⊢
          have Hown:=hyd hOd
          obtain⟨bel,siz,r0,r1,r2,r3,r4,r5,r6,r7,r8,r9,r10,m0,m1,m2,m3,m4,m5,m6,m7,m8,m9,m10,y0,y1,y2,y3,y4,y5,y6,y7,y8,y9,y10,fr,fy⟩:=hRd
          clear hOd
          clear hq0' jl hEm hq hq1' hq1n hq1d
          go_wp2
          refine bodyPost_ret (v:=wrongV) (by simp[results,Tryz.results55,wrongV,go_sem,r0,r1,r2,r3,r4,r5,r6,r7,r8,r9,r10]) rfl ⟨?_,?_⟩
          ·exact below_fin bel
          ·rw[HR.out]
           rfl
         ·refine tka 10 ?_
          refine tka 11 ?_
          refine tka 12 ?_
          refine tka 13 ?_
          refine tka 14 ?_
          refine tka 15 ?_
          refine tka 16 ?_
          refine tka 17 ?_
          refine tka 18 ?_
          refine tka 19 ?_
          refine tka 20 ?_
          refine rd1 21 fun K hK=>?_
          go_simp
          refine(refNoughts_at _ (q-1) _ (by omega) (by omega)).mono ?_
          rintro e w9 ⟨⟨t,rfl,ht⟩,rfl⟩
          have Ht:=hyd ht
          clear ht
          go_wp2_with fail
          refine hK.out _ _ zH (fun zH=>?_)
          clear hK K
          have hTs:T.size=q-1:=by rw[HT.out,ByteArray.size_extract];omega
          by_cases hTt:T=t
          focus
           have hN:noughts (s.extract (s.size-q) (s.size-1)).data.toList=true:=by rw[<-HT.out,hTt,Ht.out];exact noughts_rep _
           have HR:Hid (readP s=some (mkP s (pr,en,A1) (q,s.size-q))):=by
            show _=_
            rw[HP.out,HX.out]
            simp only[Option.bind_some]
            rw[HPd2.out,hN]
            rfl
           have HPe:Hid (P.extract 0 (P.size-q)=s.extract A1 (s.size-q)):=by
            show _=_
            apply ba_ext
            rw[Lib.extract_data,<-HPP.out,Lib.extract_data,Lib.extract_data,ByteArray.size_extract,List.drop_zero,List.take_take]
            congr 1
            have:=HPs.out
            omega
           clear hN hq0
           subst hTt
          rotate_left
          focus
           have hN:noughts (s.extract (s.size-q) (s.size-1)).data.toList=false:=by
            rw[Bool.eq_false_iff]
            intro hc
            rw[<-HT.out]at hc
            have h1:=rep_noughts _ hc
            rw[<-Lib.size_eq,hTs]at h1
            exact hTt (ba_ext (h1.trans Ht.out.symm))
           have HR:Hid (readP s=none):=by
            show _=_
            rw[HP.out,HX.out]
            simp only[Option.bind_some]
            rw[HPd2.out,hN]
            rfl
           have hne2:¬T.data.toList=t.data.toList:=fun e=>hTt (ba_ext e)
           have hne1:(T.toList == t.toList)=false:=by rw[Lib.toList_data,Lib.toList_data];simpa using hne2
           have hne3:¬T.toList=t.toList:=by rw[Lib.toList_data,Lib.toList_data];exact hne2
           clear hN hne2 hq0
          rotate_left
          all_goals
           refine tka 22 ?_
           refine tka 23 ?_
           refine doN ?_
           clear zH
           have hRd:=((((HRS.out.set6 _).set7 _).set8 _).set9 _).below (W':=((((w1.setCell ⟨w.heap.size+1+1,6,none⟩ (.bool true)).setCell ⟨w.heap.size+1+1,7,none⟩ (.int .i64 pr)).setCell ⟨w.heap.size+1+1,8,none⟩ (.string en)).setCell ⟨w.heap.size+1+1,9,none⟩ (.string P)).drew) ((Below.refl _ _).drew)
           have hOd:OwnInts ((((w1.setCell ⟨w.heap.size+1+1,6,none⟩ (.bool true)).setCell ⟨w.heap.size+1+1,7,none⟩ (.int .i64 pr)).setCell ⟨w.heap.size+1+1,8,none⟩ (.string en)).setCell ⟨w.heap.size+1+1,9,none⟩ (.string P)).drew (w.heap.size+1+1+1) (.slice a1 k c1) cl:=((((Hown.out.setCell (a:=⟨w.heap.size+1+1,6,none⟩) (by simp) _).setCell (a:=⟨w.heap.size+1+1,7,none⟩) (by simp) _).setCell (a:=⟨w.heap.size+1+1,8,none⟩) (by simp) _).setCell (a:=⟨w.heap.size+1+1,9,none⟩) (by simp) _)
           clear bel siz r0 r1 r2 r3 r4 r5 r6 r7 r8 r9 r10 m0 m1 m2 m3 m4 m5 m6 m7 m8 m9 m10 y0 y1 y2 y3 y4 y5 y6 y7 y8 y9 y10 fr fy HRS Hown
           generalize ((((w1.setCell ⟨w.heap.size+1+1,6,none⟩ (.bool true)).setCell ⟨w.heap.size+1+1,7,none⟩ (.int .i64 pr)).setCell ⟨w.heap.size+1+1,8,none⟩ (.string en)).setCell ⟨w.heap.size+1+1,9,none⟩ (.string P)).drew=W9 at hRd hOd ⊢
           have Hown:=hyd hOd
           obtain⟨bel,siz,r0,r1,r2,r3,r4,r5,r6,r7,r8,r9,r10,m0,m1,m2,m3,m4,m5,m6,m7,m8,m9,m10,y0,y1,y2,y3,y4,y5,y6,y7,y8,y9,y10,fr,fy⟩:=hRd
           clear hOd
          ·clear hq0' jl hEm hq hsl hwa hwb hwc
           go_wp2
           obtain⟨q1,q2⟩:=told_fin ((bel.setCell (p:=⟨w.heap.size+1+1,10,none⟩) (by simp<;>omega) _).setCell (p:=⟨w.heap.size+1+1,9,none⟩) (by simp<;>omega) _) (((Hown.out.setCell (a:=⟨w.heap.size+1+1,10,none⟩) (by simp) _).setCell (a:=⟨w.heap.size+1+1,9,none⟩) (by simp) _).mono (base':=w.heap.size+2) (by omega))
           refine bodyPost_ret (v:=.tuple #[.agg #[.bool b0,.int .i64 n1,.int .i64 n2,.int .i64 n3,.int .i64 n4,.slice a1 k c1,.bool true,.int .i64 pr,.string en,.string (P.extract 0 (P.size-q)),.int .i64 q],.int .i64 0]) (by simp[results,Tryz.results55,go_sem,r0,r1,r2,r3,r4,r5,r6,r7,r8,r9,r10]) rfl ⟨?_,?_⟩
           ·exact q1
           ·rw[HR.out]
            refine⟨.slice a1 k c1,?_,?_⟩
            ·rw[E0.out,E1.out,<-Hn2.out,<-Hn3.out,<-Hn4.out,HPe.out]
             simp[okV,mkP,hxe]
            ·have e:(mkP s (pr,en,A1) (q,s.size-q)).cl=cl:=by rw[<-Hcl.out,HA.out];rfl
             rw[e]
             exact q2.mono (by omega)
          ·clear hq0' jl hEm hq hsl hwa hwb hwc hTt hne1 hne3 hTs hq1'
           go_wp2
           refine bodyPost_ret (v:=wrongV) (by simp[results,Tryz.results55,wrongV,go_sem,r0,r1,r2,r3,r4,r5,r6,r7,r8,r9,r10]) rfl ⟨?_,?_⟩
           ·exact below_fin bel
           ·rw[HR.out]
            rfl
      ·have hpd:decide ((B0 s).toNat/2 ^ 5%2=1)=false:=decide_eq_false (by simpa using hp)
       have HR:Hid (readP s=some (mkP s (pr,en,A1) (0,s.size))):=by
        show _=_
        rw[HP.out,HX.out]
        simp[padPart,hp]
       clear hp
       go_wp2_with fail
       refine(refBit_at _ _ (B0 s).toNat 5 _ rfl rfl (by omega) (by omega)).mono ?_
       rintro e w1 ⟨rfl,rfl⟩
       rw[hpd]
       go_wp2
       obtain⟨q1,q2⟩:=told_fin ((((bel.setCell (p:=⟨w.heap.size+1+1,6,none⟩) (by simp<;>omega) _).setCell (p:=⟨w.heap.size+1+1,7,none⟩) (by simp<;>omega) _).setCell (p:=⟨w.heap.size+1+1,8,none⟩) (by simp<;>omega) _).setCell (p:=⟨w.heap.size+1+1,9,none⟩) (by simp<;>omega) _) (((((Hown.out.setCell (a:=⟨w.heap.size+1+1,6,none⟩) (by simp) _).setCell (a:=⟨w.heap.size+1+1,7,none⟩) (by simp) _).setCell (a:=⟨w.heap.size+1+1,8,none⟩) (by simp) _).setCell (a:=⟨w.heap.size+1+1,9,none⟩) (by simp) _).mono (base':=w.heap.size+2) (by omega))
       refine bodyPost_ret (v:=.tuple #[.agg #[.bool b0,.int .i64 n1,.int .i64 n2,.int .i64 n3,.int .i64 n4,.slice a1 k c1,.bool true,.int .i64 pr,.string en,.string (s.extract A1 s.size),.int .i64 0],.int .i64 0]) (by simp[results,Tryz.results55,go_sem,r0,r1,r2,r3,r4,r5,r6,r7,r8,r9,r10]) rfl ⟨?_,?_⟩
       ·exact q1
       ·rw[HR.out]
        refine⟨.slice a1 k c1,?_,?_⟩
        ·rw[E0.out,E1.out,<-Hn2.out,<-Hn3.out,<-Hn4.out]
         simp[okV,mkP,hxe]
        ·have e:(mkP s (pr,en,A1) (0,s.size)).cl=cl:=by rw[<-Hcl.out,HA.out];rfl
         rw[e]
         exact q2.mono (by omega)
   ·have hxd:decide ((B0 s).toNat/2 ^ 4%2=1)=false:=decide_eq_false (by simpa using hx)
    have hxe:decide ((B0 s).toNat/16%2=1)=false:=decide_eq_false hx
    have HX:Hid (extPart s=some (0,⟨#[]⟩,A)):=by show _=_;unfold extPart;rw[if_neg hx,HA.out]
    clear hx
    go_wp2_with fail
    refine(refBit_at _ _ (B0 s).toNat 4 _ rfl rfl (by omega) (by omega)).mono ?_
    rintro e w1 ⟨rfl,rfl⟩
    rw[hxd]
    by_cases hp:(B0 s).toNat/32%2=1
    ·have hpd:decide ((B0 s).toNat/2 ^ 5%2=1)=true:=decide_eq_true (by simpa using hp)
     have hq:=(Bl s).toNat_lt
     have jl:∀W:World,(Instr.index 9 (.string s) (.int .i64 ((s.size:Int)-1))).run Tryz.prog W = .ok (.int .u8 ((Bl s).toNat:Int)) W:=fun W=>run_last W s (by omega)
     have HPd:Hid (padPart s A=if(Bl s).toNat=0\/s.size-A<(Bl s).toNat then none else if noughts (s.extract (s.size-(Bl s).toNat) (s.size-1)).data.toList=true then some ((Bl s).toNat,s.size-(Bl s).toNat)else none):=by show _=_;unfold padPart;rw[if_pos hp]
     clear hp
     generalize hqq:(Bl s).toNat=q at *
     have Hqq:=hyd hqq
     clear hqq
     go_wp2_with fail
     refine(refBit_at _ _ (B0 s).toNat 5 _ rfl rfl (by omega) (by omega)).mono ?_
     rintro e w1 ⟨rfl,rfl⟩
     rw[hpd]
     by_cases hE:s.size=A
     ·have hEm:(s.extract A s.size).toList.isEmpty=true:=by rw[isEmpty_size,ByteArray.size_extract];exact decide_eq_true (by omega)
      have HR:Hid (readP s=none):=by
       show _=_
       rw[HP.out,HX.out]
       simp only[Option.bind_some]
       rw[HPd.out,if_pos (by omega)]
       rfl
      clear hE
      go_wp2
      refine bodyPost_ret (v:=wrongV) (by simp[results,Tryz.results55,wrongV,go_sem,r0,r1,r2,r3,r4,r5,r6,r7,r8,r9,r10]) rfl ⟨?_,?_⟩
      ·exact below_fin ((bel.setCell (p:=⟨w.heap.size+1+1,6,none⟩) (by simp<;>omega) _).setCell (p:=⟨w.heap.size+1+1,9,none⟩) (by simp<;>omega) _)
      ·rw[HR.out]
       rfl
     ·have hEm:(s.extract A s.size).toList.isEmpty=false:=by rw[isEmpty_size,ByteArray.size_extract];exact decide_eq_false (by omega)
      have hE':A<s.size:=by omega
      have HS:Hid (∀W,RS w W (.bool b0) (.int .i64 n1) (.int .i64 n2) (.int .i64 n3) (.int .i64 n4) (.slice a1 k c1) (.bool false) (.int .i64 0) (.string ⟨#[]⟩) (.string (s.extract A s.size)) (.int .i64 0)->W.drew.cell? ⟨w.heap.size+1+1,9,none⟩=some (.string (s.extract A s.size))):=fun W h=>h.y9
      clear hE
      go_wp2
      by_cases hq0:q=0
      ·have hq0':((q:Int) == 0)=true:=by simp[hq0]
       have HR:Hid (readP s=none):=by
        show _=_
        rw[HP.out,HX.out]
        simp only[Option.bind_some]
        rw[HPd.out,if_pos (.inl hq0)]
        rfl
       clear hq0
       refine wp_region_noPanic ?_
       refine wp_region_held_drew (S:=fun W=>W.cell? ⟨w.heap.size+1+1,9,none⟩=some (.string (s.extract A s.size))) (by kernel_rfl) (HS.out _ ((HRS.out.set6 _).set9 _)) (fun zH=>?_)
       refine tka 0 ?_
       refine tka 1 ?_
       refine tka 2 ?_
       refine tku 3 ?_
       refine tku 4 ?_
       refine tku 5 ?_
       refine tku 6 ?_
       refine tku 7 ?_
       refine tka 8 ?_
       refine tka 9 ?_
       refine tku 10 ?_
       refine tku 11 ?_
       refine tku 12 ?_
       refine tku 13 ?_
       refine tku 14 ?_
       refine tku 15 ?_
       refine tku 16 ?_
       refine tku 17 ?_
       refine tku 18 ?_
       refine tku 19 ?_
       refine tku 20 ?_
       refine tku 21 ?_
       refine tku 22 ?_
       refine tka 23 ?_
       refine doN ?_
       clear zH
       have hRd:=((HRS.out.set6 _).set9 _).below (W':=((w1.setCell ⟨w.heap.size+1+1,6,none⟩ (.bool false)).setCell ⟨w.heap.size+1+1,9,none⟩ (.string (s.extract A s.size))).drew) ((Below.refl _ _).drew)
       have hOd:OwnInts ((w1.setCell ⟨w.heap.size+1+1,6,none⟩ (.bool false)).setCell ⟨w.heap.size+1+1,9,none⟩ (.string (s.extract A s.size))).drew (w.heap.size+1+1+1) (.slice a1 k c1) cl:=((Hown.out.setCell (a:=⟨w.heap.size+1+1,6,none⟩) (by simp) _).setCell (a:=⟨w.heap.size+1+1,9,none⟩) (by simp) _)
       clear bel siz r0 r1 r2 r3 r4 r5 r6 r7 r8 r9 r10 m0 m1 m2 m3 m4 m5 m6 m7 m8 m9 m10 y0 y1 y2 y3 y4 y5 y6 y7 y8 y9 y10 fr fy HRS Hown
       generalize ((w1.setCell ⟨w.heap.size+1+1,6,none⟩ (.bool false)).setCell ⟨w.heap.size+1+1,9,none⟩ (.string (s.extract A s.size))).drew=W9 at hRd hOd ⊢
       have Hown:=hyd hOd
       obtain⟨bel,siz,r0,r1,r2,r3,r4,r5,r6,r7,r8,r9,r10,m0,m1,m2,m3,m4,m5,m6,m7,m8,m9,m10,y0,y1,y2,y3,y4,y5,y6,y7,y8,y9,y10,fr,fy⟩:=hRd
       clear hOd
       clear hq0' jl hEm hq
       go_wp2
       refine bodyPost_ret (v:=wrongV) (by simp[results,Tryz.results55,wrongV,go_sem,r0,r1,r2,r3,r4,r5,r6,r7,r8,r9,r10]) rfl ⟨?_,?_⟩
       ·exact below_fin bel
       ·rw[HR.out]
        rfl
      ·have hq0':((q:Int) == 0)=false:=by simpa using hq0
       generalize hPP:s.extract A s.size=P at *
       have HPP:=hyd hPP
       have hPs:P.size=s.size-A:=by rw[<-hPP,ByteArray.size_extract];omega
       have HPs:=hyd hPs
       have hPb:P.size<=1500:=by omega
       clear hPP
       by_cases hq1:s.size-A<q
       focus
        have hq1':(P.size:Int)<q:=by omega
        have hq1n:P.size<q:=by omega
        have hq1d:decide ((P.size:Int)<(q:Int))=true:=decide_eq_true hq1'
        have HR:Hid (readP s=none):=by
         show _=_
         rw[HP.out,HX.out]
         simp only[Option.bind_some]
         rw[HPd.out,if_pos (.inr hq1)]
         rfl
        clear hq0 hq1 hPs
       rotate_left
       focus
        have hq1':¬(P.size:Int)<q:=by omega
        have hwa:IntKind.i64.wrap ((s.size:Int)-(q:Int))=(s.size:Int)-(q:Int):=wrapI64 _ (by omega) (by omega)
        have hwb:IntKind.i64.wrap ((s.size:Int)-1)=(s.size:Int)-1:=wrapI64 _ (by omega) (by omega)
        have hwc:IntKind.i64.wrap ((q:Int)-1)=(q:Int)-1:=wrapI64 _ (by omega) (by omega)
        obtain⟨T,hT⟩:∃T,T=s.extract (s.size-q) (s.size-1):=⟨_,rfl⟩
        have HT:=hyd hT
        have hsl:∀W:World,(Instr.slice 9 (.string s) (some (.int .i64 ((s.size:Int)-(q:Int)))) (some (.int .i64 ((s.size:Int)-1))) none).run Tryz.prog W = .ok (.string T) W:=fun W=>by
         rw[run_slice_string W 9 s .i64 .i64 _ _ Tryz.underlying9 (by omega) (by omega) (by omega),hT,show((s.size:Int)-(q:Int)).toNat=s.size-q by omega,show((s.size:Int)-1).toNat=s.size-1 by omega]
        have HPd2:Hid (padPart s A=if noughts (s.extract (s.size-q) (s.size-1)).data.toList=true then some (q,s.size-q)else none):=by show _=_;rw[HPd.out,if_neg (by omega)]
        clear hT HPd hPs
       rotate_left
       all_goals
        refine wp_region_noPanic ?_
        refine wp_region_held_drew (S:=fun W=>W.cell? ⟨w.heap.size+1+1,9,none⟩=some (.string P)) (by kernel_rfl) (HS.out _ ((HRS.out.set6 _).set9 _)) (fun zH=>?_)
        refine tka 0 ?_
        refine tka 1 ?_
        refine tka 2 ?_
        refine tka 3 ?_
        refine tka 4 ?_
        refine tka 5 ?_
        refine tka 6 ?_
        refine tka 7 ?_
        refine tka 8 ?_
        refine tka 9 ?_
       ·refine tku 10 ?_
        refine tku 11 ?_
        refine tku 12 ?_
        refine tku 13 ?_
        refine tku 14 ?_
        refine tku 15 ?_
        refine tku 16 ?_
        refine tku 17 ?_
        refine tku 18 ?_
        refine tku 19 ?_
        refine tku 20 ?_
        refine tku 21 ?_
        refine tku 22 ?_
        refine tka 23 ?_
        refine doN ?_
        clear zH
        have hRd:=((HRS.out.set6 _).set9 _).below (W':=((w1.setCell ⟨w.heap.size+1+1,6,none⟩ (.bool false)).setCell ⟨w.heap.size+1+1,9,none⟩ (.string P)).drew) ((Below.refl _ _).drew)
        have hOd:OwnInts ((w1.setCell ⟨w.heap.size+1+1,6,none⟩ (.bool false)).setCell ⟨w.heap.size+1+1,9,none⟩ (.string P)).drew (w.heap.size+1+1+1) (.slice a1 k c1) cl:=((Hown.out.setCell (a:=⟨w.heap.size+1+1,6,none⟩) (by simp) _).setCell (a:=⟨w.heap.size+1+1,9,none⟩) (by simp) _)
        clear bel siz r0 r1 r2 r3 r4 r5 r6 r7 r8 r9 r10 m0 m1 m2 m3 m4 m5 m6 m7 m8 m9 m10 y0 y1 y2 y3 y4 y5 y6 y7 y8 y9 y10 fr fy HRS Hown
        generalize ((w1.setCell ⟨w.heap.size+1+1,6,none⟩ (.bool false)).setCell ⟨w.heap.size+1+1,9,none⟩ (.string P)).drew=W9 at hRd hOd ⊢
        have Hown:=hyd hOd
        obtain⟨bel,siz,r0,r1,r2,r3,r4,r5,r6,r7,r8,r9,r10,m0,m1,m2,m3,m4,m5,m6,m7,m8,m9,m10,y0,y1,y2,y3,y4,y5,y6,y7,y8,y9,y10,fr,fy⟩:=hRd
        clear hOd
        clear hq0' jl hEm hq hq1' hq1n hq1d
        go_wp2
        refine bodyPost_ret (v:=wrongV) (by simp[results,Tryz.results55,wrongV,go_sem,r0,r1,r2,r3,r4,r5,r6,r7,r8,r9,r10]) rfl ⟨?_,?_⟩
        ·exact below_fin bel
        ·rw[HR.out]
         rfl
       ·refine tka 10 ?_
        refine tka 11 ?_
        refine tka 12 ?_
        refine tka 13 ?_
        refine tka 14 ?_
        refine tka 15 ?_
        refine tka 16 ?_
        refine tka 17 ?_
        refine tka 18 ?_
        refine tka 19 ?_
        refine tka 20 ?_
        refine rd1 21 fun K hK=>?_
        go_simp
        refine(refNoughts_at _ (q-1) _ (by omega) (by omega)).mono ?_
        rintro e w9 ⟨⟨t,rfl,ht⟩,rfl⟩
        have Ht:=hyd ht
        clear ht
        go_wp2_with fail
        refine hK.out _ _ zH (fun zH=>?_)
        clear hK K
        have hTs:T.size=q-1:=by rw[HT.out,ByteArray.size_extract];omega
        by_cases hTt:T=t
        focus
         have hN:noughts (s.extract (s.size-q) (s.size-1)).data.toList=true:=by rw[<-HT.out,hTt,Ht.out];exact noughts_rep _
         have HR:Hid (readP s=some (mkP s (0,⟨#[]⟩,A) (q,s.size-q))):=by
          show _=_
          rw[HP.out,HX.out]
          simp only[Option.bind_some]
          rw[HPd2.out,hN]
          rfl
         have HPe:Hid (P.extract 0 (P.size-q)=s.extract A (s.size-q)):=by
          show _=_
          apply ba_ext
          rw[Lib.extract_data,<-HPP.out,Lib.extract_data,Lib.extract_data,ByteArray.size_extract,List.drop_zero,List.take_take]
          congr 1
          have:=HPs.out
          omega
         clear hN hq0
         subst hTt
        rotate_left
        focus
         have hN:noughts (s.extract (s.size-q) (s.size-1)).data.toList=false:=by
          rw[Bool.eq_false_iff]
          intro hc
          rw[<-HT.out]at hc
          have h1:=rep_noughts _ hc
          rw[<-Lib.size_eq,hTs]at h1
          exact hTt (ba_ext (h1.trans Ht.out.symm))
         have HR:Hid (readP s=none):=by
          show _=_
          rw[HP.out,HX.out]
          simp only[Option.bind_some]
          rw[HPd2.out,hN]
          rfl
         have hne2:¬T.data.toList=t.data.toList:=fun e=>hTt (ba_ext e)
         have hne1:(T.toList == t.toList)=false:=by rw[Lib.toList_data,Lib.toList_data];simpa using hne2
         have hne3:¬T.toList=t.toList:=by rw[Lib.toList_data,Lib.toList_data];exact hne2
         clear hN hne2 hq0
        rotate_left
        all_goals
         refine tka 22 ?_
         refine tka 23 ?_
         refine doN ?_
         clear zH
         have hRd:=((HRS.out.set6 _).set9 _).below (W':=((w1.setCell ⟨w.heap.size+1+1,6,none⟩ (.bool false)).setCell ⟨w.heap.size+1+1,9,none⟩ (.string P)).drew) ((Below.refl _ _).drew)
         have hOd:OwnInts ((w1.setCell ⟨w.heap.size+1+1,6,none⟩ (.bool false)).setCell ⟨w.heap.size+1+1,9,none⟩ (.string P)).drew (w.heap.size+1+1+1) (.slice a1 k c1) cl:=((Hown.out.setCell (a:=⟨w.heap.size+1+1,6,none⟩) (by simp) _).setCell (a:=⟨w.heap.size+1+1,9,none⟩) (by simp) _)
         clear bel siz r0 r1 r2 r3 r4 r5 r6 r7 r8 r9 r10 m0 m1 m2 m3 m4 m5 m6 m7 m8 m9 m10 y0 y1 y2 y3 y4 y5 y6 y7 y8 y9 y10 fr fy HRS Hown
         generalize ((w1.setCell ⟨w.heap.size+1+1,6,none⟩ (.bool false)).setCell ⟨w.heap.size+1+1,9,none⟩ (.string P)).drew=W9 at hRd hOd ⊢
         have Hown:=hyd hOd
         obtain⟨bel,siz,r0,r1,r2,r3,r4,r5,r6,r7,r8,r9,r10,m0,m1,m2,m3,m4,m5,m6,m7,m8,m9,m10,y0,y1,y2,y3,y4,y5,y6,y7,y8,y9,y10,fr,fy⟩:=hRd
         clear hOd
        ·clear hq0' jl hEm hq hsl hwa hwb hwc
         go_wp2
         obtain⟨q1,q2⟩:=told_fin ((bel.setCell (p:=⟨w.heap.size+1+1,10,none⟩) (by simp<;>omega) _).setCell (p:=⟨w.heap.size+1+1,9,none⟩) (by simp<;>omega) _) (((Hown.out.setCell (a:=⟨w.heap.size+1+1,10,none⟩) (by simp) _).setCell (a:=⟨w.heap.size+1+1,9,none⟩) (by simp) _).mono (base':=w.heap.size+2) (by omega))
         refine bodyPost_ret (v:=.tuple #[.agg #[.bool b0,.int .i64 n1,.int .i64 n2,.int .i64 n3,.int .i64 n4,.slice a1 k c1,.bool false,.int .i64 0,.string ⟨#[]⟩,.string (P.extract 0 (P.size-q)),.int .i64 q],.int .i64 0]) (by simp[results,Tryz.results55,go_sem,r0,r1,r2,r3,r4,r5,r6,r7,r8,r9,r10]) rfl ⟨?_,?_⟩
         ·exact q1
         ·rw[HR.out]
          refine⟨.slice a1 k c1,?_,?_⟩
          ·rw[E0.out,E1.out,<-Hn2.out,<-Hn3.out,<-Hn4.out,HPe.out]
           simp[okV,mkP,hxe]
          ·have e:(mkP s (0,⟨#[]⟩,A) (q,s.size-q)).cl=cl:=by rw[<-Hcl.out,HA.out];rfl
           rw[e]
           exact q2.mono (by omega)
        ·clear hq0' jl hEm hq hsl hwa hwb hwc hTt hne1 hne3 hTs hq1'
         go_wp2
         refine bodyPost_ret (v:=wrongV) (by simp[results,Tryz.results55,wrongV,go_sem,r0,r1,r2,r3,r4,r5,r6,r7,r8,r9,r10]) rfl ⟨?_,?_⟩
         ·exact below_fin bel
         ·rw[HR.out]
          rfl
    ·have hpd:decide ((B0 s).toNat/2 ^ 5%2=1)=false:=decide_eq_false (by simpa using hp)
     have HR:Hid (readP s=some (mkP s (0,⟨#[]⟩,A) (0,s.size))):=by
      show _=_
      rw[HP.out,HX.out]
      simp[padPart,hp]
     clear hp
     go_wp2_with fail
     refine(refBit_at _ _ (B0 s).toNat 5 _ rfl rfl (by omega) (by omega)).mono ?_
     rintro e w1 ⟨rfl,rfl⟩
     rw[hpd]
     go_wp2
     obtain⟨q1,q2⟩:=told_fin ((bel.setCell (p:=⟨w.heap.size+1+1,6,none⟩) (by simp<;>omega) _).setCell (p:=⟨w.heap.size+1+1,9,none⟩) (by simp<;>omega) _) (((Hown.out.setCell (a:=⟨w.heap.size+1+1,6,none⟩) (by simp) _).setCell (a:=⟨w.heap.size+1+1,9,none⟩) (by simp) _).mono (base':=w.heap.size+2) (by omega))
     refine bodyPost_ret (v:=.tuple #[.agg #[.bool b0,.int .i64 n1,.int .i64 n2,.int .i64 n3,.int .i64 n4,.slice a1 k c1,.bool false,.int .i64 0,.string ⟨#[]⟩,.string (s.extract A s.size),.int .i64 0],.int .i64 0]) (by simp[results,Tryz.results55,go_sem,r0,r1,r2,r3,r4,r5,r6,r7,r8,r9,r10]) rfl ⟨?_,?_⟩
     ·exact q1
     ·rw[HR.out]
      refine⟨.slice a1 k c1,?_,?_⟩
      ·rw[E0.out,E1.out,<-Hn2.out,<-Hn3.out,<-Hn4.out]
       simp[okV,mkP,hxe]
      ·have e:(mkP s (0,⟨#[]⟩,A) (0,s.size)).cl=cl:=by rw[<-Hcl.out,HA.out];rfl
       rw[e]
       exact q2.mono (by omega)
theorem refParse_any (s:ByteArray) (w:World) (hs:s.size<=maxLen) :
  Calls Tryz.prog 55 #[.string s] w fun e w'=>Below w.heap.size w w'/\ReadAs (readP s) w.heap.size e w':=by
 by_cases h1:s.size<12
 ·exact rp_short s w h1
 ·by_cases h2:1500<s.size
  ·exact rp_long s w h2 hs
  ·by_cases h3:(B0 s).toNat/64=2
   ·by_cases h4:s.size<at0 s
    ·exact rp_at s w (by omega) (by omega) h3 h4
    ·exact rp_any s w (by omega) (by omega) h3 (by omega)
   ·exact rp_mark s w (by omega) (by omega) h3
end Go.Proofs.YtdjhhnolcafkiaaGreat
