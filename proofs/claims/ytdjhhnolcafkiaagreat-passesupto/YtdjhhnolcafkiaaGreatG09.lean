import Derived.Test.YtdjhhnolcafkiaaGreatG01
import Derived.Test.YtdjhhnolcafkiaaGreatG06
set_option linter.unusedVariables false
set_option linter.unusedSimpArgs false
set_option maxHeartbeats 40000000
set_option maxRecDepth 20000
namespace Go.Proofs.YtdjhhnolcafkiaaGreat
open Go.RowKit Pk
set_option maxRecDepth 100000 in
theorem refTell_ext (mk:Bool) (ty nu ti so pr pa:Int) (cv:Value) (cl:List Int) (en py:ByteArray) (w:World) (B:Nat) (hBw:B<=w.heap.size) (hv:IsInts B w cv cl)
  (hen:en.size<=140737488355328) (hpy:py.size<=140737488355328) (hok:firstOk true ty nu ti so pr pa cl.length en) :
  Calls Tryz.prog 45 #[.agg #[.bool mk,.int .i64 ty,.int .i64 nu,.int .i64 ti,.int .i64 so,cv,.bool true,.int .i64 pr,.string en,.string py,.int .i64 pa]] w
   fun e w'=>e = .returned (.tuple #[.string (tellR mk true ty nu ti so pr pa cl en py).1,.int .i64 (tellR mk true ty nu ti so pr pa cl en py).2])/\Below w.heap.size w w':=by
 have Hok:=hyd hok
 obtain⟨h1,h2,h3,h4,h5,h6,h7,h8,h9⟩:=hok
 have d1:Hid (decide (0<=ty/\ty<=127)=true):=decide_eq_true h1
 have d2:Hid (decide (0<=nu/\nu<=65535)=true):=decide_eq_true h2
 have d3:Hid (decide (0<=ti/\ti<=4294967295)=true):=decide_eq_true h3
 have d4:Hid (decide (0<=so/\so<=4294967295)=true):=decide_eq_true h4
 have d5:Hid (decide (0<=pr/\pr<=65535)=true):=decide_eq_true h5
 have d6:Hid (decide (0<=pa/\pa<=255)=true):=decide_eq_true h6
 have e7:(cl.length:Int)<=15:=by omega
 have e8:((en.size:Int)%4 != 0)=false:=by rw[bne_eq_false_iff_eq];omega
 have H9:=hyd h9
 obtain⟨ao,cap,rfl,hc⟩:=hv
 have Hc:=hyd hc
 clear hc h9
 go_enter Tryz.func45,Tryz.ntmps45
 go_wp2_with fail
 refine(refIn_any _ _ _).mono ?_;rintro e w' ⟨rfl,rfl⟩;rw[d1.out]
 go_wp2_with fail
 refine(refIn_any _ _ _).mono ?_;rintro e w' ⟨rfl,rfl⟩;rw[d2.out]
 go_wp2_with fail
 refine(refIn_any _ _ _).mono ?_;rintro e w' ⟨rfl,rfl⟩;rw[d3.out]
 go_wp2_with fail
 refine(refIn_any _ _ _).mono ?_;rintro e w' ⟨rfl,rfl⟩;rw[d4.out]
 go_wp2_with fail
 refine(refIn_any _ _ _).mono ?_;rintro e w' ⟨rfl,rfl⟩;rw[d5.out]
 go_wp2_with fail
 refine(refIn_any _ _ _).mono ?_;rintro e w' ⟨rfl,rfl⟩;rw[d6.out]
 go_wp2
 go_loopw [10,11] (fun v i wr=>∃(k:Nat) (t:ByteArray),k<=cl.length/\i = .int .i64 k/\v = .string t/\t.data.toList=conB (cl.take k)/\allIn (cl.take k) 4294967295=true/\Below (w.heap.size+1) (w.alloc (.cells #[.bool mk,.int .i64 ty,.int .i64 nu,.int .i64 ti,.int .i64 so,.slice ao cl.length cap,.bool true,.int .i64 pr,.string en,.string py,.int .i64 pa] 41)) wr) (fun _ i _=>cl.length-(intOf i).toNat)
 case atStart=>exact⟨0,⟨#[]⟩,Nat.zero_le _,rfl,rfl,rfl,rfl,Below.refl _ _⟩
 case round=>
  obtain⟨k,t,hk,rfl,rfl,ht,hin,hbx⟩:=hrel
  have Ht:=hyd ht
  have Hin:=hyd hin
  have hts:t.size<=60:=by rw[Lib.size_eq,ht,conB_length,List.length_take];omega
  have hcb:=box_below hbx w.heap.size (by omega)
  have Hbx:=hyd hbx
  have hbs:w.heap.size<wr.heap.size:=by have:=hbx.size;simp at this;omega
  clear ht hin hbx
  by_cases hlt:k<cl.length
  ·obtain⟨b,off,rfl,hbb,hcell⟩:=Hc.out k hlt
   have hcr:wr.cell? ⟨b,off+k,none⟩=some (.int .i64 (cl.getD k 0)):=(Hbx.out.cell (p:=⟨b,off+k,none⟩) (by show b<_;omega)).trans ((World.cell?_alloc_lt _ _ _ (by show b<_;omega)).trans hcell)
   have Hs:Hid (allIn (cl.take (k+1)) 4294967295=decide (0<=cl.getD k 0/\cl.getD k 0<=4294967295)):=by
    show _=_
    rw[allIn_take_succ cl k _ hlt,Hin.out,Bool.true_and]
   have Hct:Hid (conB (cl.take (k+1))=conB (cl.take k)++told (cl.getD k 0).toNat 4):=conB_take cl k hlt
   have hlt':(k:Int)<cl.length:=by omega
   clear hcell
   generalize cl.getD k 0=q at *
   go_wp2_with fail
   refine(refIn_any _ _ _).mono ?_
   rintro e w' ⟨rfl,rfl⟩
   by_cases hq:0<=q/\q<=4294967295
   ·rw[decide_eq_true hq]
    go_wp2_with fail
    refine(refTold_int 4 q _ (by omega) (by omega) (by omega)).mono ?_
    rintro e w2 ⟨⟨t2,rfl,ht2,hs2⟩,hb2⟩
    have Ht2:=hyd ht2
    have hcat:¬9223372036854775807<t.size+t2.size:=by omega
    have Hb2:=hyd hb2
    clear ht2 hb2 hs2
    go_wp2
    go_roundw
    case rel=>exact⟨k+1,t++t2,by omega,by go_num,rfl,by rw[append_list,Ht.out,Ht2.out,Hct.out],by rw[Hs.out];exact decide_eq_true hq,Hbx.out.trans (Hb2.out.mono (by omega))⟩
    case measure=>simp[intOf];omega
   ·rw[decide_eq_false hq]
    have HR:Hid (tellR mk true ty nu ti so pr pa cl en py=(⟨#[]⟩,2)):=tellR_no (by
     cases e:tellOk true ty nu ti so pr pa cl en with
     | false=>rfl
     | true=>
      simp only[tellOk,headOk,Bool.and_eq_true]at e
      have h:=allIn_false cl (k+1) 4294967295 (by rw[Hs.out];exact decide_eq_false hq)
      rw[e.1.1.2]at h;cases h)
    go_wp2
    go_ret2
    refine⟨by rw[HR.out];rfl,?_⟩
    exact((Below.refl _ _).alloc (Nat.le_refl _) _).trans (Hbx.out.mono (by omega))
  ·have hall:Hid (allIn cl 4294967295=true):=by
    have h:=Hin.out
    rw[List.take_of_length_le (by omega)]at h
    exact h
   have htl:Hid (t.data.toList=conB cl):=by
    have h:=Ht.out
    rw[List.take_of_length_le (by omega)]at h
    exact h
   have hlt':¬(k:Int)<cl.length:=by omega
   go_wp2
   have hwq:IntKind.i64.wrap ((en.size:Int)/4)=(en.size:Int)/4:=wrapI64 _ (by omega) (by omega)
   have bsW0:w.heap.size<wr.heap.size:=hbs
   have BlW0:Hid (Below (w.heap.size+1) (w.alloc (.cells #[.bool mk,.int .i64 ty,.int .i64 nu,.int .i64 ti,.int .i64 so,.slice ao cl.length cap,.bool true,.int .i64 pr,.string en,.string py,.int .i64 pa] 41)) wr.drew):=Hbx.out.drew
   refine wp_region_noPanic ?_
   refine wp_region_held_drew (S:=fun W=>∀o,W.cell? ⟨w.heap.size,o,none⟩=(w.alloc (.cells #[.bool mk,.int .i64 ty,.int .i64 nu,.int .i64 ti,.int .i64 so,.slice ao cl.length cap,.bool true,.int .i64 pr,.string en,.string py,.int .i64 pa] 41)).cell? ⟨w.heap.size,o,none⟩) (by kernel_rfl) hcb (fun zH=>?_)
   refine tka 0 ?_
   refine tka 1 ?_
   refine tka 2 ?_
   refine tka 5 ?_
   refine tka 6 ?_
   refine tka 7 ?_
   refine tka 8 ?_
   refine tka 11 ?_
   refine tka 12 ?_
   refine rd1 3 fun K hK=>?_
   go_simp
   refine(refTold_int 2 pr _ (by omega) (by omega) (by omega)).mono ?_
   rintro e wa ⟨⟨ta,rfl,hta,sta⟩,hbta⟩
   have Hta:=hyd hta
   have zta:ta.size<=2:=by omega
   have bswa:w.heap.size<wa.heap.size:=Nat.lt_of_lt_of_le bsW0 hbta.size
   have Blwa:Hid (Below (w.heap.size+1) (w.alloc (.cells #[.bool mk,.int .i64 ty,.int .i64 nu,.int .i64 ti,.int .i64 so,.slice ao cl.length cap,.bool true,.int .i64 pr,.string en,.string py,.int .i64 pa] 41)) wa):=BlW0.out.trans (hbta.mono (Nat.succ_le_of_lt bsW0))
   have cata0:¬9223372036854775807<t.size+ta.size:=by omega
   go_wp2_with fail
   refine hK.out _ _ (fun o=>(hbta.cell (p:=⟨w.heap.size,o,none⟩) bsW0).trans (zH o)) (fun zH=>?_)
   clear hK K hta sta hbta
   refine tka 4 ?_
   refine rd1 9 fun K hK=>?_
   go_simp
   refine(refTold_int 2 ((en.size:Int)/4) _ (by omega) (by omega) (by omega)).mono ?_
   rintro e wb ⟨⟨tb,rfl,htb,stb⟩,hbtb⟩
   have Htb:=hyd htb
   have ztb:tb.size<=2:=by omega
   have bswb:w.heap.size<wb.heap.size:=Nat.lt_of_lt_of_le bswa hbtb.size
   have Blwb:Hid (Below (w.heap.size+1) (w.alloc (.cells #[.bool mk,.int .i64 ty,.int .i64 nu,.int .i64 ti,.int .i64 so,.slice ao cl.length cap,.bool true,.int .i64 pr,.string en,.string py,.int .i64 pa] 41)) wb):=Blwa.out.trans (hbtb.mono (Nat.succ_le_of_lt bswa))
   have catb0:¬9223372036854775807<t.size+ta.size+tb.size:=by omega
   have catb1:¬9223372036854775807<t.size+ta.size+tb.size+en.size:=by omega
   have catb2:¬9223372036854775807<t.size+ta.size+tb.size+en.size+py.size:=by omega
   go_wp2_with fail
   refine hK.out _ _ (fun o=>(hbtb.cell (p:=⟨w.heap.size,o,none⟩) bswa).trans (zH o)) (fun zH=>?_)
   clear hK K htb stb hbtb
   refine tka 10 ?_
   refine tka 13 ?_
   refine tka 14 ?_
   refine doN ?_
   clear hcb
   cases mk
   focus
    by_cases hp0:0<pa
    focus
     have hnp:0<pa:=hp0
     have Hnp:=hyd hp0
     go_wp2
     have hcb:∀o,wb.cell? ⟨w.heap.size,o,none⟩=World.cell? _ ⟨w.heap.size,o,none⟩:=fun o=>Blwb.out.cell (p:=⟨w.heap.size,o,none⟩) (Nat.lt_succ_self _)
     have Bdwb:Hid (Below (w.heap.size+1) _ wb.drew):=Blwb.out.drew
     have bdwb:w.heap.size<wb.drew.heap.size:=bswb
     have hwp:IntKind.i64.wrap (pa-1)=pa-1:=wrapI64 _ (by omega) (by omega)
     refine wp_region_noPanic ?_
     refine wp_region_held_drew (S:=fun W=>∀o,W.cell? ⟨w.heap.size,o,none⟩=(w.alloc (.cells #[.bool false,.int .i64 ty,.int .i64 nu,.int .i64 ti,.int .i64 so,.slice ao cl.length cap,.bool true,.int .i64 pr,.string en,.string py,.int .i64 pa] 41)).cell? ⟨w.heap.size,o,none⟩) (by kernel_rfl) hcb (fun zH=>?_)
     refine tka 0 ?_
     refine tka 1 ?_
     refine tka 2 ?_
     refine tka 3 ?_
     refine tka 6 ?_
     refine tka 7 ?_
     refine rd1 4 fun K hK=>?_
     go_simp
     refine(refNoughts_int (pa-1) _ (by omega) (by omega)).mono ?_
     rintro e wz ⟨⟨tz,rfl,htz,stz⟩,rfl⟩
     have Htz:=hyd htz
     have catz0:¬9223372036854775807<t.size+ta.size+tb.size+en.size+py.size+tz.size:=by omega
     go_wp2_with fail
     refine hK.out _ _ (fun o=>zH o) (fun zH=>?_)
     clear hK K htz
     refine tka 5 ?_
     refine rd1 8 fun K hK=>?_
     go_simp
     refine(refTold_int 1 pa _ (by omega) (by omega) (by omega)).mono ?_
     rintro e wp ⟨⟨tp,rfl,htp,stp⟩,hbtp⟩
     have Htp:=hyd htp
     have ztp:tp.size<=1:=by omega
     have bswp:w.heap.size<wp.heap.size:=Nat.lt_of_lt_of_le bswb hbtp.size
     have Blwp:Hid (Below (w.heap.size+1) _ wp):=Bdwb.out.trans (hbtp.mono (Nat.succ_le_of_lt bswb))
     have catp0:¬9223372036854775807<t.size+ta.size+tb.size+en.size+py.size+tz.size+tp.size:=by omega
     go_wp2_with fail
     refine hK.out _ _ (fun o=>(hbtp.cell (p:=⟨w.heap.size,o,none⟩) bswb).trans (zH o)) (fun zH=>?_)
     clear hK K htp stp hbtp
     refine tka 9 ?_
     refine tka 10 ?_
     refine doN ?_
     clear hcb
     go_wp2
     have hcb:∀o,wp.cell? ⟨w.heap.size,o,none⟩=World.cell? _ ⟨w.heap.size,o,none⟩:=fun o=>Blwp.out.cell (p:=⟨w.heap.size,o,none⟩) (Nat.lt_succ_self _)
     have Bdwp:Hid (Below (w.heap.size+1) _ wp.drew):=Blwp.out.drew
     have bdwp:w.heap.size<wp.drew.heap.size:=bswp
     refine wp_region_noPanic ?_
     refine wp_region_held_drew (S:=fun W=>∀o,W.cell? ⟨w.heap.size,o,none⟩=(w.alloc (.cells #[.bool false,.int .i64 ty,.int .i64 nu,.int .i64 ti,.int .i64 so,.slice ao cl.length cap,.bool true,.int .i64 pr,.string en,.string py,.int .i64 pa] 41)).cell? ⟨w.heap.size,o,none⟩) (by kernel_rfl) hcb (fun zH=>?_)
     refine tka 0 ?_
     refine tka 2 ?_
     refine tka 5 ?_
     refine tka 6 ?_
     refine tka 9 ?_
     refine tka 10 ?_
     refine tka 13 ?_
     refine tka 14 ?_
     refine tka 17 ?_
     refine rd1 1 fun K hK=>?_
     go_simp
     refine(refTold_int 1 (128+(cl.length:Int)+16+32) _ (by omega) (by omega) (by omega)).mono ?_
     rintro e wd ⟨⟨td,rfl,htd,std⟩,hbtd⟩
     have Htd:=hyd htd
     have ztd:td.size<=1:=by omega
     have bswd:w.heap.size<wd.heap.size:=Nat.lt_of_lt_of_le bswp hbtd.size
     have Blwd:Hid (Below (w.heap.size+1) _ wd):=Bdwp.out.trans (hbtd.mono (Nat.succ_le_of_lt bswp))
     go_wp2_with fail
     refine hK.out _ _ (fun o=>(hbtd.cell (p:=⟨w.heap.size,o,none⟩) bswp).trans (zH o)) (fun zH=>?_)
    rotate_left
    focus
     have hnp:¬0<pa:=hp0
     have Hnp:=hyd hp0
     go_wp2
     have hcb:∀o,wb.cell? ⟨w.heap.size,o,none⟩=World.cell? _ ⟨w.heap.size,o,none⟩:=fun o=>Blwb.out.cell (p:=⟨w.heap.size,o,none⟩) (Nat.lt_succ_self _)
     have Bdwb:Hid (Below (w.heap.size+1) _ wb.drew):=Blwb.out.drew
     have bdwb:w.heap.size<wb.drew.heap.size:=bswb
     refine wp_region_noPanic ?_
     refine wp_region_held_drew (S:=fun W=>∀o,W.cell? ⟨w.heap.size,o,none⟩=(w.alloc (.cells #[.bool false,.int .i64 ty,.int .i64 nu,.int .i64 ti,.int .i64 so,.slice ao cl.length cap,.bool true,.int .i64 pr,.string en,.string py,.int .i64 pa] 41)).cell? ⟨w.heap.size,o,none⟩) (by kernel_rfl) hcb (fun zH=>?_)
     refine tka 0 ?_
     refine tka 2 ?_
     refine tka 5 ?_
     refine tka 6 ?_
     refine tka 9 ?_
     refine tka 10 ?_
     refine tka 13 ?_
     refine tka 14 ?_
     refine tka 17 ?_
     refine rd1 1 fun K hK=>?_
     go_simp
     refine(refTold_int 1 (128+(cl.length:Int)+16) _ (by omega) (by omega) (by omega)).mono ?_
     rintro e wd ⟨⟨td,rfl,htd,std⟩,hbtd⟩
     have Htd:=hyd htd
     have ztd:td.size<=1:=by omega
     have bswd:w.heap.size<wd.heap.size:=Nat.lt_of_lt_of_le bswb hbtd.size
     have Blwd:Hid (Below (w.heap.size+1) _ wd):=Bdwb.out.trans (hbtd.mono (Nat.succ_le_of_lt bswb))
     go_wp2_with fail
     refine hK.out _ _ (fun o=>(hbtd.cell (p:=⟨w.heap.size,o,none⟩) bswb).trans (zH o)) (fun zH=>?_)
    rotate_left
    all_goals
     clear hK K htd std hbtd
     refine rd1 3 fun K hK=>?_
     go_simp
     refine(refTold_int 1 ty _ (by omega) (by omega) (by omega)).mono ?_
     rintro e we ⟨⟨te,rfl,hte,ste⟩,hbte⟩
     have Hte:=hyd hte
     have zte:te.size<=1:=by omega
     have bswe:w.heap.size<we.heap.size:=Nat.lt_of_lt_of_le bswd hbte.size
     have Blwe:Hid (Below (w.heap.size+1) _ we):=Blwd.out.trans (hbte.mono (Nat.succ_le_of_lt bswd))
     have cate0:¬9223372036854775807<td.size+te.size:=by omega
     go_wp2_with fail
     refine hK.out _ _ (fun o=>(hbte.cell (p:=⟨w.heap.size,o,none⟩) bswd).trans (zH o)) (fun zH=>?_)
     clear hK K hte ste hbte
     refine tka 4 ?_
     refine rd1 7 fun K hK=>?_
     go_simp
     refine(refTold_int 2 nu _ (by omega) (by omega) (by omega)).mono ?_
     rintro e wf ⟨⟨tf,rfl,htf,stf⟩,hbtf⟩
     have Htf:=hyd htf
     have ztf:tf.size<=2:=by omega
     have bswf:w.heap.size<wf.heap.size:=Nat.lt_of_lt_of_le bswe hbtf.size
     have Blwf:Hid (Below (w.heap.size+1) _ wf):=Blwe.out.trans (hbtf.mono (Nat.succ_le_of_lt bswe))
     have catf0:¬9223372036854775807<td.size+te.size+tf.size:=by omega
     go_wp2_with fail
     refine hK.out _ _ (fun o=>(hbtf.cell (p:=⟨w.heap.size,o,none⟩) bswe).trans (zH o)) (fun zH=>?_)
     clear hK K htf stf hbtf
     refine tka 8 ?_
     refine rd1 11 fun K hK=>?_
     go_simp
     refine(refTold_int 4 ti _ (by omega) (by omega) (by omega)).mono ?_
     rintro e wg ⟨⟨tg,rfl,htg,stg⟩,hbtg⟩
     have Htg:=hyd htg
     have ztg:tg.size<=4:=by omega
     have bswg:w.heap.size<wg.heap.size:=Nat.lt_of_lt_of_le bswf hbtg.size
     have Blwg:Hid (Below (w.heap.size+1) _ wg):=Blwf.out.trans (hbtg.mono (Nat.succ_le_of_lt bswf))
     have catg0:¬9223372036854775807<td.size+te.size+tf.size+tg.size:=by omega
     go_wp2_with fail
     refine hK.out _ _ (fun o=>(hbtg.cell (p:=⟨w.heap.size,o,none⟩) bswf).trans (zH o)) (fun zH=>?_)
     clear hK K htg stg hbtg
     refine tka 12 ?_
     refine rd1 15 fun K hK=>?_
     go_simp
     refine(refTold_int 4 so _ (by omega) (by omega) (by omega)).mono ?_
     rintro e wh ⟨⟨th,rfl,hth,sth⟩,hbth⟩
     have Hth:=hyd hth
     have zth:th.size<=4:=by omega
     have bswh:w.heap.size<wh.heap.size:=Nat.lt_of_lt_of_le bswg hbth.size
     have Blwh:Hid (Below (w.heap.size+1) _ wh):=Blwg.out.trans (hbth.mono (Nat.succ_le_of_lt bswg))
     have cath0:¬9223372036854775807<td.size+te.size+tf.size+tg.size+th.size:=by omega
    focus
     have cath1:¬9223372036854775807<td.size+te.size+tf.size+tg.size+th.size+(t.size+ta.size+tb.size+en.size+py.size+tz.size+tp.size):=by omega
    rotate_left
    focus
     have cath1:¬9223372036854775807<td.size+te.size+tf.size+tg.size+th.size+(t.size+ta.size+tb.size+en.size+py.size):=by omega
    rotate_left
    all_goals
     go_wp2_with fail
     refine hK.out _ _ (fun o=>(hbth.cell (p:=⟨w.heap.size,o,none⟩) bswg).trans (zH o)) (fun zH=>?_)
     clear hK K hth sth hbth
     refine tka 16 ?_
     refine tka 18 ?_
     refine tka 19 ?_
     refine doN ?_
     clear hcb
    focus
     have Hd:Hid (tellR false true ty nu ti so pr pa cl en py=if 1500<(td++te++tf++tg++th++(t++ta++tb++en++py++tz++tp)).size then(⟨#[]⟩,1)else(td++te++tf++tg++th++(t++ta++tb++en++py++tz++tp),0)):=by
      refine tell_done _ (tellOk_of Hok.out hall.out) ?_
      simp only[append_list,Htd.out,Hte.out,Htf.out,Htg.out,Hth.out,htl.out,Hta.out,Htb.out,Htz.out,Htp.out]
      have hn:0<pa:=by have:=Hnp.out;omega
      have h:=tells (mk:=false) (py:=py) Hok.out (128+(cl.length:Int)+16+32) ty (told pr.toNat 2++told ((en.size:Int)/4).toNat 2++en.data.toList) (List.replicate (pa-1).toNat 0++told pa.toNat 1) (by simp[hn]) (by simp) (by unfold extB;rw[if_pos rfl,<-Lib.size_eq,show((en.size:Int)/4).toNat=en.size/4 by omega]) (by unfold padB;rw[if_neg (by have:=Hnp.out;omega),told_one _ (by omega),show(pa-1).toNat=pa.toNat-1 by omega])
      simpa only[List.append_assoc,List.append_nil,List.nil_append]using h
    rotate_left
    ·have Hd:Hid (tellR false true ty nu ti so pr pa cl en py=if 1500<(td++te++tf++tg++th++(t++ta++tb++en++py)).size then(⟨#[]⟩,1)else(td++te++tf++tg++th++(t++ta++tb++en++py),0)):=by
      refine tell_done _ (tellOk_of Hok.out hall.out) ?_
      simp only[append_list,Htd.out,Hte.out,Htf.out,Htg.out,Hth.out,htl.out,Hta.out,Htb.out]
      have hn:¬0<pa:=by have:=Hnp.out;omega
      have h:=tells (mk:=false) (py:=py) Hok.out (128+(cl.length:Int)+16) ty (told pr.toNat 2++told ((en.size:Int)/4).toNat 2++en.data.toList) [] (by simp[hn]) (by simp) (by unfold extB;rw[if_pos rfl,<-Lib.size_eq,show((en.size:Int)/4).toNat=en.size/4 by omega]) (by rw[show pa.toNat=0 by have:=Hnp.out;omega];rfl)
      simpa only[List.append_assoc,List.append_nil,List.nil_append]using h
     have Bf:Hid (Below w.heap.size w wh):=((Below.refl _ _).alloc (Nat.le_refl _) _).trans (Blwh.out.mono (by omega))
     by_cases hL:1500<td.size+te.size+tf.size+tg.size+th.size+(t.size+ta.size+tb.size+en.size+py.size)
     ·have hL':(1500:Int)<td.size+te.size+tf.size+tg.size+th.size+(t.size+ta.size+tb.size+en.size+py.size):=by omega
      go_wp2
      go_ret2
      refine⟨?_,Bf.out⟩
      rw[Hd.out,if_pos (by simpa[ByteArray.size_append]using hL)]
      rfl
     ·have hL':¬(1500:Int)<td.size+te.size+tf.size+tg.size+th.size+(t.size+ta.size+tb.size+en.size+py.size):=by omega
      go_wp2
      go_ret2
      refine⟨?_,Bf.out⟩
      rw[Hd.out,if_neg (by simpa[ByteArray.size_append]using hL)]
      rfl
   rotate_left
   focus
    by_cases hp0:0<pa
    focus
     have hnp:0<pa:=hp0
     have Hnp:=hyd hp0
     go_wp2
     have hcb:∀o,wb.cell? ⟨w.heap.size,o,none⟩=World.cell? _ ⟨w.heap.size,o,none⟩:=fun o=>Blwb.out.cell (p:=⟨w.heap.size,o,none⟩) (Nat.lt_succ_self _)
     have Bdwb:Hid (Below (w.heap.size+1) _ wb.drew):=Blwb.out.drew
     have bdwb:w.heap.size<wb.drew.heap.size:=bswb
     have hwp:IntKind.i64.wrap (pa-1)=pa-1:=wrapI64 _ (by omega) (by omega)
     refine wp_region_noPanic ?_
     refine wp_region_held_drew (S:=fun W=>∀o,W.cell? ⟨w.heap.size,o,none⟩=(w.alloc (.cells #[.bool true,.int .i64 ty,.int .i64 nu,.int .i64 ti,.int .i64 so,.slice ao cl.length cap,.bool true,.int .i64 pr,.string en,.string py,.int .i64 pa] 41)).cell? ⟨w.heap.size,o,none⟩) (by kernel_rfl) hcb (fun zH=>?_)
     refine tka 0 ?_
     refine tka 1 ?_
     refine tka 2 ?_
     refine tka 3 ?_
     refine tka 6 ?_
     refine tka 7 ?_
     refine rd1 4 fun K hK=>?_
     go_simp
     refine(refNoughts_int (pa-1) _ (by omega) (by omega)).mono ?_
     rintro e wz ⟨⟨tz,rfl,htz,stz⟩,rfl⟩
     have Htz:=hyd htz
     have catz0:¬9223372036854775807<t.size+ta.size+tb.size+en.size+py.size+tz.size:=by omega
     go_wp2_with fail
     refine hK.out _ _ (fun o=>zH o) (fun zH=>?_)
     clear hK K htz
     refine tka 5 ?_
     refine rd1 8 fun K hK=>?_
     go_simp
     refine(refTold_int 1 pa _ (by omega) (by omega) (by omega)).mono ?_
     rintro e wp ⟨⟨tp,rfl,htp,stp⟩,hbtp⟩
     have Htp:=hyd htp
     have ztp:tp.size<=1:=by omega
     have bswp:w.heap.size<wp.heap.size:=Nat.lt_of_lt_of_le bswb hbtp.size
     have Blwp:Hid (Below (w.heap.size+1) _ wp):=Bdwb.out.trans (hbtp.mono (Nat.succ_le_of_lt bswb))
     have catp0:¬9223372036854775807<t.size+ta.size+tb.size+en.size+py.size+tz.size+tp.size:=by omega
     go_wp2_with fail
     refine hK.out _ _ (fun o=>(hbtp.cell (p:=⟨w.heap.size,o,none⟩) bswb).trans (zH o)) (fun zH=>?_)
     clear hK K htp stp hbtp
     refine tka 9 ?_
     refine tka 10 ?_
     refine doN ?_
     clear hcb
     go_wp2
     have hcb:∀o,wp.cell? ⟨w.heap.size,o,none⟩=World.cell? _ ⟨w.heap.size,o,none⟩:=fun o=>Blwp.out.cell (p:=⟨w.heap.size,o,none⟩) (Nat.lt_succ_self _)
     have Bdwp:Hid (Below (w.heap.size+1) _ wp.drew):=Blwp.out.drew
     have bdwp:w.heap.size<wp.drew.heap.size:=bswp
     refine wp_region_noPanic ?_
     refine wp_region_held_drew (S:=fun W=>∀o,W.cell? ⟨w.heap.size,o,none⟩=(w.alloc (.cells #[.bool true,.int .i64 ty,.int .i64 nu,.int .i64 ti,.int .i64 so,.slice ao cl.length cap,.bool true,.int .i64 pr,.string en,.string py,.int .i64 pa] 41)).cell? ⟨w.heap.size,o,none⟩) (by kernel_rfl) hcb (fun zH=>?_)
     refine tka 0 ?_
     refine tka 2 ?_
     refine tka 5 ?_
     refine tka 6 ?_
     refine tka 9 ?_
     refine tka 10 ?_
     refine tka 13 ?_
     refine tka 14 ?_
     refine tka 17 ?_
     refine rd1 1 fun K hK=>?_
     go_simp
     refine(refTold_int 1 (128+(cl.length:Int)+16+32) _ (by omega) (by omega) (by omega)).mono ?_
     rintro e wd ⟨⟨td,rfl,htd,std⟩,hbtd⟩
     have Htd:=hyd htd
     have ztd:td.size<=1:=by omega
     have bswd:w.heap.size<wd.heap.size:=Nat.lt_of_lt_of_le bswp hbtd.size
     have Blwd:Hid (Below (w.heap.size+1) _ wd):=Bdwp.out.trans (hbtd.mono (Nat.succ_le_of_lt bswp))
     go_wp2_with fail
     refine hK.out _ _ (fun o=>(hbtd.cell (p:=⟨w.heap.size,o,none⟩) bswp).trans (zH o)) (fun zH=>?_)
    rotate_left
    focus
     have hnp:¬0<pa:=hp0
     have Hnp:=hyd hp0
     go_wp2
     have hcb:∀o,wb.cell? ⟨w.heap.size,o,none⟩=World.cell? _ ⟨w.heap.size,o,none⟩:=fun o=>Blwb.out.cell (p:=⟨w.heap.size,o,none⟩) (Nat.lt_succ_self _)
     have Bdwb:Hid (Below (w.heap.size+1) _ wb.drew):=Blwb.out.drew
     have bdwb:w.heap.size<wb.drew.heap.size:=bswb
     refine wp_region_noPanic ?_
     refine wp_region_held_drew (S:=fun W=>∀o,W.cell? ⟨w.heap.size,o,none⟩=(w.alloc (.cells #[.bool true,.int .i64 ty,.int .i64 nu,.int .i64 ti,.int .i64 so,.slice ao cl.length cap,.bool true,.int .i64 pr,.string en,.string py,.int .i64 pa] 41)).cell? ⟨w.heap.size,o,none⟩) (by kernel_rfl) hcb (fun zH=>?_)
     refine tka 0 ?_
     refine tka 2 ?_
     refine tka 5 ?_
     refine tka 6 ?_
     refine tka 9 ?_
     refine tka 10 ?_
     refine tka 13 ?_
     refine tka 14 ?_
     refine tka 17 ?_
     refine rd1 1 fun K hK=>?_
     go_simp
     refine(refTold_int 1 (128+(cl.length:Int)+16) _ (by omega) (by omega) (by omega)).mono ?_
     rintro e wd ⟨⟨td,rfl,htd,std⟩,hbtd⟩
     have Htd:=hyd htd
     have ztd:td.size<=1:=by omega
     have bswd:w.heap.size<wd.heap.size:=Nat.lt_of_lt_of_le bswb hbtd.size
     have Blwd:Hid (Below (w.heap.size+1) _ wd):=Bdwb.out.trans (hbtd.mono (Nat.succ_le_of_lt bswb))
     go_wp2_with fail
     refine hK.out _ _ (fun o=>(hbtd.cell (p:=⟨w.heap.size,o,none⟩) bswb).trans (zH o)) (fun zH=>?_)
    rotate_left
    all_goals
     clear hK K htd std hbtd
     refine rd1 3 fun K hK=>?_
     go_simp
     refine(refTold_int 1 (ty+128) _ (by omega) (by omega) (by omega)).mono ?_
     rintro e we ⟨⟨te,rfl,hte,ste⟩,hbte⟩
     have Hte:=hyd hte
     have zte:te.size<=1:=by omega
     have bswe:w.heap.size<we.heap.size:=Nat.lt_of_lt_of_le bswd hbte.size
     have Blwe:Hid (Below (w.heap.size+1) _ we):=Blwd.out.trans (hbte.mono (Nat.succ_le_of_lt bswd))
     have cate0:¬9223372036854775807<td.size+te.size:=by omega
     go_wp2_with fail
     refine hK.out _ _ (fun o=>(hbte.cell (p:=⟨w.heap.size,o,none⟩) bswd).trans (zH o)) (fun zH=>?_)
     clear hK K hte ste hbte
     refine tka 4 ?_
     refine rd1 7 fun K hK=>?_
     go_simp
     refine(refTold_int 2 nu _ (by omega) (by omega) (by omega)).mono ?_
     rintro e wf ⟨⟨tf,rfl,htf,stf⟩,hbtf⟩
     have Htf:=hyd htf
     have ztf:tf.size<=2:=by omega
     have bswf:w.heap.size<wf.heap.size:=Nat.lt_of_lt_of_le bswe hbtf.size
     have Blwf:Hid (Below (w.heap.size+1) _ wf):=Blwe.out.trans (hbtf.mono (Nat.succ_le_of_lt bswe))
     have catf0:¬9223372036854775807<td.size+te.size+tf.size:=by omega
     go_wp2_with fail
     refine hK.out _ _ (fun o=>(hbtf.cell (p:=⟨w.heap.size,o,none⟩) bswe).trans (zH o)) (fun zH=>?_)
     clear hK K htf stf hbtf
     refine tka 8 ?_
     refine rd1 11 fun K hK=>?_
     go_simp
     refine(refTold_int 4 ti _ (by omega) (by omega) (by omega)).mono ?_
     rintro e wg ⟨⟨tg,rfl,htg,stg⟩,hbtg⟩
     have Htg:=hyd htg
     have ztg:tg.size<=4:=by omega
     have bswg:w.heap.size<wg.heap.size:=Nat.lt_of_lt_of_le bswf hbtg.size
     have Blwg:Hid (Below (w.heap.size+1) _ wg):=Blwf.out.trans (hbtg.mono (Nat.succ_le_of_lt bswf))
     have catg0:¬9223372036854775807<td.size+te.size+tf.size+tg.size:=by omega
     go_wp2_with fail
     refine hK.out _ _ (fun o=>(hbtg.cell (p:=⟨w.heap.size,o,none⟩) bswf).trans (zH o)) (fun zH=>?_)
     clear hK K htg stg hbtg
     refine tka 12 ?_
     refine rd1 15 fun K hK=>?_
     go_simp
     refine(refTold_int 4 so _ (by omega) (by omega) (by omega)).mono ?_
     rintro e wh ⟨⟨th,rfl,hth,sth⟩,hbth⟩
     have Hth:=hyd hth
     have zth:th.size<=4:=by omega
     have bswh:w.heap.size<wh.heap.size:=Nat.lt_of_lt_of_le bswg hbth.size
     have Blwh:Hid (Below (w.heap.size+1) _ wh):=Blwg.out.trans (hbth.mono (Nat.succ_le_of_lt bswg))
     have cath0:¬9223372036854775807<td.size+te.size+tf.size+tg.size+th.size:=by omega
    focus
     have cath1:¬9223372036854775807<td.size+te.size+tf.size+tg.size+th.size+(t.size+ta.size+tb.size+en.size+py.size+tz.size+tp.size):=by omega
    rotate_left
    focus
     have cath1:¬9223372036854775807<td.size+te.size+tf.size+tg.size+th.size+(t.size+ta.size+tb.size+en.size+py.size):=by omega
    rotate_left
    all_goals
     go_wp2_with fail
     refine hK.out _ _ (fun o=>(hbth.cell (p:=⟨w.heap.size,o,none⟩) bswg).trans (zH o)) (fun zH=>?_)
     clear hK K hth sth hbth
     refine tka 16 ?_
     refine tka 18 ?_
     refine tka 19 ?_
     refine doN ?_
     clear hcb
    focus
     have Hd:Hid (tellR true true ty nu ti so pr pa cl en py=if 1500<(td++te++tf++tg++th++(t++ta++tb++en++py++tz++tp)).size then(⟨#[]⟩,1)else(td++te++tf++tg++th++(t++ta++tb++en++py++tz++tp),0)):=by
      refine tell_done _ (tellOk_of Hok.out hall.out) ?_
      simp only[append_list,Htd.out,Hte.out,Htf.out,Htg.out,Hth.out,htl.out,Hta.out,Htb.out,Htz.out,Htp.out]
      have hn:0<pa:=by have:=Hnp.out;omega
      have h:=tells (mk:=true) (py:=py) Hok.out (128+(cl.length:Int)+16+32) (ty+128) (told pr.toNat 2++told ((en.size:Int)/4).toNat 2++en.data.toList) (List.replicate (pa-1).toNat 0++told pa.toNat 1) (by simp[hn]) (by simp) (by unfold extB;rw[if_pos rfl,<-Lib.size_eq,show((en.size:Int)/4).toNat=en.size/4 by omega]) (by unfold padB;rw[if_neg (by have:=Hnp.out;omega),told_one _ (by omega),show(pa-1).toNat=pa.toNat-1 by omega])
      simpa only[List.append_assoc,List.append_nil,List.nil_append]using h
    rotate_left
    ·have Hd:Hid (tellR true true ty nu ti so pr pa cl en py=if 1500<(td++te++tf++tg++th++(t++ta++tb++en++py)).size then(⟨#[]⟩,1)else(td++te++tf++tg++th++(t++ta++tb++en++py),0)):=by
      refine tell_done _ (tellOk_of Hok.out hall.out) ?_
      simp only[append_list,Htd.out,Hte.out,Htf.out,Htg.out,Hth.out,htl.out,Hta.out,Htb.out]
      have hn:¬0<pa:=by have:=Hnp.out;omega
      have h:=tells (mk:=true) (py:=py) Hok.out (128+(cl.length:Int)+16) (ty+128) (told pr.toNat 2++told ((en.size:Int)/4).toNat 2++en.data.toList) [] (by simp[hn]) (by simp) (by unfold extB;rw[if_pos rfl,<-Lib.size_eq,show((en.size:Int)/4).toNat=en.size/4 by omega]) (by rw[show pa.toNat=0 by have:=Hnp.out;omega];rfl)
      simpa only[List.append_assoc,List.append_nil,List.nil_append]using h
     have Bf:Hid (Below w.heap.size w wh):=((Below.refl _ _).alloc (Nat.le_refl _) _).trans (Blwh.out.mono (by omega))
     by_cases hL:1500<td.size+te.size+tf.size+tg.size+th.size+(t.size+ta.size+tb.size+en.size+py.size)
     ·have hL':(1500:Int)<td.size+te.size+tf.size+tg.size+th.size+(t.size+ta.size+tb.size+en.size+py.size):=by omega
      go_wp2
      go_ret2
      refine⟨?_,Bf.out⟩
      rw[Hd.out,if_pos (by simpa[ByteArray.size_append]using hL)]
      rfl
     ·have hL':¬(1500:Int)<td.size+te.size+tf.size+tg.size+th.size+(t.size+ta.size+tb.size+en.size+py.size):=by omega
      go_wp2
      go_ret2
      refine⟨?_,Bf.out⟩
      rw[Hd.out,if_neg (by simpa[ByteArray.size_append]using hL)]
      rfl
   all_goals
    have Bf:Hid (Below w.heap.size w wh):=((Below.refl _ _).alloc (Nat.le_refl _) _).trans (Blwh.out.mono (by omega))
    by_cases hL:1500<td.size+te.size+tf.size+tg.size+th.size+(t.size+ta.size+tb.size+en.size+py.size+tz.size+tp.size)
    ·have hL':(1500:Int)<td.size+te.size+tf.size+tg.size+th.size+(t.size+ta.size+tb.size+en.size+py.size+tz.size+tp.size):=by omega
     go_wp2
     go_ret2
     refine⟨?_,Bf.out⟩
     rw[Hd.out,if_pos (by simpa[ByteArray.size_append]using hL)]
     rfl
    ·have hL':¬(1500:Int)<td.size+te.size+tf.size+tg.size+th.size+(t.size+ta.size+tb.size+en.size+py.size+tz.size+tp.size):=by omega
     go_wp2
     go_ret2
     refine⟨?_,Bf.out⟩
     rw[Hd.out,if_neg (by simpa[ByteArray.size_append]using hL)]
     rfl
end Go.Proofs.YtdjhhnolcafkiaaGreat
