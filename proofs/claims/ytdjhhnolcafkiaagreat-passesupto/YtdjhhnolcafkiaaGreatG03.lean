import Derived.Test.YtdjhhnolcafkiaaGreatG01
import Derived.Test.YtdjhhnolcafkiaaGreatG02
import Derived.Deep.RegionHeld
import Derived.Deep.QuietTactic
import Derived.BigQuiet
import Derived.Outline
set_option linter.unusedVariables false
set_option linter.unusedSimpArgs false
set_option maxHeartbeats 40000000
set_option maxRecDepth 20000
namespace Go.Proofs.YtdjhhnolcafkiaaGreat
open Go.RowKit Pk
theorem removeK_any (base sb:Nat) (v:Value) (l:List Kp) (num:Nat) (w:World) (hv:w.cell? ⟨sb,2,none⟩=some v) (hf:∀o,w.frozen? ⟨sb,o,none⟩=false) (hne:v.ownBlock≠some sb) (hown:w.ownsRow base 194 13 v l.length (l.flatMap cellsK)) (h1:OneK l) (hn:l.length<=99000) :
  Calls Tryz.prog 129 #[.pointer (some ⟨sb,0,none⟩),.int .u16 num] w fun e w'=>e = .returned (.bool (decide (0<=posF num (l.map Kp.n))))/\∃v',Upd w w' sb v v'/\w'.ownsRow base 194 13 v' (rmF Kp.n num l).length ((rmF Kp.n num l).flatMap cellsK):=by
 obtain⟨ao,cap,rfl⟩:=rowA_shape hown
 have Hown:=hyd hown
 have hs:sb<w.heap.size:=lt_of_cell hv
 have Hv:=hyd hv
 have Hf:=hyd hf
 clear hown hf hv
 have H1:=hyd h1
 clear h1
 go_enter Tryz.func129,Tryz.ntmps129
 go_wp2_with fail
 refine(findK_any base sb _ l num _ Hv.out Hown.out (by omega)).mono ?_
 rintro e w1 ⟨rfl,hb1⟩
 have Hr1:Hid (w1.ownsRow base 194 13 (.slice ao l.length cap) l.length (l.flatMap cellsK)):=rowA_chg (Chg.ofBelow (T:=fun _=>False) hb1) Hown.out (fun _ _ e=>e)
 have y2:w1.cell? ⟨sb,2,none⟩=some (.slice ao l.length cap):=(hb1.cell (p:=⟨sb,2,none⟩) hs).trans Hv.out
 have yf:∀o,w1.frozen? ⟨sb,o,none⟩=false:=fun o=>(hb1.frozen (p:=⟨sb,o,none⟩) hs).trans (Hf.out o)
 have Hb1:=hyd hb1
 have hs1:sb<w1.heap.size:=Nat.lt_of_lt_of_le hs hb1.size
 clear hb1 Hown
 rcases posF_cases num (l.map Kp.n)with⟨hp,-⟩|⟨i,hi,hp,-⟩
 ·have HR:Hid (rmF Kp.n num l=l):=by show _=_;unfold rmF;rw[if_pos (by rw[hp];decide)]
  have Hp:Hid (false=decide (0<=posF num (l.map Kp.n))):=by show _=_;rw[hp];decide
  rw[hp]
  clear hp
  go_wp2
  go_ret
  refine⟨ret_bool Hp.out,_,Upd.before Hb1.out hs (Upd.refl y2),?_⟩
  rw[HR.out]
  exact Hr1.out
 ·have hil:i<l.length:=by simpa using hi
  have HR:Hid (rmF Kp.n num l=l.take i++l.drop (i+1)):=by show _=_;unfold rmF;rw[if_neg (by rw[hp];omega),hp];rfl
  have Hp:Hid (decide (0<=posF num (l.map Kp.n))=true):=by show _=_;rw[hp];exact decide_eq_true (by omega)
  rw[hp]
  clear hp hi
  go_wp2_with fail
  refine(deleteK_any base _ l.length i (i+1) (l.flatMap cellsK) _ Hr1.out (cellsK_one l H1.out) (by omega) (by omega) (by omega)).mono ?_
  rintro e w2 ⟨v',rfl,hown2,hg2,ho2⟩
  obtain⟨a2,c2,rfl⟩:=rowA_shape hown2
  have hlen:l.length-(i+1-i)=(rmF Kp.n num l).length:=by rw[HR.out,List.length_append,List.length_take,List.length_drop];omega
  rw[hlen,flat_take cellsK_len,flat_drop cellsK_len,<-List.flatMap_append,<-HR.out]at hown2
  rw[hlen]
  have hc2:Chg (fun x=>(Value.slice ao l.length cap).ownBlock=some x) w1 w2:=Chg.ofGrown hg2
  have z2:w2.cell? ⟨sb,2,none⟩=some (.slice ao l.length cap):=hc2.cell y2 hne
  have zf:∀o,w2.frozen? ⟨sb,o,none⟩=false:=fun o=>(hc2.frozen (p:=⟨sb,o,none⟩) hs1 hne).trans (yf o)
  generalize hrn:(rmF Kp.n num l).length=rn at *
  have Hrn:=hyd hrn
  clear hrn
  have HU:Hid (Upd w (w2.setCell ⟨sb,2,none⟩ (.slice a2 rn c2)) sb (.slice ao l.length cap) (.slice a2 rn c2)):=Upd.before Hb1.out hs (Upd.stored hs1 y2 hne hg2 (fun x hx=>.inl (by rw[hlen]at ho2;exact ho2▸hx)))
  have HRR:Hid (World.ownsRow (w2.setCell ⟨sb,2,none⟩ (.slice a2 rn c2)) base 194 13 (.slice a2 rn c2) rn ((rmF Kp.n num l).flatMap cellsK)):=rowA_chg (T:=fun x=>x=sb) ((Chg.refl (fun x=>x=sb) _).setCell ⟨sb,2,none⟩ (.inl rfl) _) hown2 (fun x hx e=>hne (by subst e;rw[hlen]at ho2;exact ho2▸hx))
  clear hown2 hg2 ho2 hc2 hlen
  go_wp2
  go_ret
  rw[Hrn.out]
  exact⟨ret_bool Hp.out.symm,_,HU.out,HRR.out⟩
theorem removeFirstK_any (base sb:Nat) (v:Value) (l:List Kp) (c:Nat) (w:World) (hv:w.cell? ⟨sb,2,none⟩=some v) (hf:∀o,w.frozen? ⟨sb,o,none⟩=false) (hne:v.ownBlock≠some sb) (hown:w.ownsRow base 194 13 v l.length (l.flatMap cellsK)) (h1:OneK l) (hn:l.length<=99000) (hcl:c<=l.length) :
  Calls Tryz.prog 115 #[.pointer (some ⟨sb,0,none⟩),.int .i64 c] w fun e w'=>e = .returned (.tuple #[])/\∃v',Upd w w' sb v v'/\w'.ownsRow base 194 13 v' (l.drop c).length ((l.drop c).flatMap cellsK):=by
 obtain⟨ao,cap,rfl⟩:=rowA_shape hown
 have Hown:=hyd hown
 have hs:sb<w.heap.size:=lt_of_cell hv
 clear hown
 have H1:=hyd h1
 clear h1
 go_enter Tryz.func115,Tryz.ntmps115
 go_wp2_with fail
 refine(deleteK_any base _ l.length 0 c (l.flatMap cellsK) _ Hown.out (cellsK_one l H1.out) (by omega) hcl (by omega)).mono ?_
 rintro e w2 ⟨v',rfl,hown2,hg2,ho2⟩
 obtain⟨a2,c2,rfl⟩:=rowA_shape hown2
 have hlen:l.length-(c-0)=(l.drop c).length:=by rw[List.length_drop];omega
 rw[hlen,Nat.zero_mul,List.take_zero,List.nil_append,flat_drop cellsK_len]at hown2
 rw[hlen]
 have hc2:Chg (fun x=>(Value.slice ao l.length cap).ownBlock=some x) w w2:=Chg.ofGrown hg2
 have z2:w2.cell? ⟨sb,2,none⟩=some (.slice ao l.length cap):=hc2.cell hv hne
 have zf:∀o,w2.frozen? ⟨sb,o,none⟩=false:=fun o=>(hc2.frozen (p:=⟨sb,o,none⟩) hs hne).trans (hf o)
 generalize hrn:(l.drop c).length=rn at *
 have Hrn:=hyd hrn
 clear hrn
 have HU:Hid (Upd w (w2.setCell ⟨sb,2,none⟩ (.slice a2 rn c2)) sb (.slice ao l.length cap) (.slice a2 rn c2)):=Upd.stored hs hv hne hg2 (fun x hx=>.inl (by rw[hlen]at ho2;exact ho2▸hx))
 have HRR:Hid (World.ownsRow (w2.setCell ⟨sb,2,none⟩ (.slice a2 rn c2)) base 194 13 (.slice a2 rn c2) rn ((l.drop c).flatMap cellsK)):=rowA_chg (T:=fun x=>x=sb) ((Chg.refl (fun x=>x=sb) _).setCell ⟨sb,2,none⟩ (.inl rfl) _) hown2 (fun x hx e=>hne (by subst e;rw[hlen]at ho2;exact ho2▸hx))
 clear hown2 hg2 ho2 hc2 hlen hf hv
 go_wp2
 go_end0
 rw[Hrn.out]
 exact⟨rfl,_,HU.out,HRR.out⟩
theorem addK_any (base sb:Nat) (v:Value) (l:List Kp) (num:Nat) (x:PP) (cv:Value) (re:Int) (w:World) (hv:w.cell? ⟨sb,2,none⟩=some v) (hf:∀o,w.frozen? ⟨sb,o,none⟩=false) (hne:v.ownBlock≠some sb) (hown:w.ownsRow base 194 13 v l.length (l.flatMap cellsK)) (h1:OneK l) (hcv:cv.oneCell'=true) (hn:l.length<=98000) (hb:base<=w.heap.size) (hsb:sb<base) :
  Calls Tryz.prog 114 #[.pointer (some ⟨sb,0,none⟩),.int .u16 num,.agg #[.bool x.mrk,.int .i64 x.ty,.int .i64 x.nu,.int .i64 x.ti,.int .i64 x.so,cv,.bool x.ex,.int .i64 x.pr,.string x.en,.string x.py,.int .i64 x.pa,.int .i64 re]] w fun e w'=>e = .returned (.tuple #[])/\∃v',Upd w w' sb v v'/\w'.ownsRow base 194 13 v' (rmF Kp.n num l++([⟨num,x,cv,re⟩]:List Kp)).length ((rmF Kp.n num l++([⟨num,x,cv,re⟩]:List Kp)).flatMap cellsK):=by
 have hs:sb<w.heap.size:=lt_of_cell hv
 have hrl:=rmF_length (fun x:Kp=>x.n) num l
 have Hown:=hyd hown
 have Hv:=hyd hv
 have Hf:=hyd hf
 have hvl:∀x,v.ownBlock=some x->x<w.heap.size:=fun x hx=>(hown.lt x hx).2
 obtain⟨i0,hi0,hz0,hz1,hz2⟩:=info_parts infoK
 have Hi:Hid (Tryz.prog.info? 194=some i0/\i0.zero=_/\i0.size=13/\i0.bytes=136):=⟨hi0,hz0,hz1,hz2⟩
 clear hown hf hv hi0 hz0 hz1 hz2
 have H1:=hyd h1
 clear h1
 go_enter Tryz.func114,Tryz.ntmps114
 go_wp2_with fail
 refine(removeK_any base sb v l num _ ((World.cell?_alloc_lt _ _ _ (by simpa using hs)).trans Hv.out) (fun o=>(((Below.refl w.heap.size w).alloc (Nat.le_refl _) _).frozen (p:=⟨sb,o,none⟩) hs).trans (Hf.out o)) hne (World.ownsRow.alloc Hown.out _) H1.out (by omega)).mono ?_
 rintro e w2 ⟨rfl,v2,hU2,hr2⟩
 obtain⟨a2,c2,rfl⟩:=rowA_shape hr2
 have hnb:¬(w.heap.size=sb\/v.ownBlock=some w.heap.size):=by
  rintro(e|e)
  ·omega
  ·have:=hvl _ e;omega
 have hbx:∀o u,(w.alloc (.cells #[.bool x.mrk,.int .i64 x.ty,.int .i64 x.nu,.int .i64 x.ti,.int .i64 x.so,cv,.bool x.ex,.int .i64 x.pr,.string x.en,.string x.py,.int .i64 x.pa,.int .i64 re] 164)).cell? ⟨w.heap.size,o,none⟩=some u->w2.cell? ⟨w.heap.size,o,none⟩=some u:=fun o u hu=>hU2.chg.cell (p:=⟨w.heap.size,o,none⟩) hu hnb
 have q0:w2.cell? ⟨w.heap.size,0,none⟩=some (.bool x.mrk):=hbx 0 _ (cell_new _ _ _ 0)
 have q1:w2.cell? ⟨w.heap.size,1,none⟩=some (.int .i64 x.ty):=hbx 1 _ (cell_new _ _ _ 1)
 have q2:w2.cell? ⟨w.heap.size,2,none⟩=some (.int .i64 x.nu):=hbx 2 _ (cell_new _ _ _ 2)
 have q3:w2.cell? ⟨w.heap.size,3,none⟩=some (.int .i64 x.ti):=hbx 3 _ (cell_new _ _ _ 3)
 have q4:w2.cell? ⟨w.heap.size,4,none⟩=some (.int .i64 x.so):=hbx 4 _ (cell_new _ _ _ 4)
 have q5:w2.cell? ⟨w.heap.size,5,none⟩=some (cv):=hbx 5 _ (cell_new _ _ _ 5)
 have q6:w2.cell? ⟨w.heap.size,6,none⟩=some (.bool x.ex):=hbx 6 _ (cell_new _ _ _ 6)
 have q7:w2.cell? ⟨w.heap.size,7,none⟩=some (.int .i64 x.pr):=hbx 7 _ (cell_new _ _ _ 7)
 have q8:w2.cell? ⟨w.heap.size,8,none⟩=some (.string x.en):=hbx 8 _ (cell_new _ _ _ 8)
 have q9:w2.cell? ⟨w.heap.size,9,none⟩=some (.string x.py):=hbx 9 _ (cell_new _ _ _ 9)
 have q10:w2.cell? ⟨w.heap.size,10,none⟩=some (.int .i64 x.pa):=hbx 10 _ (cell_new _ _ _ 10)
 have q11:w2.cell? ⟨w.heap.size,11,none⟩=some (.int .i64 re):=hbx 11 _ (cell_new _ _ _ 11)
 have HU2:Hid (Upd w w2 sb v (.slice a2 (rmF Kp.n num l).length c2)):=Upd.before ((Below.refl _ _).alloc (Nat.le_refl _) _) hs hU2
 have Hr1:=hyd hr2
 have y2:w2.cell? ⟨sb,2,none⟩=some (.slice a2 (rmF Kp.n num l).length c2):=hU2.c2
 have yf:∀o,w2.frozen? ⟨sb,o,none⟩=false:=fun o=>(HU2.out.fz o).trans (Hf.out o)
 have hs2:sb<w2.heap.size:=Nat.lt_of_lt_of_le hs HU2.out.chg.size
 have hb2:base<=w2.heap.size:=Nat.le_trans hb HU2.out.chg.size
 have hne2:(Value.slice a2 (rmF Kp.n num l).length c2).ownBlock≠some sb:=fun e=>by have:=(Hr1.out.lt sb e).1;omega
 clear hU2 hr2 hbx hnb
 generalize hrn:(rmF Kp.n num l).length=rn at *
 have Hrn:=hyd hrn
 clear hrn
 go_wp2
 refine wp_region_noPanic ?_
 refine wp_region_held_drew (S:=fun _=>True) (by kernel_rfl) trivial (fun zH=>?_)
 refine tka 0 ?_
 refine tka 1 ?_
 refine tka 2 ?_
 refine tka 3 ?_
 refine tka 5 ?_
 refine wpAnyH_ready (rs:=[4,6]) (by kernel_rfl) (by simp) ?_
 refine AllReadyH.cons rfl (fun K hK=>?_) (AllReadyH.cons rfl (fun K hK=>?_) AllReadyH.nil)
 focus
  go_simp
  refine hK.out _ _ trivial (fun zH=>?_)
  clear hK K
  refine rd1 6 fun K hK=>?_
  go_simp
  refine hK.out _ _ trivial (fun zH=>?_)
  clear hK K
  refine tka 7 ?_
  refine rd1 8 fun K hK=>?_
 rotate_left
 focus
  go_simp
  refine hK.out _ _ trivial (fun zH=>?_)
  clear hK K
  refine tka 7 ?_
  refine wpAnyH_ready (rs:=[4,8]) (by kernel_rfl) (by simp) ?_
  refine AllReadyH.cons rfl (fun K hK=>?_) (AllReadyH.cons rfl (fun K hK=>?_) AllReadyH.nil)
  focus
   go_simp
   refine hK.out _ _ trivial (fun zH=>?_)
   clear hK K
   refine rd1 8 fun K hK=>?_
  rotate_left
  focus
   go_simp
   refine hK.out _ _ trivial (fun zH=>?_)
   clear hK K
   refine rd1 4 fun K hK=>?_
 all_goals
  go_simp
  refine hK.out _ _ trivial (fun zH=>?_)
  clear hK K
  refine rd1 9 fun K hK=>?_
  rw[if_pos (by rfl)]
  refine wp_append_at (.tmp 13) (.tmp 17) 137 rfl base 194 i0 _ 13 136 Tryz.underlying137 Hi.out.1 Hi.out.2.1 Hi.out.2.2.1 Hi.out.2.2.2 rfl (by decide) (.slice a2 rn c2) rn ((rmF Kp.n num l).flatMap cellsK) (by rfl) (World.ownsRow.drew (World.ownsRow.alloc Hr1.out _)) _ 1 1 (cellsK ⟨num,x,cv,re⟩) (by rfl) rfl (cells_newAt _ (cellsK ⟨num,x,cv,re⟩) _ _ (by simp)) ?_ (by unfold maxLen;omega) (by omega) (by simp;omega) ?_
  ·intro u hu
   refine cellsK_one [⟨num,x,cv,re⟩] (fun y hy=>by simp at hy;subst hy;exact hcv) u ?_
   simpa using hu
  intro v' w3 hown' hgrow hob
  have hbg:w2.grownBy w3 (Value.slice a2 rn c2).ownBlock:=((World.grownBy_alloc _ _ _).trans (World.grownBy_drewX _ _)).trans hgrow
  have hc3:Chg (fun x=>(Value.slice a2 rn c2).ownBlock=some x) w2 w3:=Chg.ofGrown hbg
  have z2:w3.cell? ⟨sb,2,none⟩=some (.slice a2 rn c2):=hc3.cell y2 hne2
  have zf:∀o,w3.frozen? ⟨sb,o,none⟩=false:=fun o=>(hc3.frozen (p:=⟨sb,o,none⟩) hs2 hne2).trans (yf o)
  obtain⟨a3,c3,rfl⟩:=rowA_shape hown'
  have HU3:Hid (Upd w (w3.setCell ⟨sb,2,none⟩ (.slice a3 (rn+1) c3)) sb v (.slice a3 (rn+1) c3)):=HU2.out.trans (Upd.stored hs2 y2 hne2 hbg (fun x hx=>by
   rcases hob with h|h
   ·exact .inl (h▸hx)
   ·rw[h]at hx;simp at hx;exact .inr (by omega)))
  have HR3:Hid (World.ownsRow (w3.setCell ⟨sb,2,none⟩ (.slice a3 (rn+1) c3)) base 194 13 (.slice a3 (rn+1) c3) (rn+1) ((rmF Kp.n num l).flatMap cellsK++cellsK ⟨num,x,cv,re⟩)):=rowA_chg (T:=fun x=>x=sb) ((Chg.refl (fun x=>x=sb) _).setCell ⟨sb,2,none⟩ (.inl rfl) _) hown' (fun x hx e=>by
   subst e
   have h:=hown'.lt x hx
   rcases hob with h'|h'
   ·exact hne2 (h'▸hx)
   ·rw[h']at hx;simp at hx;omega)
  refine hK.out _ _ trivial (fun zH=>?_)
  clear hK K hown' hgrow hob hbg hc3 y2 yf
  refine tka 10 ?_
  refine tka 11 ?_
  refine rd1 12 fun K hK=>?_
  go_simp
  refine hK.out _ _ trivial (fun zH=>?_)
  clear hK K
  refine doN ?_
  go_wp2
  go_end0
  rw[List.length_append,Hrn.out,List.flatMap_append]
  exact⟨rfl,_,HU3.out,by simpa using HR3.out⟩
theorem find1G_any (x:Gp) (num B:Nat) (W:World) (hc:W.cell? ⟨B,0,none⟩=some (.int .u16 num)) :
  Calls Tryz.prog 137 #[.agg #[.int .u16 x.n,.int .i64 x.last,.int .i64 x.tries],.pointer (some ⟨B,0,none⟩)] W fun e w'=>e = .returned (.bool (decide (x.n=num)))/\Below W.heap.size W w':=by
 have hne:B≠W.heap.size:=by have:=lt_of_cell hc;simp only at this;omega
 have hlt:B<W.heap.size:=lt_of_cell hc
 have Heq:Hid (((x.n:Int) == (num:Int))=decide (x.n=num)):=by
  show _=_
  rw[Bool.eq_iff_iff]
  simp only[beq_iff_eq,decide_eq_true_eq]
  omega
 go_enter Tryz.func137,Tryz.ntmps137
 go_wp2
 go_ret
 exact⟨ret_bool (by first|exact Heq.out|simpa using Heq.out),(Below.refl _ _).alloc (Nat.le_refl _) _⟩
theorem indexG_any (base:Nat) (v:Value) (l:List Gp) (num B:Nat) (w:World) (hown:w.ownsRow base 162 3 v l.length (l.flatMap cellsG)) (hc:w.cell? ⟨B,0,none⟩=some (.int .u16 num)) (hn:l.length<=100000) :
  Calls Tryz.prog 135 #[v,.func (.func 137) #[] #[.pointer (some ⟨B,0,none⟩)]] w fun e w'=>e = .returned (.int .i64 (posF num (l.map (·.n))))/\Below w.heap.size w w':=by
 obtain⟨ao,cap,rfl⟩:=rowA_shape hown
 have Hown:=hyd hown
 have Hc:=hyd hc
 clear hown hc
 go_enter Tryz.func135,Tryz.ntmps135
 go_wp2
 go_loopw [8] (fun s8 wr=>∃k:Nat,k<=l.length/\s8 = .int .i64 k/\(∀m (hm:m<l.length),m<k->(l[m]).n≠num)/\Below w.heap.size w wr) (fun s8 _=>l.length-(intOf s8).toNat)
 case atStart=>exact⟨0,Nat.zero_le _,rfl,fun m _ hm=>by omega,Below.refl _ _⟩
 case round=>
  obtain⟨k,hk,rfl,hno,hbel⟩:=hrel
  have Hno:=hyd hno
  have Hbel:=hyd hbel
  clear hno hbel
  by_cases hlt:k<l.length
  ·have hlt':(k:Int)<l.length:=by omega
   obtain⟨g,rfl⟩:=rowA_some Hown.out (by omega)
   have hglt:g<w.heap.size:=(Hown.out.lt g rfl).2
   obtain⟨x,hx⟩:∃x,l[k]=x:=⟨_,rfl⟩
   have at_:∀j,j<3->∀u,(cellsG x)[j]? = some u->wr.cell? ⟨g,k*3+j,none⟩=some u:=fun j hj u hu=>by
    refine(Hbel.out.cell (p:=⟨g,k*3+j,none⟩) hglt).trans ?_
    rw[Hown.out.cellAt (k*3+j) (by omega),flat_at cellsG_len l k j hlt hj,hx]
    exact hu
   have d0:wr.cell? ⟨g,k*3,none⟩=some (.int .u16 x.n):=at_ 0 (by omega) _ rfl
   have d1:wr.cell? ⟨g,k*3+1,none⟩=some (.int .i64 x.last):=at_ 1 (by omega) _ rfl
   have d2:wr.cell? ⟨g,k*3+2,none⟩=some (.int .i64 x.tries):=at_ 2 (by omega) _ rfl
   have hcB:wr.cell? ⟨B,0,none⟩=some (.int .u16 num):=(Hbel.out.cell (p:=⟨B,0,none⟩) (lt_of_cell Hc.out)).trans Hc.out
   have Hx:=hyd hx
   clear at_ hx
   go_wp2_with fail
   refine(find1G_any x num B _ hcB).mono ?_
   rintro e w1 ⟨rfl,hb1⟩
   have Hb1:Hid (Below w.heap.size w w1):=Hbel.out.trans (hb1.mono Hbel.out.size)
   clear hb1 d0 d1 d2 hcB
   by_cases he:x.n=num
   ·rw[decide_eq_true he]
    have Hp:Hid (posF num (l.map (·.n))=(k:Int)):=by
     refine posF_at num (l.map (·.n)) k (by simpa using hlt) (fun m hm=>?_) ?_
     ·rw[List.getElem_map];exact Hno.out m (by omega) hm
     ·rw[List.getElem_map,Hx.out];exact he
    go_wp2
    go_ret
    exact⟨ret_int Hp.out.symm,Hb1.out⟩
   ·rw[decide_eq_false he]
    have He:=hyd he
    clear he
    go_wp2
    go_roundw
    case rel=>exact⟨k+1,by omega,by go_num,fun m hm hmk=>by
     rcases Nat.lt_or_ge m k with h|h
     ·exact Hno.out m hm h
     ·obtain rfl:m=k:=by omega
      rw[Hx.out];exact He.out,Hb1.out⟩
    case measure=>simp[intOf];omega
  ·have hlt':¬(k:Int)<l.length:=by omega
   have Hp:Hid (posF num (l.map (·.n)) = -1):=by
    refine posF_no num _ (fun y hy=>?_)
    obtain⟨z,hz,rfl⟩:=List.mem_map.1 hy
    obtain⟨m,hm,rfl⟩:=List.mem_iff_getElem.1 hz
    exact Hno.out m hm (by omega)
   go_wp2
   go_ret
   exact⟨ret_int Hp.out.symm,Hbel.out⟩
theorem findG_any (base sb:Nat) (v:Value) (l:List Gp) (num:Nat) (w:World) (hv:w.cell? ⟨sb,2,none⟩=some v) (hown:w.ownsRow base 162 3 v l.length (l.flatMap cellsG)) (hn:l.length<=100000) :
  Calls Tryz.prog 126 #[.pointer (some ⟨sb,0,none⟩),.int .u16 num] w fun e w'=>e = .returned (.int .i64 (posF num (l.map (·.n))))/\Below w.heap.size w w':=by
 obtain⟨ao,cap,rfl⟩:=rowA_shape hown
 have Hown:=hyd hown
 have hlt:sb<w.heap.size:=lt_of_cell hv
 have hne:sb≠w.heap.size:=by omega
 clear hown
 go_enter Tryz.func126,Tryz.ntmps126
 go_wp2_with fail
 refine(indexG_any base _ l num w.heap.size _ (World.ownsRow.alloc Hown.out _) (cell_new _ _ _ 0) hn).mono ?_
 rintro e w1 ⟨rfl,hb1⟩
 have Hb1:Hid (Below w.heap.size w w1):=((Below.refl _ _).alloc (Nat.le_refl _) _).trans (hb1.mono (by simp))
 clear hb1
 go_wp2
 go_ret
 exact⟨rfl,Hb1.out⟩
end Go.Proofs.YtdjhhnolcafkiaaGreat
namespace Go.Proofs.YtdjhhnolcafkiaaGreat
open Go.RowKit
namespace Pk
theorem zeroG (w:World):(zeroValue 162).run Tryz.prog w = .ok (.agg #[.int .u16 0,.int .i64 0,.int .i64 0]) w:=by kernel_rfl
theorem infoG:(Tryz.prog.info? 162).map (fun i=>(i.zero,i.size,i.bytes))=some (some (.agg #[.int .u16 0,.int .i64 0,.int .i64 0]),3,24):=by kernel_rfl
theorem wp_append_shiftG {w:World}{o:Oper}{a:Act}{K:Act->World->Prop}{Q:Exit->Act->World->Prop}(s x:Operand)
  (ho:o.op = .call { callee:=.builtin .append,args:=#[s,x],argTypes:=#[129,129] }) (g i cap:Nat) (hs:a.eval s = .slice (some ⟨g,0,none⟩) i cap) (ad:Addr) (m c:Nat) (news:List Value)
  (hx:a.eval x = .slice (some ad) m c) (hl:news.length=m*3) (hnews:∀j u,news[j]? = some u->w.cell? (ad.add j)=some u) (h1:∀u∈news,u.oneCell'=true) (hroom:i+m<=cap)
  (hc:∀j,j<news.length->(w.cell? ⟨g,0+i*3+j,none⟩).isSome=true) (hf:∀j,j<news.length->w.frozen? ⟨g,0+i*3+j,none⟩=false)
  (h:K (a.put o.dst (.slice (some ⟨g,0,none⟩) (i+m) cap)) (w.setCells g (0+i*3) news)):o.wp Tryz.prog a w K Q:=by
 obtain⟨i0,hi,hz0,hz1,hz2⟩:=info_parts infoG
 have hr:=run_append_room_cells (P:=Tryz.prog) (w:=w) 129 o.type 162 i0 Tryz.underlying129 hi g 0 i cap ad m c news (by rw[hz1];exact hl) hnews h1 hroom (by rw[hz1];exact hc) (by rw[hz1];exact hf)
 rw[hz1]at hr
 unfold Oper.wp execOp
 simp only[ho,resolve,invoke,builtin,Sem.run_bind,Sem.run_pure,Result.andThen_ok,List.map_toArray,List.map_cons,List.map_nil,hs,hx,hr]
 exact h
end Pk
open Pk
theorem deleteG_any (base:Nat) (v:Value) (n i j:Nat) (xs:List Value) (w:World) (hown:w.ownsRow base 162 3 v n xs) (h1:∀u∈xs,u.oneCell'=true) (hij:i<=j) (hjn:j<=n) (hn:n<=100000) :
  Calls Tryz.prog 127 #[v,.int .i64 i,.int .i64 j] w fun e w'=>∃v',e = .returned v'/\w'.ownsRow base 162 3 v' (n-(j-i)) (xs.take (i*3)++xs.drop (j*3))/\w.grownBy w' v.ownBlock/\v'.ownBlock=v.ownBlock:=by
 obtain⟨ao,cap,rfl⟩:=rowA_shape hown
 have hxl:=hown.1
 have hcap:n<=cap/\(cap:Int)<=9223372036854775807:=by
  obtain⟨_,⟨h2,h0⟩|⟨g,cap',cur,e',_,_,hn',hm',_⟩⟩:=hown
  ·simp only[Value.slice.injEq]at h2
   omega
  ·simp only[Value.slice.injEq]at e'
   unfold maxLen at hm'
   omega
 obtain⟨hcap,hcm⟩:=hcap
 have hcapi:(n:Int)<=cap:=by omega
 have hiji:(i:Int)<=j:=by omega
 have hjni:(j:Int)<=n:=by omega
 have hic:i<=cap:=by omega
 have hjc:j<=cap:=by omega
 by_cases hlt:i<j
 ·obtain⟨g,rfl⟩:=rowA_some hown (by omega)
  have hne:((i:Int) == (j:Int))=false:=by rw[beq_eq_false_iff_ne];omega
  have hc0:¬cap=0:=by omega
  have Hown:=hyd hown
  have H1:=hyd h1
  have Hxl:=hyd hxl
  clear hown h1 hxl
  by_cases hcj:cap=j
  ·obtain rfl:n=j:=by omega
   obtain rfl:n=cap:=by omega
   go_enter Tryz.func127,Tryz.ntmps127
   go_wp2
   refine wp_region_noPanic ?_
   refine wp_region_held_drew (S:=fun _=>True) (by kernel_rfl) trivial (fun zH=>?_)
   refine tka 0 ?_
   refine tka 1 ?_
   refine tka 2 ?_
   refine tka 3 ?_
   refine tka 4 ?_
   refine tka 5 ?_
   refine rd1 6 fun K hK=>?_
   rw[if_pos (by rfl)]
   refine wp_append_shiftG (.tmp 22) (.tmp 25) rfl g i n (by rfl) _ 0 _ [] (by rfl) (by simp) (fun q u hq=>by simp at hq) (fun u hu=>by simp at hu) (by omega) (fun q hq=>by simp at hq) (fun q hq=>by simp at hq) ?_
   refine hK.out _ _ trivial (fun zH=>?_)
   clear hK K
   refine tka 7 ?_
   refine doN ?_
   have R1:(w.drew).ownsRow base 162 3 (.slice (some ⟨g,0,none⟩) n n) n xs:=World.ownsRow.drew Hown.out
   obtain⟨zs,hzl,hcl⟩:=run_clear_row (P:=Tryz.prog) w.drew 129 162 0 (.agg #[.int .u16 0,.int .i64 0,.int .i64 0]) Tryz.underlying129 zeroG (by intro u hu;simp[Value.cells]at hu;rcases hu with rfl|rfl<;>rfl) (by decide) g (i*3) (n-i) (n-i) (by omega) (fun q hq=>by
    have hq':q<(n-i)*3:=hq
    have:=R1.cellAt (i*3+q) (by omega)
    rw[this,List.getElem?_eq_getElem (by rw[Hxl.out];omega)]
    rfl) (fun q _=>R1.frozenAt _)
   have hzl':zs.length=(n-i)*3:=hzl
   obtain⟨R3,R4⟩:=row_writes zs (i*3) w.drew _ R1 (by rw[hzl',Hxl.out];omega)
   have F1:Hid (World.ownsRow (w.drew.setCells g (i*3) zs) base 162 3 (.slice (some ⟨g,0,none⟩) i n) i (xs.take (i*3)++xs.drop (n*3))):=by
    have h:=row_fewer R3 (m:=i) (by omega) (.inl (by simp))
    have e:(xs.take (i*3)++zs++xs.drop (i*3+zs.length)).take (i*3)=xs.take (i*3)++xs.drop (n*3):=by
     rw[List.drop_of_length_le (i:=n*3) (by rw[Hxl.out];omega),List.append_nil,List.append_assoc,List.take_left' (by rw[List.length_take,Hxl.out];omega)]
    rw[e]at h
    exact h
   have F2:Hid (w.grownBy (w.drew.setCells g (i*3) zs) (some g)):=(World.grownBy_drewX w (some g)).trans R4
   have hcc:∀ty,(Builtin.clear_ #[129] ty #[.slice (some ⟨g,i*3,none⟩) (n-i) (n-i)]).run Tryz.prog (w.drew.setCells g (i*3) []) = .ok (.tuple #[]) (w.drew.setCells g (i*3) zs):=fun ty=>hcl
   have Hnn:Hid (n-(n-i)=i):=by show _=_;omega
   have hnn3:¬n=i:=by omega
   clear hcl R1 R3 R4 hzl hzl'
   go_wp2_with (simp only[hcc])
   go_ret
   rw[Hnn.out]
   exact⟨_,rfl,F1.out,F2.out,rfl⟩
  ·go_enter Tryz.func127,Tryz.ntmps127
   go_wp2
   refine wp_region_noPanic ?_
   refine wp_region_held_drew (S:=fun _=>True) (by kernel_rfl) trivial (fun zH=>?_)
   refine tka 0 ?_
   refine tka 1 ?_
   refine tka 2 ?_
   refine tka 3 ?_
   refine tka 4 ?_
   refine tka 5 ?_
   refine rd1 6 fun K hK=>?_
   rw[if_pos (by rfl)]
   refine wp_append_shiftG (.tmp 22) (.tmp 25) rfl g i cap (by rfl) _ (n-j) _ (xs.drop (j*3)) (by rfl) (by rw[List.length_drop,Hxl.out,Nat.sub_mul]) (fun q u hq=>by
    have hql:j*3+q<xs.length:=by have:=(List.getElem?_eq_some_iff.1 hq).1;rw[List.length_drop]at this;omega
    rw[List.getElem?_drop]at hq
    show World.cell? w ((⟨g,j*3,none⟩:Addr).add q)=some u
    rw[show(⟨g,j*3,none⟩:Addr).add q=⟨g,j*3+q,none⟩ by unfold Addr.add;split<;>simp_all,Hown.out.cellAt _ (by rw[<-Hxl.out];exact hql)]
    exact hq) (fun u hu=>H1.out u (List.mem_of_mem_drop hu)) (by omega) (fun q hq=>by
    rw[List.length_drop,Hxl.out]at hq
    have:=Hown.out.cellAt (i*3+q) (by omega)
    show(World.cell? w ⟨g,0+i*3+q,none⟩).isSome=true
    rw[Nat.zero_add,this,List.getElem?_eq_getElem (by rw[Hxl.out];omega)]
    rfl) (fun q _=>Hown.out.frozenAt _) ?_
   refine hK.out _ _ trivial (fun zH=>?_)
   clear hK K
   refine tka 7 ?_
   refine doN ?_
   have hdl:(xs.drop (j*3)).length=(n-j)*3:=by rw[List.length_drop,Hxl.out,Nat.sub_mul]
   obtain⟨R1,R2⟩:=row_writes (xs.drop (j*3)) (0+i*3) w.drew xs (World.ownsRow.drew Hown.out) (by rw[hdl,Hxl.out];omega)
   generalize hw1:(w.drew).setCells g (0+i*3) (xs.drop (j*3))=w1 at *
   have hxl1:=R1.1
   obtain⟨zs,hzl,hcl⟩:=run_clear_row (P:=Tryz.prog) w1 129 162 0 (.agg #[.int .u16 0,.int .i64 0,.int .i64 0]) Tryz.underlying129 zeroG (by intro u hu;simp[Value.cells]at hu;rcases hu with rfl|rfl<;>rfl) (by decide) g ((i+(n-j))*3) (n-(i+(n-j))) (cap-(i+(n-j))) (by omega) (fun q hq=>by
    have hq':q<(n-(i+(n-j)))*3:=hq
    have:=R1.cellAt ((i+(n-j))*3+q) (by omega)
    rw[this,List.getElem?_eq_getElem (by rw[hxl1];omega)]
    rfl) (fun q _=>R1.frozenAt _)
   have hzl':zs.length=(n-(i+(n-j)))*3:=hzl
   obtain⟨R3,R4⟩:=row_writes zs ((i+(n-j))*3) w1 _ R1 (by rw[hzl',hxl1];omega)
   have F1:Hid (World.ownsRow (w1.setCells g ((i+(n-j))*3) zs) base 162 3 (.slice (some ⟨g,0,none⟩) (i+(n-j)) cap) (i+(n-j)) (xs.take (i*3)++xs.drop (j*3))):=by
    have h:=row_fewer R3 (m:=i+(n-j)) (by omega) (.inl (by simp))
    have e:(((xs.take (0+i*3)++xs.drop (j*3)++xs.drop (0+i*3+(xs.drop (j*3)).length)).take ((i+(n-j))*3)++zs++(xs.take (0+i*3)++xs.drop (j*3)++xs.drop (0+i*3+(xs.drop (j*3)).length)).drop ((i+(n-j))*3+zs.length)).take ((i+(n-j))*3))=xs.take (i*3)++xs.drop (j*3):=by
     have hl1:(xs.take (i*3)++xs.drop (j*3)).length=(i+(n-j))*3:=by rw[List.length_append,List.length_take,hdl,Hxl.out];omega
     rw[Nat.zero_add,List.take_left' (l₁:=xs.take (i*3)++xs.drop (j*3)) hl1,List.append_assoc,List.take_left' hl1]
    rw[e]at h
    exact h
   have F2:Hid (w.grownBy (w1.setCells g ((i+(n-j))*3) zs) (some g)):=(World.grownBy_drewX w (some g)).trans (R2.trans R4)
   have hcc:∀ty,(Builtin.clear_ #[129] ty #[.slice (some ⟨g,(i+(n-j))*3,none⟩) (n-(i+(n-j))) (cap-(i+(n-j)))]).run Tryz.prog w1 = .ok (.tuple #[]) (w1.setCells g ((i+(n-j))*3) zs):=fun ty=>hcl
   have Hnn:Hid (i+(n-j)=n-(j-i)):=by show _=_;omega
   have hnn1:i+(n-j)<=n:=by omega
   have hnn2:i+(n-j)<=cap:=by omega
   have hnn3:¬cap=i+(n-j):=by omega
   have hnn4:((i+(n-j):Nat):Int)<=n:=by omega
   clear hcl R1 R2 R3 R4 hzl hzl' hdl hxl1 hw1
   generalize i+(n-j)=m at *
   go_wp2_with (simp only[hcc])
   go_ret
   rw[<-Hnn.out]
   exact⟨_,rfl,F1.out,F2.out,rfl⟩
 ·have hij':i=j:=by omega
  subst hij'
  have hne:((i:Int) == (i:Int))=true:=by simp
  have Hown:Hid (∀m,m=n->w.ownsRow base 162 3 (.slice ao m cap) m xs):=fun m e=>by rw[e];exact hown
  clear hown h1 hxl
  rw[Nat.sub_self,Nat.sub_zero,List.take_append_drop]
  go_enter Tryz.func127,Tryz.ntmps127
  go_wp2
  all_goals go_ret
  all_goals exact⟨_,rfl,Hown.out _ (by first|rfl|omega|simp_all),World.grownBy.refl _ _,rfl⟩
end Go.Proofs.YtdjhhnolcafkiaaGreat
namespace Go.Proofs.YtdjhhnolcafkiaaGreat
open Go.RowKit Pk
theorem removeG_any (base sb:Nat) (v:Value) (l:List Gp) (num:Nat) (w:World) (hv:w.cell? ⟨sb,2,none⟩=some v) (hf:∀o,w.frozen? ⟨sb,o,none⟩=false) (hne:v.ownBlock≠some sb) (hown:w.ownsRow base 162 3 v l.length (l.flatMap cellsG)) (hn:l.length<=99000) :
  Calls Tryz.prog 106 #[.pointer (some ⟨sb,0,none⟩),.int .u16 num] w fun e w'=>e = .returned (.bool (decide (0<=posF num (l.map Gp.n))))/\∃v',Upd w w' sb v v'/\w'.ownsRow base 162 3 v' (rmF Gp.n num l).length ((rmF Gp.n num l).flatMap cellsG):=by
 obtain⟨ao,cap,rfl⟩:=rowA_shape hown
 have Hown:=hyd hown
 have hs:sb<w.heap.size:=lt_of_cell hv
 have Hv:=hyd hv
 have Hf:=hyd hf
 clear hown hf hv
 go_enter Tryz.func106,Tryz.ntmps106
 go_wp2_with fail
 refine(findG_any base sb _ l num _ Hv.out Hown.out (by omega)).mono ?_
 rintro e w1 ⟨rfl,hb1⟩
 have Hr1:Hid (w1.ownsRow base 162 3 (.slice ao l.length cap) l.length (l.flatMap cellsG)):=rowA_chg (Chg.ofBelow (T:=fun _=>False) hb1) Hown.out (fun _ _ e=>e)
 have y2:w1.cell? ⟨sb,2,none⟩=some (.slice ao l.length cap):=(hb1.cell (p:=⟨sb,2,none⟩) hs).trans Hv.out
 have yf:∀o,w1.frozen? ⟨sb,o,none⟩=false:=fun o=>(hb1.frozen (p:=⟨sb,o,none⟩) hs).trans (Hf.out o)
 have Hb1:=hyd hb1
 have hs1:sb<w1.heap.size:=Nat.lt_of_lt_of_le hs hb1.size
 clear hb1 Hown
 rcases posF_cases num (l.map Gp.n)with⟨hp,-⟩|⟨i,hi,hp,-⟩
 ·have HR:Hid (rmF Gp.n num l=l):=by show _=_;unfold rmF;rw[if_pos (by rw[hp];decide)]
  have Hp:Hid (false=decide (0<=posF num (l.map Gp.n))):=by show _=_;rw[hp];decide
  rw[hp]
  clear hp
  go_wp2
  go_ret
  refine⟨ret_bool Hp.out,_,Upd.before Hb1.out hs (Upd.refl y2),?_⟩
  rw[HR.out]
  exact Hr1.out
 ·have hil:i<l.length:=by simpa using hi
  have HR:Hid (rmF Gp.n num l=l.take i++l.drop (i+1)):=by show _=_;unfold rmF;rw[if_neg (by rw[hp];omega),hp];rfl
  have Hp:Hid (decide (0<=posF num (l.map Gp.n))=true):=by show _=_;rw[hp];exact decide_eq_true (by omega)
  rw[hp]
  clear hp hi
  go_wp2_with fail
  refine(deleteG_any base _ l.length i (i+1) (l.flatMap cellsG) _ Hr1.out (cellsG_one l) (by omega) (by omega) (by omega)).mono ?_
  rintro e w2 ⟨v',rfl,hown2,hg2,ho2⟩
  obtain⟨a2,c2,rfl⟩:=rowA_shape hown2
  have hlen:l.length-(i+1-i)=(rmF Gp.n num l).length:=by rw[HR.out,List.length_append,List.length_take,List.length_drop];omega
  rw[hlen,flat_take cellsG_len,flat_drop cellsG_len,<-List.flatMap_append,<-HR.out]at hown2
  rw[hlen]
  have hc2:Chg (fun x=>(Value.slice ao l.length cap).ownBlock=some x) w1 w2:=Chg.ofGrown hg2
  have z2:w2.cell? ⟨sb,2,none⟩=some (.slice ao l.length cap):=hc2.cell y2 hne
  have zf:∀o,w2.frozen? ⟨sb,o,none⟩=false:=fun o=>(hc2.frozen (p:=⟨sb,o,none⟩) hs1 hne).trans (yf o)
  generalize hrn:(rmF Gp.n num l).length=rn at *
  have Hrn:=hyd hrn
  clear hrn
  have HU:Hid (Upd w (w2.setCell ⟨sb,2,none⟩ (.slice a2 rn c2)) sb (.slice ao l.length cap) (.slice a2 rn c2)):=Upd.before Hb1.out hs (Upd.stored hs1 y2 hne hg2 (fun x hx=>.inl (by rw[hlen]at ho2;exact ho2▸hx)))
  have HRR:Hid (World.ownsRow (w2.setCell ⟨sb,2,none⟩ (.slice a2 rn c2)) base 162 3 (.slice a2 rn c2) rn ((rmF Gp.n num l).flatMap cellsG)):=rowA_chg (T:=fun x=>x=sb) ((Chg.refl (fun x=>x=sb) _).setCell ⟨sb,2,none⟩ (.inl rfl) _) hown2 (fun x hx e=>hne (by subst e;rw[hlen]at ho2;exact ho2▸hx))
  clear hown2 hg2 ho2 hc2 hlen
  go_wp2
  go_ret
  rw[Hrn.out]
  exact⟨ret_bool Hp.out.symm,_,HU.out,HRR.out⟩
theorem removeFirstG_any (base sb:Nat) (v:Value) (l:List Gp) (c:Nat) (w:World) (hv:w.cell? ⟨sb,2,none⟩=some v) (hf:∀o,w.frozen? ⟨sb,o,none⟩=false) (hne:v.ownBlock≠some sb) (hown:w.ownsRow base 162 3 v l.length (l.flatMap cellsG)) (hn:l.length<=99000) (hcl:c<=l.length) :
  Calls Tryz.prog 125 #[.pointer (some ⟨sb,0,none⟩),.int .i64 c] w fun e w'=>e = .returned (.tuple #[])/\∃v',Upd w w' sb v v'/\w'.ownsRow base 162 3 v' (l.drop c).length ((l.drop c).flatMap cellsG):=by
 obtain⟨ao,cap,rfl⟩:=rowA_shape hown
 have Hown:=hyd hown
 have hs:sb<w.heap.size:=lt_of_cell hv
 clear hown
 go_enter Tryz.func125,Tryz.ntmps125
 go_wp2_with fail
 refine(deleteG_any base _ l.length 0 c (l.flatMap cellsG) _ Hown.out (cellsG_one l) (by omega) hcl (by omega)).mono ?_
 rintro e w2 ⟨v',rfl,hown2,hg2,ho2⟩
 obtain⟨a2,c2,rfl⟩:=rowA_shape hown2
 have hlen:l.length-(c-0)=(l.drop c).length:=by rw[List.length_drop];omega
 rw[hlen,Nat.zero_mul,List.take_zero,List.nil_append,flat_drop cellsG_len]at hown2
 rw[hlen]
 have hc2:Chg (fun x=>(Value.slice ao l.length cap).ownBlock=some x) w w2:=Chg.ofGrown hg2
 have z2:w2.cell? ⟨sb,2,none⟩=some (.slice ao l.length cap):=hc2.cell hv hne
 have zf:∀o,w2.frozen? ⟨sb,o,none⟩=false:=fun o=>(hc2.frozen (p:=⟨sb,o,none⟩) hs hne).trans (hf o)
 generalize hrn:(l.drop c).length=rn at *
 have Hrn:=hyd hrn
 clear hrn
 have HU:Hid (Upd w (w2.setCell ⟨sb,2,none⟩ (.slice a2 rn c2)) sb (.slice ao l.length cap) (.slice a2 rn c2)):=Upd.stored hs hv hne hg2 (fun x hx=>.inl (by rw[hlen]at ho2;exact ho2▸hx))
 have HRR:Hid (World.ownsRow (w2.setCell ⟨sb,2,none⟩ (.slice a2 rn c2)) base 162 3 (.slice a2 rn c2) rn ((l.drop c).flatMap cellsG)):=rowA_chg (T:=fun x=>x=sb) ((Chg.refl (fun x=>x=sb) _).setCell ⟨sb,2,none⟩ (.inl rfl) _) hown2 (fun x hx e=>hne (by subst e;rw[hlen]at ho2;exact ho2▸hx))
 clear hown2 hg2 ho2 hc2 hlen hf hv
 go_wp2
 go_end0
 rw[Hrn.out]
 exact⟨rfl,_,HU.out,HRR.out⟩
theorem addG_any (base sb:Nat) (v:Value) (l:List Gp) (num:Nat) (la tr:Int) (w:World) (hv:w.cell? ⟨sb,2,none⟩=some v) (hf:∀o,w.frozen? ⟨sb,o,none⟩=false) (hne:v.ownBlock≠some sb) (hown:w.ownsRow base 162 3 v l.length (l.flatMap cellsG)) (hn:l.length<=98000) (hb:base<=w.heap.size) (hsb:sb<base) :
  Calls Tryz.prog 104 #[.pointer (some ⟨sb,0,none⟩),.int .u16 num,.agg #[.int .i64 la,.int .i64 tr]] w fun e w'=>e = .returned (.tuple #[])/\∃v',Upd w w' sb v v'/\w'.ownsRow base 162 3 v' (rmF Gp.n num l++([⟨num,la,tr⟩]:List Gp)).length ((rmF Gp.n num l++([⟨num,la,tr⟩]:List Gp)).flatMap cellsG):=by
 have hs:sb<w.heap.size:=lt_of_cell hv
 have hrl:=rmF_length (fun x:Gp=>x.n) num l
 have Hown:=hyd hown
 have Hv:=hyd hv
 have Hf:=hyd hf
 have hvl:∀x,v.ownBlock=some x->x<w.heap.size:=fun x hx=>(hown.lt x hx).2
 obtain⟨i0,hi0,hz0,hz1,hz2⟩:=info_parts infoG
 have Hi:Hid (Tryz.prog.info? 162=some i0/\i0.zero=_/\i0.size=3/\i0.bytes=24):=⟨hi0,hz0,hz1,hz2⟩
 clear hown hf hv hi0 hz0 hz1 hz2
 go_enter Tryz.func104,Tryz.ntmps104
 go_wp2_with fail
 refine(removeG_any base sb v l num _ ((World.cell?_alloc_lt _ _ _ (by simpa using hs)).trans Hv.out) (fun o=>(((Below.refl w.heap.size w).alloc (Nat.le_refl _) _).frozen (p:=⟨sb,o,none⟩) hs).trans (Hf.out o)) hne (World.ownsRow.alloc Hown.out _) (by omega)).mono ?_
 rintro e w2 ⟨rfl,v2,hU2,hr2⟩
 obtain⟨a2,c2,rfl⟩:=rowA_shape hr2
 have hnb:¬(w.heap.size=sb\/v.ownBlock=some w.heap.size):=by
  rintro(e|e)
  ·omega
  ·have:=hvl _ e;omega
 have hbx:∀o u,(w.alloc (.cells #[.int .i64 la,.int .i64 tr] 136)).cell? ⟨w.heap.size,o,none⟩=some u->w2.cell? ⟨w.heap.size,o,none⟩=some u:=fun o u hu=>hU2.chg.cell (p:=⟨w.heap.size,o,none⟩) hu hnb
 have q0:w2.cell? ⟨w.heap.size,0,none⟩=some (.int .i64 la):=hbx 0 _ (cell_new _ _ _ 0)
 have q1:w2.cell? ⟨w.heap.size,1,none⟩=some (.int .i64 tr):=hbx 1 _ (cell_new _ _ _ 1)
 have HU2:Hid (Upd w w2 sb v (.slice a2 (rmF Gp.n num l).length c2)):=Upd.before ((Below.refl _ _).alloc (Nat.le_refl _) _) hs hU2
 have Hr1:=hyd hr2
 have y2:w2.cell? ⟨sb,2,none⟩=some (.slice a2 (rmF Gp.n num l).length c2):=hU2.c2
 have yf:∀o,w2.frozen? ⟨sb,o,none⟩=false:=fun o=>(HU2.out.fz o).trans (Hf.out o)
 have hs2:sb<w2.heap.size:=Nat.lt_of_lt_of_le hs HU2.out.chg.size
 have hb2:base<=w2.heap.size:=Nat.le_trans hb HU2.out.chg.size
 have hne2:(Value.slice a2 (rmF Gp.n num l).length c2).ownBlock≠some sb:=fun e=>by have:=(Hr1.out.lt sb e).1;omega
 clear hU2 hr2 hbx hnb
 generalize hrn:(rmF Gp.n num l).length=rn at *
 have Hrn:=hyd hrn
 clear hrn
 go_wp2
 refine wp_region_noPanic ?_
 refine wp_region_held_drew (S:=fun _=>True) (by kernel_rfl) trivial (fun zH=>?_)
 refine tka 0 ?_
 refine tka 1 ?_
 refine tka 2 ?_
 refine tka 3 ?_
 refine tka 5 ?_
 refine wpAnyH_ready (rs:=[4,6]) (by kernel_rfl) (by simp) ?_
 refine AllReadyH.cons rfl (fun K hK=>?_) (AllReadyH.cons rfl (fun K hK=>?_) AllReadyH.nil)
 focus
  go_simp
  refine hK.out _ _ trivial (fun zH=>?_)
  clear hK K
  refine rd1 6 fun K hK=>?_
  go_simp
  refine hK.out _ _ trivial (fun zH=>?_)
  clear hK K
  refine tka 7 ?_
  refine rd1 8 fun K hK=>?_
 rotate_left
 focus
  go_simp
  refine hK.out _ _ trivial (fun zH=>?_)
  clear hK K
  refine tka 7 ?_
  refine wpAnyH_ready (rs:=[4,8]) (by kernel_rfl) (by simp) ?_
  refine AllReadyH.cons rfl (fun K hK=>?_) (AllReadyH.cons rfl (fun K hK=>?_) AllReadyH.nil)
  focus
   go_simp
   refine hK.out _ _ trivial (fun zH=>?_)
   clear hK K
   refine rd1 8 fun K hK=>?_
  rotate_left
  focus
   go_simp
   refine hK.out _ _ trivial (fun zH=>?_)
   clear hK K
   refine rd1 4 fun K hK=>?_
 all_goals
  go_simp
  refine hK.out _ _ trivial (fun zH=>?_)
  clear hK K
  refine rd1 9 fun K hK=>?_
  rw[if_pos (by rfl)]
  refine wp_append_at (.tmp 13) (.tmp 17) 129 rfl base 162 i0 _ 3 24 Tryz.underlying129 Hi.out.1 Hi.out.2.1 Hi.out.2.2.1 Hi.out.2.2.2 rfl (by decide) (.slice a2 rn c2) rn ((rmF Gp.n num l).flatMap cellsG) (by rfl) (World.ownsRow.drew (World.ownsRow.alloc Hr1.out _)) _ 1 1 (cellsG ⟨num,la,tr⟩) (by rfl) rfl (cells_newAt _ (cellsG ⟨num,la,tr⟩) _ _ (by simp)) ?_ (by unfold maxLen;omega) (by omega) (by simp;omega) ?_
  ·intro u hu
   refine cellsG_one [⟨num,la,tr⟩] u ?_
   simpa using hu
  intro v' w3 hown' hgrow hob
  have hbg:w2.grownBy w3 (Value.slice a2 rn c2).ownBlock:=((World.grownBy_alloc _ _ _).trans (World.grownBy_drewX _ _)).trans hgrow
  have hc3:Chg (fun x=>(Value.slice a2 rn c2).ownBlock=some x) w2 w3:=Chg.ofGrown hbg
  have z2:w3.cell? ⟨sb,2,none⟩=some (.slice a2 rn c2):=hc3.cell y2 hne2
  have zf:∀o,w3.frozen? ⟨sb,o,none⟩=false:=fun o=>(hc3.frozen (p:=⟨sb,o,none⟩) hs2 hne2).trans (yf o)
  obtain⟨a3,c3,rfl⟩:=rowA_shape hown'
  have HU3:Hid (Upd w (w3.setCell ⟨sb,2,none⟩ (.slice a3 (rn+1) c3)) sb v (.slice a3 (rn+1) c3)):=HU2.out.trans (Upd.stored hs2 y2 hne2 hbg (fun x hx=>by
   rcases hob with h|h
   ·exact .inl (h▸hx)
   ·rw[h]at hx;simp at hx;exact .inr (by omega)))
  have HR3:Hid (World.ownsRow (w3.setCell ⟨sb,2,none⟩ (.slice a3 (rn+1) c3)) base 162 3 (.slice a3 (rn+1) c3) (rn+1) ((rmF Gp.n num l).flatMap cellsG++cellsG ⟨num,la,tr⟩)):=rowA_chg (T:=fun x=>x=sb) ((Chg.refl (fun x=>x=sb) _).setCell ⟨sb,2,none⟩ (.inl rfl) _) hown' (fun x hx e=>by
   subst e
   have h:=hown'.lt x hx
   rcases hob with h'|h'
   ·exact hne2 (h'▸hx)
   ·rw[h']at hx;simp at hx;omega)
  refine hK.out _ _ trivial (fun zH=>?_)
  clear hK K hown' hgrow hob hbg hc3 y2 yf
  refine tka 10 ?_
  refine tka 11 ?_
  refine rd1 12 fun K hK=>?_
  go_simp
  refine hK.out _ _ trivial (fun zH=>?_)
  clear hK K
  refine doN ?_
  go_wp2
  go_end0
  rw[List.length_append,Hrn.out,List.flatMap_append]
  exact⟨rfl,_,HU3.out,by simpa using HR3.out⟩
end Go.Proofs.YtdjhhnolcafkiaaGreat
namespace Go.Proofs.YtdjhhnolcafkiaaGreat
open Go.RowKit
namespace Pk
structure Sd where
 src:Int
 begun:Bool
 gaps:List Gp
 newest:Nat
structure SdAt (W:World) (base sb:Nat) (v:Value) (s:Sd):Prop where
 c0:W.cell? ⟨sb,0,none⟩=some (.int .i64 s.src)
 c1:W.cell? ⟨sb,1,none⟩=some (.bool s.begun)
 c2:W.cell? ⟨sb,2,none⟩=some v
 c3:W.cell? ⟨sb,3,none⟩=some (.int .u16 s.newest)
 fz:∀o,W.frozen? ⟨sb,o,none⟩=false
 row:W.ownsRow base 162 3 v s.gaps.length (s.gaps.flatMap cellsG)
 sb:sb<base
theorem SdAt.ne {W:World}{base sb:Nat}{v:Value}{s:Sd}(h:SdAt W base sb v s):v.ownBlock≠some sb:=fun e=>by have:=(h.row.lt sb e).1;have:=h.sb;omega
theorem SdAt.lt {W:World}{base sb:Nat}{v:Value}{s:Sd}(h:SdAt W base sb v s):sb<W.heap.size:=lt_of_cell h.c0
theorem SdAt.chg {T:Nat->Prop}{W W':World}{base sb:Nat}{v:Value}{s:Sd}(h:SdAt W base sb v s) (hc:Chg T W W') (h1:¬T sb) (h2:∀b,v.ownBlock=some b->¬T b):SdAt W' base sb v s:=
 ⟨hc.cell h.c0 h1,hc.cell h.c1 h1,hc.cell h.c2 h1,hc.cell h.c3 h1,fun o=>(hc.frozen (p:=⟨sb,o,none⟩) h.lt h1).trans (h.fz o),rowA_chg hc h.row h2,h.sb⟩
theorem SdAt.below {W W':World}{base sb:Nat}{v:Value}{s:Sd}(h:SdAt W base sb v s) (hb:Below W.heap.size W W'):SdAt W' base sb v s:=h.chg (T:=fun _=>False) (Chg.ofBelow hb) (fun e=>e) (fun _ _ e=>e)
structure SdUp (w w':World) (sb:Nat) (v v':Value):Prop where
 chg:Chg (fun b=>b=sb\/v.ownBlock=some b) w w'
 own:∀b,v'.ownBlock=some b->v.ownBlock=some b\/w.heap.size<=b
theorem SdUp.refl (w:World) (sb:Nat) (v:Value):SdUp w w sb v v:=⟨Chg.refl _ _,fun _ h=>.inl h⟩
theorem SdUp.trans {a b c:World}{sb:Nat}{v v1 v2:Value}(h:SdUp a b sb v v1) (k:SdUp b c sb v1 v2):SdUp a c sb v v2:=
 ⟨h.chg.trans k.chg (fun x hx e=>by
   rcases e with e|e
   ·exact .inl e
   ·rcases h.own x e with e|e
    ·exact .inr e
    ·omega),fun x hx=>by
   rcases k.own x hx with e|e
   ·exact h.own x e
   ·exact .inr (Nat.le_trans h.chg.size e)⟩
theorem SdUp.before {a b c:World}{sb:Nat}{v v1:Value}(h:Below a.heap.size a b) (k:SdUp b c sb v v1):SdUp a c sb v v1:=
 ⟨(Chg.ofBelow h).trans k.chg (fun _ _ e=>e),fun x hx=>(k.own x hx).imp id (fun e=>Nat.le_trans h.size e)⟩
theorem SdUp.ofUpd {a b:World}{sb:Nat}{v v1:Value}(h:Upd a b sb v v1):SdUp a b sb v v1:=⟨h.chg,h.own⟩
theorem SdAt.upd {a b:World}{base sb:Nat}{v v1:Value}{s:Sd}{l:List Gp}(h:SdAt a base sb v s) (hu:Upd a b sb v v1) (hr:b.ownsRow base 162 3 v1 l.length (l.flatMap cellsG)):SdAt b base sb v1 { s with gaps:=l }:=
 ⟨(hu.oth 0 (by omega)).trans h.c0,(hu.oth 1 (by omega)).trans h.c1,hu.c2,(hu.oth 3 (by omega)).trans h.c3,fun o=>(hu.fz o).trans (h.fz o),hr,h.sb⟩
theorem SdAt.set3 {W:World}{base sb:Nat}{v:Value}{s:Sd}(h:SdAt W base sb v s) (n:Nat):SdAt (W.setCell ⟨sb,3,none⟩ (.int .u16 n)) base sb v { s with newest:=n }/\SdUp W (W.setCell ⟨sb,3,none⟩ (.int .u16 n)) sb v v:=by
 have o:∀i u,i≠3->W.cell? ⟨sb,i,none⟩=some u->(W.setCell ⟨sb,3,none⟩ (.int .u16 n)).cell? ⟨sb,i,none⟩=some u:=fun i u hi hu=>(World.cell?_setCell_other _ _ _ _ (fun e=>hi (by injection e with _ e2 _;exact e2.symm))).trans hu
 refine⟨⟨o 0 _ (by omega) h.c0,o 1 _ (by omega) h.c1,o 2 _ (by omega) h.c2,World.cell?_setCell_same _ _ _ h.c3,fun o=>by rw[World.frozen?_setCell];exact h.fz o,?_,h.sb⟩,(Chg.refl _ _).setCell ⟨sb,3,none⟩ (.inl (.inl rfl)) _,fun _ h=>.inl h⟩
 exact rowA_chg (T:=fun x=>x=sb) ((Chg.refl (fun x=>x=sb) _).setCell ⟨sb,3,none⟩ (.inl rfl) _) h.row (fun x hx e=>h.ne (e▸hx))
theorem SdAt.set1 {W:World}{base sb:Nat}{v:Value}{s:Sd}(h:SdAt W base sb v s) (b:Bool):SdAt (W.setCell ⟨sb,1,none⟩ (.bool b)) base sb v { s with begun:=b }/\SdUp W (W.setCell ⟨sb,1,none⟩ (.bool b)) sb v v:=by
 have o:∀i u,i≠1->W.cell? ⟨sb,i,none⟩=some u->(W.setCell ⟨sb,1,none⟩ (.bool b)).cell? ⟨sb,i,none⟩=some u:=fun i u hi hu=>(World.cell?_setCell_other _ _ _ _ (fun e=>hi (by injection e with _ e2 _;exact e2.symm))).trans hu
 refine⟨⟨o 0 _ (by omega) h.c0,World.cell?_setCell_same _ _ _ h.c1,o 2 _ (by omega) h.c2,o 3 _ (by omega) h.c3,fun o=>by rw[World.frozen?_setCell];exact h.fz o,?_,h.sb⟩,(Chg.refl _ _).setCell ⟨sb,1,none⟩ (.inl (.inl rfl)) _,fun _ h=>.inl h⟩
 exact rowA_chg (T:=fun x=>x=sb) ((Chg.refl (fun x=>x=sb) _).setCell ⟨sb,1,none⟩ (.inl rfl) _) h.row (fun x hx e=>h.ne (e▸hx))
def In16G (l:List Gp):Prop:=∀x∈l,x.n<65536
def guN (newest window:Nat):List Gp->Nat
 | []=>0
 | x::r=>if window<=stepsTo newest x.n then guN newest window r+1 else 0
theorem guN_le (newest window:Nat):∀l,guN newest window l<=l.length
 | []=>Nat.le_refl _
 | x::r=>by
  have:=guN_le newest window r
  rw[guN]
  split<;>simp<;>omega
theorem guN_at (newest window:Nat):∀(l:List Gp) (k:Nat),k<=l.length->(∀m (hm:m<l.length),m<k->window<=stepsTo newest (l[m]).n)->(∀(hk:k<l.length),¬window<=stepsTo newest (l[k]).n)->guN newest window l=k
 | [],0,_,_,_=>rfl
 | x::r,0,_,_,h2=>by rw[guN,if_neg (show ¬window<=stepsTo newest x.n from h2 (by simp))]
 | x::r,k+1,hk,h1,h2=>by
  rw[guN,if_pos (show window<=stepsTo newest x.n from h1 0 (by simp) (by omega)),guN_at newest window r k (by simpa using hk) (fun m hm hmk=>h1 (m+1) (by simpa using hm) (by omega)) (fun hk'=>h2 (by simpa using hk'))]
end Pk
open Pk
theorem giveUp_any (base sb:Nat) (v:Value) (s:Sd) (window:Nat) (w:World) (h:SdAt w base sb v s) (h16:In16G s.gaps) (hn16:s.newest<65536) (hn:s.gaps.length<=99000) (_hw:window<=1000) :
  Calls Tryz.prog 105 #[.pointer (some ⟨sb,0,none⟩),.int .i64 window] w fun e w'=>e = .returned (.int .i64 (guN s.newest window s.gaps))/\∃v',SdAt w' base sb v' { s with gaps:=s.gaps.drop (guN s.newest window s.gaps) }/\SdUp w w' sb v v':=by
 obtain⟨ao,cap,rfl⟩:=rowA_shape h.row
 have H:=hyd h
 have H16:=hyd h16
 have y2:=h.c2
 have y3:=h.c3
 obtain⟨n,hnn⟩:∃n,s.gaps.length=n:=⟨_,rfl⟩
 have Hnn:=hyd hnn
 obtain⟨nw,hnw⟩:∃nw,s.newest=nw:=⟨_,rfl⟩
 have Hnw:=hyd hnw
 rw[hnn]at y2 hn
 rw[hnw]at y3 hn16
 clear h h16 hnn hnw
 go_enter Tryz.func105,Tryz.ntmps105
 go_wp2
 go_loopw [5] (fun s5 wr=>∃(k q:Nat),k<=n/\s5 = .int .i64 k/\(∀m (hm:m<s.gaps.length),m<k->window<=stepsTo nw (s.gaps[m]).n)/\wr=w.drewN q) (fun s5 _=>n-(intOf s5).toNat)
 case atStart=>exact⟨0,0,Nat.zero_le _,rfl,fun m _ hm=>by omega,rfl⟩
 case round=>
  obtain⟨k,q,hk,rfl,hall,rfl⟩:=hrel
  have Hall:=hyd hall
  clear hall
  by_cases hlt:k<n
  ·have hlt':(k:Int)<n:=by omega
   have hkl:k<s.gaps.length:=by rw[Hnn.out];exact hlt
   obtain⟨g,rfl⟩:=rowA_some H.out.row (by omega)
   have d0:w.cell? ⟨g,k*3,none⟩=some (.int .u16 (s.gaps[k]).n):=by
    have h:=H.out.row.cellAt (k*3+0) (by rw[Hnn.out];omega)
    rw[flat_at cellsG_len s.gaps k 0 hkl (by omega)]at h
    exact h
   have hx16:=H16.out (s.gaps[k]) (List.getElem_mem hkl)
   obtain⟨x,hx⟩:∃x,(s.gaps[k]).n=x:=⟨_,rfl⟩
   have Hx:=hyd hx
   rw[hx]at d0 hx16
   clear hx
   have hsw:=steps_wrap nw x hx16 hn16
   have hsl:=steps_lt nw x
   obtain⟨d,hd⟩:∃d,stepsTo nw x=d:=⟨_,rfl⟩
   have Hd:=hyd hd
   rw[hd]at hsw hsl
   clear hd
   by_cases hge:window<=d
   ·have hge':(window:Int)<=d:=by omega
    go_wp2
    go_quiet (fail)
    go_wp2
    go_roundw
    case rel=>exact⟨k+1,_,by omega,by go_num,fun m hm hmk=>by
     rcases Nat.lt_or_ge m k with h|h
     ·exact Hall.out m hm h
     ·obtain rfl:m=k:=by omega
      rw[Hx.out,Hd.out];exact hge,rfl⟩
    case measure=>simp[intOf];omega
   ·have hge':¬(window:Int)<=d:=by omega
    have Hge:=hyd hge
    go_wp2
    go_quiet (fail)
    have Hg:Hid (guN s.newest window s.gaps=k):=by
     refine guN_at _ _ _ k (by rw[Hnn.out];omega) (by rw[Hnw.out];exact Hall.out) (fun hk'=>?_)
     rw[Hnw.out,Hx.out,Hd.out];exact Hge.out
    have Hdr:Hid (SdAt (w.drewN (q+nq)) base sb (.slice (some ⟨g,0,none⟩) n cap) s):=by
     have h:=H.out.below (below_drewN (Below.refl _ _) (q+nq))
     rw[Hnn.out]at h
     exact h
    go_wp2_with fail
    refine(removeFirstG_any base sb _ s.gaps k _ Hdr.out.c2 Hdr.out.fz Hdr.out.ne Hdr.out.row (by rw[Hnn.out];omega) (by rw[Hnn.out];omega)).mono ?_
    rintro e w2 ⟨rfl,v2,hU,hr⟩
    have HU:Hid (SdUp w w2 sb (.slice (some ⟨g,0,none⟩) s.gaps.length cap) v2):=by
     rw[Hnn.out]
     exact SdUp.before (below_drewN (Below.refl _ _) (q+nq)) (SdUp.ofUpd hU)
    have HS:Hid (SdAt w2 base sb v2 { s with gaps:=s.gaps.drop k }):=Hdr.out.upd hU hr
    clear hU hr
    go_wp2
    go_ret
    rw[Hg.out]
    exact⟨rfl,_,HS.out,HU.out⟩
  ·have hlt':¬(k:Int)<n:=by omega
   ·go_wp2
    go_quiet (fail)
    have Hg:Hid (guN s.newest window s.gaps=k):=by
     refine guN_at _ _ _ k (by rw[Hnn.out];omega) (by rw[Hnw.out];exact Hall.out) (fun hk'=>?_)
     exact absurd hk' (by rw[Hnn.out];exact hlt)
    have Hdr:Hid (SdAt (w.drewN (q+nq)) base sb (.slice ao n cap) s):=by
     have h:=H.out.below (below_drewN (Below.refl _ _) (q+nq))
     rw[Hnn.out]at h
     exact h
    go_wp2_with fail
    refine(removeFirstG_any base sb _ s.gaps k _ Hdr.out.c2 Hdr.out.fz Hdr.out.ne Hdr.out.row (by rw[Hnn.out];omega) (by rw[Hnn.out];omega)).mono ?_
    rintro e w2 ⟨rfl,v2,hU,hr⟩
    have HU:Hid (SdUp w w2 sb (.slice ao s.gaps.length cap) v2):=by
     rw[Hnn.out]
     exact SdUp.before (below_drewN (Below.refl _ _) (q+nq)) (SdUp.ofUpd hU)
    have HS:Hid (SdAt w2 base sb v2 { s with gaps:=s.gaps.drop k }):=Hdr.out.upd hU hr
    clear hU hr
    go_wp2
    go_ret
    rw[Hg.out]
    exact⟨rfl,_,HS.out,HU.out⟩
end Go.Proofs.YtdjhhnolcafkiaaGreat
namespace Go.Proofs.YtdjhhnolcafkiaaGreat
open Go.RowKit
namespace Pk
def addsF (now:Int):Nat->Nat->List Gp->List Gp
 | 0,_,l=>l
 | c+1,n,l=>addsF now c ((n+1)%65536) (rmF Gp.n n l++[⟨n,now,0⟩])
def gapsOn (s:Sd) (number:Nat) (now:Int) (window:Nat):List Gp:=if stepsTo number s.newest<=window then addsF now (stepsTo number s.newest-1) ((s.newest+1)%65536) s.gaps else s.gaps
def goOnF (s:Sd) (number:Nat) (now:Int) (window:Nat):Sd:={ s with newest:=number,gaps:=(gapsOn s number now window).drop (guN number window (gapsOn s number now window)) }
def lookBackF (s:Sd) (number window:Nat):Sd × Nat:=
 if window<=stepsTo s.newest number then(s,1)else if 0<=posF number (s.gaps.map Gp.n)then({ s with gaps:=rmF Gp.n number s.gaps },0)else(s,2)
def takeF (s:Sd) (number:Nat) (now:Int) (window:Nat):Sd × Nat × Nat:=
 if s.begun=false then({ s with begun:=true,newest:=number },0,0)
 else if 1<=stepsTo number s.newest/\stepsTo number s.newest<=32767 then(goOnF s number now window,0,guN number window (gapsOn s number now window))
 else((lookBackF s number window).1,(lookBackF s number window).2,0)
theorem rmF_mem {α:Type}{nf:α->Nat}{num:Nat}{l:List α}{x:α}(h:x∈rmF nf num l):x∈l:=by
 unfold rmF at h
 split at h
 ·exact h
 ·rcases List.mem_append.1 h with h|h
  ·exact List.mem_of_mem_take h
  ·exact List.mem_of_mem_drop h
theorem In16G.rm {l:List Gp}(h:In16G l) (n:Nat):In16G (rmF Gp.n n l):=fun x hx=>h x (rmF_mem hx)
theorem In16G.add {l:List Gp}(h:In16G l) (n:Nat) (hn:n<65536) (a b:Int):In16G (rmF Gp.n n l++[⟨n,a,b⟩]):=fun x hx=>by
 rcases List.mem_append.1 hx with hx|hx
 ·exact h.rm n x hx
 ·simp at hx;subst hx;exact hn
theorem steps_zero (a b:Nat) (ha:a<65536) (hb:b<65536):stepsTo a b=0↔b=a:=by unfold stepsTo;omega
theorem steps_next (a b c:Nat) (ha:a<65536) (_hb:b<65536) (h:stepsTo a b=c+1):stepsTo a ((b+1)%65536)=c:=by unfold stepsTo at *;omega
theorem u16_next (n:Nat):IntKind.u16.wrap ((n:Int)+1)=(((n+1)%65536:Nat):Int):=by simp[IntKind.wrap,IntKind.signed,IntKind.bits]
end Pk
open Pk
theorem goOn_any (base sb:Nat) (v:Value) (s:Sd) (number window:Nat) (now:Int) (w:World) (h:SdAt w base sb v s) (h16:In16G s.gaps) (hn16:s.newest<65536) (hnum:number<65536) (hd1:1<=stepsTo number s.newest) (hn:s.gaps.length<=90000) (hw:window<=1000) (hb:base<=w.heap.size) :
  Calls Tryz.prog 90 #[.pointer (some ⟨sb,0,none⟩),.int .u16 number,.int .i64 now,.int .i64 window] w fun e w'=>e = .returned (.int .i64 (guN number window (gapsOn s number now window)))/\∃v',SdAt w' base sb v' (goOnF s number now window)/\SdUp w w' sb v v':=by
 have H:=hyd h
 have H16:=hyd h16
 have y3:=h.c3
 have hsb:=h.lt
 obtain⟨nw,hnw⟩:∃nw,s.newest=nw:=⟨_,rfl⟩
 have Hnw:=hyd hnw
 rw[hnw]at y3 hn16 hd1
 have hsw:=steps_wrap number nw hn16 hnum
 have hsl:=steps_lt number nw
 obtain⟨d,hd⟩:∃d,stepsTo number nw=d:=⟨_,rfl⟩
 have Hd:=hyd hd
 rw[hd]at hsw hsl hd1
 have hun:=u16_next nw
 have hn1:(nw+1)%65536<65536:=Nat.mod_lt _ (by decide)
 have HG:Hid (gapsOn s number now window=if d<=window then addsF now (d-1) ((nw+1)%65536) s.gaps else s.gaps):=by
  show _=_
  unfold gapsOn
  rw[hnw,hd]
 have Hs1:Hid (stepsTo number ((nw+1)%65536)=d-1):=steps_next number nw (d-1) hnum hn16 (by omega)
 generalize hn1e:(nw+1)%65536=n1 at *
 clear h h16 hnw hd hn1e
 by_cases hle:d<=window
 ·have hle':(d:Int)<=window:=by omega
  rw[if_pos hle]at HG
  go_enter Tryz.func90,Tryz.ntmps90
  go_wp2
  clear y3
  go_loopw [9] (fun s9 wr=>∃(c n:Nat) (l:List Gp) (v':Value),s9 = .int .u16 n/\n<65536/\stepsTo number n=c/\c<d/\addsF now c n l=gapsOn s number now window/\In16G l/\l.length+c<=s.gaps.length+d/\SdAt wr base sb v' { s with gaps:=l }/\SdUp w wr sb v v') (fun s9 _=>stepsTo number (intOf s9).toNat)
  case atStart=>exact⟨d-1,n1,s.gaps,v,rfl,hn1,Hs1.out,by omega,HG.out.symm,H16.out,by omega,H.out,SdUp.refl _ _ _⟩
  case round=>
   obtain⟨c,n,l,v',rfl,hnl,hc,hcd,hadd,hl16,hlen,hS,hU⟩:=hrel
   have HS:=hyd hS
   have HU:=hyd hU
   have Hadd:=hyd hadd
   have Hl16:=hyd hl16
   have Hc:=hyd hc
   have hwr:=hU.chg.size
   have hsbw:=hS.lt
   clear hadd hl16 hS hU
   by_cases hne:n=number
   ·have hne':((n:Int) != (number:Int))=false:=by simp[hne]
    have hc0:c=0:=by have:=(steps_zero number n hnum hnl).2 hne;omega
    have HGl:Hid (gapsOn s number now window=l):=by
     have h:=Hadd.out
     rw[hc0]at h
     exact h.symm
    have yf:=HS.out.fz
    have y3:=HS.out.c3
    simp only[Hnw.out]at y3
    obtain⟨S3,U3⟩:=HS.out.set3 number
    have HS3:=hyd S3
    have HU3:Hid (SdUp w (wr.setCell ⟨sb,3,none⟩ (.int .u16 number)) sb v v'):=HU.out.trans U3
    clear hne S3 U3 hc
    go_wp2_with fail
    refine(giveUp_any base sb v' _ window _ HS3.out Hl16.out hnum (by simp only;omega) hw).mono ?_
    rintro e w2 ⟨rfl,v2,hS2,hU2⟩
    have HS2:Hid (SdAt w2 base sb v2 (goOnF s number now window)):=by
     show SdAt _ _ _ _ _
     unfold goOnF
     rw[HGl.out]
     exact hS2
    have HU2:Hid (SdUp w w2 sb v v2):=HU3.out.trans hU2
    clear hS2 hU2 yf y3
    simp only
    generalize hgn:guN number window l=gn
    have Hgn:=hyd hgn
    clear hgn
    go_wp2
    go_ret
    rw[HGl.out,Hgn.out]
    exact⟨rfl,_,HS2.out,HU2.out⟩
   ·have hne':((n:Int) != (number:Int))=true:=by simp;omega
    obtain⟨c',hc'⟩:∃c',c=c'+1:=⟨c-1,by have:¬stepsTo number n=0:=fun e=>hne ((steps_zero number n hnum hnl).1 e);omega⟩
    have Hnx:Hid (stepsTo number ((n+1)%65536)=c'):=steps_next number n c' hnum hnl (by omega)
    have hun2:=u16_next n
    have hnl2:(n+1)%65536<65536:=Nat.mod_lt _ (by decide)
    have Hadd2:Hid (addsF now c' ((n+1)%65536) (rmF Gp.n n l++[⟨n,now,0⟩])=gapsOn s number now window):=by
     have h:=Hadd.out
     rw[hc']at h
     exact h
    have hrl:=rmF_length Gp.n n l
    generalize hn2e:(n+1)%65536=n2 at *
    have Hn2e:=hyd hn2e
    clear hn2e
    have Hc':Hid (c=c'+1):=hc'
    have hcc:c'<c:=by omega
    clear hc hc' hne
    go_wp2_with fail
    refine(addG_any base sb v' l n now 0 _ HS.out.c2 HS.out.fz HS.out.ne HS.out.row (by omega) (by omega) HS.out.sb).mono ?_
    rintro e w2 ⟨rfl,v2,hU2,hr2⟩
    have HS2:Hid (SdAt w2 base sb v2 { s with gaps:=rmF Gp.n n l++[⟨n,now,0⟩] }):=HS.out.upd hU2 hr2
    have HU2:Hid (SdUp w w2 sb v v2):=HU.out.trans (SdUp.ofUpd hU2)
    clear hU2 hr2
    go_wp2
    go_roundw
    case rel=>exact⟨c',n2,_,v2,rfl,hnl2,Hnx.out,by omega,Hadd2.out,Hl16.out.add n hnl _ _,by simp;omega,HS2.out,HU2.out⟩
    case measure=>simp only[intOf,Int.toNat_natCast];rw[Hnx.out,Hc.out];omega
 ·have hle':¬(d:Int)<=window:=by omega
  rw[if_neg hle]at HG
  have yf:=H.out.fz
  obtain⟨S3,U3⟩:=H.out.set3 number
  have HS3:=hyd S3
  have HU3:=hyd U3
  clear S3 U3
  go_enter Tryz.func90,Tryz.ntmps90
  go_wp2_with fail
  refine(giveUp_any base sb v _ window _ HS3.out H16.out hnum (by simp only;omega) hw).mono ?_
  rintro e w2 ⟨rfl,v2,hS2,hU2⟩
  have HS2:Hid (SdAt w2 base sb v2 (goOnF s number now window)):=by
   show SdAt _ _ _ _ _
   unfold goOnF
   rw[HG.out]
   exact hS2
  have HU2:Hid (SdUp w w2 sb v v2):=HU3.out.trans hU2
  clear hS2 hU2 yf y3
  simp only
  generalize hgn:guN number window s.gaps=gn
  have Hgn:=hyd hgn
  clear hgn
  go_wp2
  go_ret
  rw[HG.out,Hgn.out]
  exact⟨rfl,_,HS2.out,HU2.out⟩
theorem lookBack_any (base sb:Nat) (v:Value) (s:Sd) (number window:Nat) (w:World) (h:SdAt w base sb v s) (hn16:s.newest<65536) (hnum:number<65536) (hn:s.gaps.length<=90000) (_hw:window<=1000) :
  Calls Tryz.prog 91 #[.pointer (some ⟨sb,0,none⟩),.int .u16 number,.int .i64 window] w fun e w'=>e = .returned (.int .i64 (lookBackF s number window).2)/\∃v',SdAt w' base sb v' (lookBackF s number window).1/\SdUp w w' sb v v':=by
 have H:=hyd h
 have y3:=h.c3
 have hsb:=h.lt
 obtain⟨nw,hnw⟩:∃nw,s.newest=nw:=⟨_,rfl⟩
 have Hnw:=hyd hnw
 rw[hnw]at y3 hn16
 have hsw:=steps_wrap nw number hnum hn16
 have hsl:=steps_lt nw number
 obtain⟨d,hd⟩:∃d,stepsTo nw number=d:=⟨_,rfl⟩
 have HL:Hid (lookBackF s number window=if window<=d then(s,1)else if 0<=posF number (s.gaps.map Gp.n)then({ s with gaps:=rmF Gp.n number s.gaps },0)else(s,2)):=by
  show _=_
  unfold lookBackF
  rw[hnw,hd]
 rw[hd]at hsw hsl
 clear h hnw hd
 by_cases hge:window<=d
 ·have hge':(window:Int)<=d:=by omega
  rw[if_pos hge]at HL
  go_enter Tryz.func91,Tryz.ntmps91
  go_wp2
  go_ret
  rw[HL.out]
  exact⟨rfl,_,H.out,SdUp.refl _ _ _⟩
 ·have hge':¬(window:Int)<=d:=by omega
  rw[if_neg hge]at HL
  go_enter Tryz.func91,Tryz.ntmps91
  go_wp2_with fail
  refine(removeG_any base sb v s.gaps number _ H.out.c2 H.out.fz H.out.ne H.out.row (by omega)).mono ?_
  rintro e w2 ⟨rfl,v2,hU2,hr2⟩
  have HS2:Hid (SdAt w2 base sb v2 { s with gaps:=rmF Gp.n number s.gaps }):=H.out.upd hU2 hr2
  have HU2:Hid (SdUp w w2 sb v v2):=SdUp.ofUpd hU2
  clear hU2 hr2 y3
  by_cases hp:0<=posF number (s.gaps.map Gp.n)
  ·rw[decide_eq_true hp]
   rw[if_pos hp]at HL
   clear hp
   go_wp2
   go_ret
   rw[HL.out]
   exact⟨rfl,_,HS2.out,HU2.out⟩
  ·rw[decide_eq_false hp]
   rw[if_neg hp]at HL
   have hrm:rmF Gp.n number s.gaps=s.gaps:=by unfold rmF;rw[if_pos (by omega)]
   rw[hrm]at HS2
   clear hp hrm
   go_wp2
   go_ret
   rw[HL.out]
   exact⟨rfl,_,HS2.out,HU2.out⟩
theorem take_any (base sb:Nat) (v:Value) (s:Sd) (number window:Nat) (now:Int) (w:World) (h:SdAt w base sb v s) (h16:In16G s.gaps) (hn16:s.newest<65536) (hnum:number<65536) (hn:s.gaps.length<=90000) (hw:window<=1000) (hb:base<=w.heap.size) :
  Calls Tryz.prog 73 #[.pointer (some ⟨sb,0,none⟩),.int .u16 number,.int .i64 now,.int .i64 window] w fun e w'=>e = .returned (.tuple #[.int .i64 (takeF s number now window).2.1,.int .i64 (takeF s number now window).2.2])/\∃v',SdAt w' base sb v' (takeF s number now window).1/\SdUp w w' sb v v':=by
 have H:=hyd h
 have H16:=hyd h16
 have y1:=h.c1
 have y3:=h.c3
 have yf:=h.fz
 have hsb:=h.lt
 obtain⟨nw,hnw⟩:∃nw,s.newest=nw:=⟨_,rfl⟩
 have Hnw:=hyd hnw
 have Hn16:=hyd hn16
 rw[hnw]at y3 hn16
 have hsw:=steps_wrap number nw hn16 hnum
 have hsl:=steps_lt number nw
 obtain⟨d,hd⟩:∃d,stepsTo number nw=d:=⟨_,rfl⟩
 have Hd:=hyd hd
 rw[hd]at hsw hsl
 clear h h16 hnw hd
 by_cases hbg:s.begun=true
 case neg=>
  have hbf:s.begun=false:=by simpa using hbg
  have HT:Hid (takeF s number now window=({ s with begun:=true,newest:=number },0,0)):=by show _=_;unfold takeF;rw[if_pos hbf]
  rw[hbf]at y1
  obtain⟨S1,U1⟩:=H.out.set1 true
  obtain⟨S3,U3⟩:=S1.set3 number
  have HS3:=hyd S3
  have HU3:Hid (SdUp w ((w.setCell ⟨sb,1,none⟩ (.bool true)).setCell ⟨sb,3,none⟩ (.int .u16 number)) sb v v):=U1.trans U3
  clear S1 U1 S3 U3 hbg hbf
  go_enter Tryz.func73,Tryz.ntmps73
  go_wp2
  go_ret2
  rw[HT.out]
  exact⟨rfl,_,HS3.out,HU3.out⟩
 rw[hbg]at y1
 by_cases hah:1<=d/\d<=32767
 ·have HT:Hid (takeF s number now window=(goOnF s number now window,0,guN number window (gapsOn s number now window))):=by
   show _=_
   unfold takeF
   rw[if_neg (by rw[hbg];simp),if_pos (by rw[Hnw.out,Hd.out];exact hah)]
  obtain⟨ha1,ha2⟩:=hah
  have ha1':(1:Int)<=d:=by omega
  have ha2':(d:Int)<=32767:=by omega
  clear hbg
  go_enter Tryz.func73,Tryz.ntmps73
  go_wp2_with fail
  refine(goOn_any base sb v s number window now _ H.out H16.out Hn16.out hnum (by rw[Hnw.out,Hd.out];exact ha1) hn hw hb).mono ?_
  rintro e w2 ⟨rfl,v2,hS2,hU2⟩
  have HS2:=hyd hS2
  have HU2:=hyd hU2
  clear hS2 hU2 y1 y3 yf
  generalize guN number window (gapsOn s number now window)=gn at *
  go_wp2
  go_ret2
  rw[HT.out]
  exact⟨rfl,_,HS2.out,HU2.out⟩
 ·have HT:Hid (takeF s number now window=((lookBackF s number window).1,(lookBackF s number window).2,0)):=by
   show _=_
   unfold takeF
   rw[if_neg (by rw[hbg];simp),if_neg (by rw[Hnw.out,Hd.out];exact hah)]
  clear hbg
  by_cases ha1:1<=d
  ·have ha1':(1:Int)<=d:=by omega
   have ha2':¬(d:Int)<=32767:=by omega
   clear hah
   go_enter Tryz.func73,Tryz.ntmps73
   go_wp2_with fail
   refine(lookBack_any base sb v s number window _ H.out Hn16.out hnum hn hw).mono ?_
   rintro e w2 ⟨rfl,v2,hS2,hU2⟩
   have HS2:=hyd hS2
   have HU2:=hyd hU2
   clear hS2 hU2 y1 y3 yf
   generalize lookBackF s number window=lb at *
   go_wp2
   go_ret2
   rw[HT.out]
   exact⟨rfl,_,HS2.out,HU2.out⟩
  ·have ha1':¬(1:Int)<=d:=by omega
   clear hah
   go_enter Tryz.func73,Tryz.ntmps73
   go_wp2_with fail
   refine(lookBack_any base sb v s number window _ H.out Hn16.out hnum hn hw).mono ?_
   rintro e w2 ⟨rfl,v2,hS2,hU2⟩
   have HS2:=hyd hS2
   have HU2:=hyd hU2
   clear hS2 hU2 y1 y3 yf
   generalize lookBackF s number window=lb at *
   go_wp2
   go_ret2
   rw[HT.out]
   exact⟨rfl,_,HS2.out,HU2.out⟩
end Go.Proofs.YtdjhhnolcafkiaaGreat
namespace Go.Proofs.YtdjhhnolcafkiaaGreat
open Go.RowKit
namespace Pk
def IsC (C:Nat->Prop) (W:World) (v:Value) (l:List Int):Prop:=
 ∃ao cap,v = .slice ao l.length cap/\∀j,j<l.length->∃b off,ao=some ⟨b,off,none⟩/\C b/\W.cell? ⟨b,off+j,none⟩=some (.int .i64 (l.getD j 0))
theorem IsC.chg {C T:Nat->Prop}{W W':World}{v:Value}{l:List Int}(h:IsC C W v l) (hc:Chg T W W') (hT:∀b,C b->¬T b):IsC C W' v l:=by
 obtain⟨ao,cap,rfl,hj⟩:=h
 refine⟨ao,cap,rfl,fun j hjl=>?_⟩
 obtain⟨b,off,e,hC,hcell⟩:=hj j hjl
 exact⟨b,off,e,hC,hc.cell hcell (hT b hC)⟩
theorem IsC.mono {C C':Nat->Prop}{W:World}{v:Value}{l:List Int}(h:IsC C W v l) (hC:∀b,b<W.heap.size->C b->C' b):IsC C' W v l:=by
 obtain⟨ao,cap,rfl,hj⟩:=h
 refine⟨ao,cap,rfl,fun j hjl=>?_⟩
 obtain⟨b,off,e,hb,hcell⟩:=hj j hjl
 exact⟨b,off,e,hC b (lt_of_cell hcell) hb,hcell⟩
theorem IsC.isInts {C:Nat->Prop}{W:World}{v:Value}{l:List Int}(h:IsC C W v l):IsInts W.heap.size W v l:=by
 obtain⟨ao,cap,rfl,hj⟩:=h
 refine⟨ao,cap,rfl,fun j hjl=>?_⟩
 obtain⟨b,off,e,hb,hcell⟩:=hj j hjl
 exact⟨b,off,e,lt_of_cell hcell,hcell⟩
theorem IsC.one {C:Nat->Prop}{W:World}{v:Value}{l:List Int}(h:IsC C W v l):v.oneCell'=true:=by
 obtain⟨ao,cap,rfl,_⟩:=h
 rfl
structure Plan where
 source:Int
 second:Int
 ty:Int
 secondTy:Int
 first:Int
 secondFirst:Int
structure Wn where
 src:Int
 begun:Bool
 kept:List Kp
 id:Int
 of_:Int
 pl:Plan
 shift:Nat
 second:Nat
structure WnAt (C:Nat->Prop) (W:World) (base wb:Nat) (v:Value) (x:Wn):Prop where
 c0:W.cell? ⟨wb,0,none⟩=some (.int .i64 x.src)
 c1:W.cell? ⟨wb,1,none⟩=some (.bool x.begun)
 c2:W.cell? ⟨wb,2,none⟩=some v
 c3:W.cell? ⟨wb,3,none⟩=some (.int .i64 x.id)
 c4:W.cell? ⟨wb,4,none⟩=some (.int .i64 x.of_)
 c5:W.cell? ⟨wb,5,none⟩=some (.int .i64 x.pl.source)
 c6:W.cell? ⟨wb,6,none⟩=some (.int .i64 x.pl.second)
 c7:W.cell? ⟨wb,7,none⟩=some (.int .i64 x.pl.ty)
 c8:W.cell? ⟨wb,8,none⟩=some (.int .i64 x.pl.secondTy)
 c9:W.cell? ⟨wb,9,none⟩=some (.int .i64 x.pl.first)
 c10:W.cell? ⟨wb,10,none⟩=some (.int .i64 x.pl.secondFirst)
 c11:W.cell? ⟨wb,11,none⟩=some (.int .u16 x.shift)
 c12:W.cell? ⟨wb,12,none⟩=some (.int .u16 x.second)
 fz:∀o,W.frozen? ⟨wb,o,none⟩=false
 row:W.ownsRow base 194 13 v x.kept.length (x.kept.flatMap cellsK)
 sb:wb<base
 con:∀k∈x.kept,IsC C W k.cv k.x.cl
 n1:¬C wb
 n2:∀b,v.ownBlock=some b->¬C b
theorem WnAt.ne {C:Nat->Prop}{W:World}{base wb:Nat}{v:Value}{x:Wn}(h:WnAt C W base wb v x):v.ownBlock≠some wb:=fun e=>by have:=(h.row.lt wb e).1;have:=h.sb;omega
theorem WnAt.lt {C:Nat->Prop}{W:World}{base wb:Nat}{v:Value}{x:Wn}(h:WnAt C W base wb v x):wb<W.heap.size:=lt_of_cell h.c0
theorem WnAt.one {C:Nat->Prop}{W:World}{base wb:Nat}{v:Value}{x:Wn}(h:WnAt C W base wb v x):OneK x.kept:=fun k hk=>(h.con k hk).one
theorem WnAt.chg {C T:Nat->Prop}{W W':World}{base wb:Nat}{v:Value}{x:Wn}(h:WnAt C W base wb v x) (hc:Chg T W W') (h1:¬T wb) (h2:∀b,v.ownBlock=some b->¬T b) (h3:∀b,C b->¬T b):WnAt C W' base wb v x:=
 ⟨hc.cell h.c0 h1,hc.cell h.c1 h1,hc.cell h.c2 h1,hc.cell h.c3 h1,hc.cell h.c4 h1,hc.cell h.c5 h1,hc.cell h.c6 h1,hc.cell h.c7 h1,hc.cell h.c8 h1,hc.cell h.c9 h1,hc.cell h.c10 h1,hc.cell h.c11 h1,hc.cell h.c12 h1,
  fun o=>(hc.frozen (p:=⟨wb,o,none⟩) h.lt h1).trans (h.fz o),rowA_chg hc h.row h2,h.sb,fun k hk=>(h.con k hk).chg hc h3,h.n1,h.n2⟩
theorem WnAt.below {C:Nat->Prop}{W W':World}{base wb:Nat}{v:Value}{x:Wn}(h:WnAt C W base wb v x) (hb:Below W.heap.size W W'):WnAt C W' base wb v x:=h.chg (T:=fun _=>False) (Chg.ofBelow hb) (fun e=>e) (fun _ _ e=>e) (fun _ _ e=>e)
theorem WnAt.mono {C C':Nat->Prop}{W:World}{base wb:Nat}{v:Value}{x:Wn}(h:WnAt C W base wb v x) (hC:∀b,b<W.heap.size->(C b↔C' b)):WnAt C' W base wb v x:=
 ⟨h.c0,h.c1,h.c2,h.c3,h.c4,h.c5,h.c6,h.c7,h.c8,h.c9,h.c10,h.c11,h.c12,h.fz,h.row,h.sb,fun k hk=>(h.con k hk).mono (fun b hb hc=>(hC b hb).1 hc),fun e=>h.n1 ((hC wb h.lt).2 e),fun b hb e=>h.n2 b hb ((hC b (h.row.lt b hb).2).2 e)⟩
theorem WnAt.upd {C:Nat->Prop}{a b:World}{base wb:Nat}{v v1:Value}{x:Wn}{l:List Kp}(h:WnAt C a base wb v x) (hu:Upd a b wb v v1) (hr:b.ownsRow base 194 13 v1 l.length (l.flatMap cellsK)) (hl:∀k∈l,IsC C a k.cv k.x.cl) (hC:∀b,C b->b<a.heap.size):WnAt C b base wb v1 { x with kept:=l }:=
 ⟨(hu.oth 0 (by omega)).trans h.c0,(hu.oth 1 (by omega)).trans h.c1,hu.c2,(hu.oth 3 (by omega)).trans h.c3,(hu.oth 4 (by omega)).trans h.c4,(hu.oth 5 (by omega)).trans h.c5,(hu.oth 6 (by omega)).trans h.c6,(hu.oth 7 (by omega)).trans h.c7,(hu.oth 8 (by omega)).trans h.c8,
  (hu.oth 9 (by omega)).trans h.c9,(hu.oth 10 (by omega)).trans h.c10,(hu.oth 11 (by omega)).trans h.c11,(hu.oth 12 (by omega)).trans h.c12,fun o=>(hu.fz o).trans (h.fz o),hr,h.sb,fun k hk=>(hl k hk).chg hu.chg (fun y hy e=>by
   rcases e with e|e
   ·exact h.n1 (e▸hy)
   ·exact h.n2 y e hy),h.n1,fun y hy e=>by
   rcases hu.own y hy with e'|e'
   ·exact h.n2 y e' e
   ·have:=hC y e;omega⟩
theorem WnAt.set {C:Nat->Prop}{W:World}{base wb:Nat}{v:Value}{x:Wn}(h:WnAt C W base wb v x) (i:Nat) (u:Value) (_h2:i≠2):SdUp W (W.setCell ⟨wb,i,none⟩ u) wb v v/\(W.setCell ⟨wb,i,none⟩ u).ownsRow base 194 13 v x.kept.length (x.kept.flatMap cellsK)/\(∀k∈x.kept,IsC C (W.setCell ⟨wb,i,none⟩ u) k.cv k.x.cl)/\(∀j y,j≠i->W.cell? ⟨wb,j,none⟩=some y->(W.setCell ⟨wb,i,none⟩ u).cell? ⟨wb,j,none⟩=some y)/\∀o,(W.setCell ⟨wb,i,none⟩ u).frozen? ⟨wb,o,none⟩=false:=by
 have hc:Chg (fun x=>x=wb) W (W.setCell ⟨wb,i,none⟩ u):=(Chg.refl (fun x=>x=wb) _).setCell ⟨wb,i,none⟩ (.inl rfl) _
 refine⟨⟨hc.mono (fun _ _ e=>.inl e),fun _ h=>.inl h⟩,rowA_chg hc h.row (fun y hy e=>h.ne (e▸hy)),fun k hk=>(h.con k hk).chg hc (fun y hy e=>h.n1 (e▸hy)),fun j y hj hy=>?_,fun o=>?_⟩
 ·exact(World.cell?_setCell_other _ _ _ _ (fun e=>hj (by injection e with _ e2 _;exact e2.symm))).trans hy
 ·rw[World.frozen?_setCell];exact h.fz o
theorem WnAt.set1 {C:Nat->Prop}{W:World}{base wb:Nat}{v:Value}{x:Wn}(h:WnAt C W base wb v x) (b:Bool):WnAt C (W.setCell ⟨wb,1,none⟩ (.bool b)) base wb v { x with begun:=b }/\SdUp W (W.setCell ⟨wb,1,none⟩ (.bool b)) wb v v:=by
 obtain⟨u,r,c,o,f⟩:=h.set 1 (.bool b) (by omega)
 exact⟨⟨o 0 _ (by omega) h.c0,World.cell?_setCell_same _ _ _ h.c1,o 2 _ (by omega) h.c2,o 3 _ (by omega) h.c3,o 4 _ (by omega) h.c4,o 5 _ (by omega) h.c5,o 6 _ (by omega) h.c6,o 7 _ (by omega) h.c7,o 8 _ (by omega) h.c8,o 9 _ (by omega) h.c9,o 10 _ (by omega) h.c10,o 11 _ (by omega) h.c11,o 12 _ (by omega) h.c12,f,r,h.sb,c,h.n1,h.n2⟩,u⟩
theorem WnAt.set11 {C:Nat->Prop}{W:World}{base wb:Nat}{v:Value}{x:Wn}(h:WnAt C W base wb v x) (n:Nat):WnAt C (W.setCell ⟨wb,11,none⟩ (.int .u16 n)) base wb v { x with shift:=n }/\SdUp W (W.setCell ⟨wb,11,none⟩ (.int .u16 n)) wb v v:=by
 obtain⟨u,r,c,o,f⟩:=h.set 11 (.int .u16 n) (by omega)
 exact⟨⟨o 0 _ (by omega) h.c0,o 1 _ (by omega) h.c1,o 2 _ (by omega) h.c2,o 3 _ (by omega) h.c3,o 4 _ (by omega) h.c4,o 5 _ (by omega) h.c5,o 6 _ (by omega) h.c6,o 7 _ (by omega) h.c7,o 8 _ (by omega) h.c8,o 9 _ (by omega) h.c9,o 10 _ (by omega) h.c10,World.cell?_setCell_same _ _ _ h.c11,o 12 _ (by omega) h.c12,f,r,h.sb,c,h.n1,h.n2⟩,u⟩
def shiftOf (x:Wn) (nu:Nat):Nat:=if x.begun then x.shift else(x.pl.first.toNat+65536-nu)%65536
def numOf (x:Wn) (nu:Nat):Nat:=(nu+shiftOf x nu)%65536
def passP (x:Wn) (p:PP):PP:={ p with so:=x.src,ty:=x.pl.ty,nu:=(numOf x p.nu.toNat:Nat) }
def keepsF (x:Wn) (p:PP) (cv:Value) (ring:Nat):List Kp:=
 if ring<(rmF Kp.n (numOf x p.nu.toNat) x.kept++[(⟨numOf x p.nu.toNat,passP x p,cv,0⟩:Kp)]).length then(rmF Kp.n (numOf x p.nu.toNat) x.kept++[(⟨numOf x p.nu.toNat,passP x p,cv,0⟩:Kp)]).drop 1
 else rmF Kp.n (numOf x p.nu.toNat) x.kept++[(⟨numOf x p.nu.toNat,passP x p,cv,0⟩:Kp)]
def passW (x:Wn) (p:PP) (cv:Value) (ring:Nat):Wn:={ x with begun:=true,shift:=shiftOf x p.nu.toNat,kept:=keepsF x p cv ring }
theorem u16_id (n:Nat) (h:n<65536):IntKind.u16.wrap (n:Int)=(n:Int):=by simp[IntKind.wrap,IntKind.signed,IntKind.bits];omega
theorem u16_add (a b:Nat):IntKind.u16.wrap ((a:Int)+(b:Int))=(((a+b)%65536:Nat):Int):=by simp[IntKind.wrap,IntKind.signed,IntKind.bits]
structure Bx2 (s:Nat) (W:World) (mk ex:Bool) (ty n ti so pr pa:Int) (cv:Value) (en py:ByteArray):Prop where
 q0:W.cell? ⟨s,0,none⟩=some (.bool mk)
 q1:W.cell? ⟨s,1,none⟩=some (.int .i64 ty)
 q2:W.cell? ⟨s,2,none⟩=some (.int .i64 n)
 q3:W.cell? ⟨s,3,none⟩=some (.int .i64 ti)
 q4:W.cell? ⟨s,4,none⟩=some (.int .i64 so)
 q5:W.cell? ⟨s,5,none⟩=some (cv)
 q6:W.cell? ⟨s,6,none⟩=some (.bool ex)
 q7:W.cell? ⟨s,7,none⟩=some (.int .i64 pr)
 q8:W.cell? ⟨s,8,none⟩=some (.string en)
 q9:W.cell? ⟨s,9,none⟩=some (.string py)
 q10:W.cell? ⟨s,10,none⟩=some (.int .i64 pa)
 z0:W.cell? ⟨s+1,0,none⟩=some (.bool false)
 z1:W.cell? ⟨s+1,1,none⟩=some (.int .i64 0)
 z2:W.cell? ⟨s+1,2,none⟩=some (.int .i64 0)
 z3:W.cell? ⟨s+1,3,none⟩=some (.int .i64 0)
 z4:W.cell? ⟨s+1,4,none⟩=some (.int .i64 0)
 z5:W.cell? ⟨s+1,5,none⟩=some (.slice none 0 0)
 z6:W.cell? ⟨s+1,6,none⟩=some (.bool false)
 z7:W.cell? ⟨s+1,7,none⟩=some (.int .i64 0)
 z8:W.cell? ⟨s+1,8,none⟩=some (.string ⟨#[]⟩)
 z9:W.cell? ⟨s+1,9,none⟩=some (.string ⟨#[]⟩)
 z10:W.cell? ⟨s+1,10,none⟩=some (.int .i64 0)
 f0:∀o,W.frozen? ⟨s,o,none⟩=false
 f1:∀o,W.frozen? ⟨s+1,o,none⟩=false
theorem Bx2.chg {T:Nat->Prop}{s:Nat}{W W':World}{mk ex:Bool}{ty n ti so pr pa:Int}{cv:Value}{en py:ByteArray}(h:Bx2 s W mk ex ty n ti so pr pa cv en py) (hc:Chg T W W') (h0:¬T s) (h1:¬T (s+1)):Bx2 s W' mk ex ty n ti so pr pa cv en py:=
 ⟨hc.cell h.q0 h0,hc.cell h.q1 h0,hc.cell h.q2 h0,hc.cell h.q3 h0,hc.cell h.q4 h0,hc.cell h.q5 h0,hc.cell h.q6 h0,hc.cell h.q7 h0,hc.cell h.q8 h0,hc.cell h.q9 h0,hc.cell h.q10 h0,hc.cell h.z0 h1,hc.cell h.z1 h1,hc.cell h.z2 h1,hc.cell h.z3 h1,hc.cell h.z4 h1,hc.cell h.z5 h1,hc.cell h.z6 h1,hc.cell h.z7 h1,hc.cell h.z8 h1,hc.cell h.z9 h1,hc.cell h.z10 h1,fun o=>(hc.frozen (p:=⟨s,o,none⟩) (show s<W.heap.size from lt_of_cell h.q0) h0).trans (h.f0 o),fun o=>(hc.frozen (p:=⟨s+1,o,none⟩) (show s+1<W.heap.size from lt_of_cell h.z0) h1).trans (h.f1 o)⟩
theorem Bx2.init (w:World) (mk ex:Bool) (ty n ti so pr pa:Int) (cv:Value) (en py:ByteArray):Bx2 w.heap.size ((w.alloc (.cells #[.bool mk,.int .i64 ty,.int .i64 n,.int .i64 ti,.int .i64 so,cv,.bool ex,.int .i64 pr,.string en,.string py,.int .i64 pa] 41)).alloc (.cells #[.bool false,.int .i64 0,.int .i64 0,.int .i64 0,.int .i64 0,.slice none 0 0,.bool false,.int .i64 0,.string ⟨#[]⟩,.string ⟨#[]⟩,.int .i64 0] 41)) mk ex ty n ti so pr pa cv en py:=by
 have hs:(w.alloc (.cells #[.bool mk,.int .i64 ty,.int .i64 n,.int .i64 ti,.int .i64 so,cv,.bool ex,.int .i64 pr,.string en,.string py,.int .i64 pa] 41)).heap.size=w.heap.size+1:=by simp
 have a:∀i u,(w.alloc (.cells #[.bool mk,.int .i64 ty,.int .i64 n,.int .i64 ti,.int .i64 so,cv,.bool ex,.int .i64 pr,.string en,.string py,.int .i64 pa] 41)).cell? ⟨w.heap.size,i,none⟩=some u->((w.alloc (.cells #[.bool mk,.int .i64 ty,.int .i64 n,.int .i64 ti,.int .i64 so,cv,.bool ex,.int .i64 pr,.string en,.string py,.int .i64 pa] 41)).alloc (.cells #[.bool false,.int .i64 0,.int .i64 0,.int .i64 0,.int .i64 0,.slice none 0 0,.bool false,.int .i64 0,.string ⟨#[]⟩,.string ⟨#[]⟩,.int .i64 0] 41)).cell? ⟨w.heap.size,i,none⟩=some u:=fun i u hu=>(World.cell?_alloc_lt _ _ _ (by simp)).trans hu
 exact⟨a 0 _ (cell_new _ _ _ 0),a 1 _ (cell_new _ _ _ 1),a 2 _ (cell_new _ _ _ 2),a 3 _ (cell_new _ _ _ 3),a 4 _ (cell_new _ _ _ 4),a 5 _ (cell_new _ _ _ 5),a 6 _ (cell_new _ _ _ 6),a 7 _ (cell_new _ _ _ 7),a 8 _ (cell_new _ _ _ 8),a 9 _ (cell_new _ _ _ 9),a 10 _ (cell_new _ _ _ 10),cell_newAt _ _ _ _ 0 hs,cell_newAt _ _ _ _ 1 hs,cell_newAt _ _ _ _ 2 hs,cell_newAt _ _ _ _ 3 hs,cell_newAt _ _ _ _ 4 hs,cell_newAt _ _ _ _ 5 hs,cell_newAt _ _ _ _ 6 hs,cell_newAt _ _ _ _ 7 hs,cell_newAt _ _ _ _ 8 hs,cell_newAt _ _ _ _ 9 hs,cell_newAt _ _ _ _ 10 hs,fun o=>(((Below.refl _ _).alloc (Nat.le_refl _) _).frozen (p:=⟨w.heap.size,o,none⟩) (by simp)).trans (frozen_new _ _ _ o),fun o=>frozen_newAt _ _ _ _ o hs⟩
theorem Bx2.set {s:Nat}{W:World}{mk ex:Bool}{ty n ti so pr pa:Int}{cv:Value}{en py:ByteArray}(h:Bx2 s W mk ex ty n ti so pr pa cv en py) (ty' n' so':Int):Bx2 s (((W.setCell ⟨s,4,none⟩ (.int .i64 so')).setCell ⟨s,1,none⟩ (.int .i64 ty')).setCell ⟨s,2,none⟩ (.int .i64 n')) mk ex ty' n' ti so' pr pa cv en py:=by
 have hne:∀(W:World) (i j:Nat) (u:Value),i≠j->(W.setCell ⟨s,i,none⟩ u).cell? ⟨s,j,none⟩=W.cell? ⟨s,j,none⟩:=fun W i j u h=>World.cell?_setCell_other _ _ _ _ (fun e=>h (by injection e))
 have hbe:∀(W:World) (i j:Nat) (u:Value),(W.setCell ⟨s,i,none⟩ u).cell? ⟨s+1,j,none⟩=W.cell? ⟨s+1,j,none⟩:=fun W i j u=>World.cell?_setCell_other _ _ _ _ (fun e=>by injection e with e _ _;omega)
 have s4:∀j u,j≠4->j≠1->j≠2->W.cell? ⟨s,j,none⟩=some u->(((W.setCell ⟨s,4,none⟩ (.int .i64 so')).setCell ⟨s,1,none⟩ (.int .i64 ty')).setCell ⟨s,2,none⟩ (.int .i64 n')).cell? ⟨s,j,none⟩=some u:=fun j u h4 h1 h2 hu=>by
  rw[hne _ 2 j _ (Ne.symm h2),hne _ 1 j _ (Ne.symm h1),hne _ 4 j _ (Ne.symm h4)];exact hu
 refine⟨s4 0 _ (by omega) (by omega) (by omega) h.q0,?_,?_,s4 3 _ (by omega) (by omega) (by omega) h.q3,?_,s4 5 _ (by omega) (by omega) (by omega) h.q5,s4 6 _ (by omega) (by omega) (by omega) h.q6,s4 7 _ (by omega) (by omega) (by omega) h.q7,s4 8 _ (by omega) (by omega) (by omega) h.q8,s4 9 _ (by omega) (by omega) (by omega) h.q9,s4 10 _ (by omega) (by omega) (by omega) h.q10,by rw[hbe,hbe,hbe];exact h.z0,by rw[hbe,hbe,hbe];exact h.z1,by rw[hbe,hbe,hbe];exact h.z2,by rw[hbe,hbe,hbe];exact h.z3,by rw[hbe,hbe,hbe];exact h.z4,by rw[hbe,hbe,hbe];exact h.z5,by rw[hbe,hbe,hbe];exact h.z6,by rw[hbe,hbe,hbe];exact h.z7,by rw[hbe,hbe,hbe];exact h.z8,by rw[hbe,hbe,hbe];exact h.z9,by rw[hbe,hbe,hbe];exact h.z10,fun o=>by rw[World.frozen?_setCell,World.frozen?_setCell,World.frozen?_setCell];exact h.f0 o,fun o=>by rw[World.frozen?_setCell,World.frozen?_setCell,World.frozen?_setCell];exact h.f1 o⟩
 ·rw[hne _ 2 1 _ (by omega)]
  exact World.cell?_setCell_same _ _ _ ((hne _ 4 1 _ (by omega)).trans h.q1)
 ·exact World.cell?_setCell_same _ _ _ ((hne _ 1 2 _ (by omega)).trans ((hne _ 4 2 _ (by omega)).trans h.q2))
 ·rw[hne _ 2 4 _ (by omega),hne _ 1 4 _ (by omega)]
  exact World.cell?_setCell_same _ _ _ h.q4
end Pk
open Pk
theorem pass_any (C:Nat->Prop) (base wb:Nat) (v:Value) (x:Wn) (mk ex:Bool) (ty ti so pr pa:Int) (n:Nat) (cv:Value) (cl:List Int) (en py:ByteArray) (ring:Nat) (w:World) (h:WnAt C w base wb v x) (hcv:IsC C w cv cl) (hC:∀b,C b->b<w.heap.size)
  (hn:n<65536) (hf0:0<=x.pl.first) (hf1:x.pl.first<=65535) (_hsh:x.shift<65536) (hk:x.kept.length<=90000) (hring:ring<=1000) (hb:base<=w.heap.size) :
  Calls Tryz.prog 94 #[.pointer (some ⟨wb,0,none⟩),.agg #[.bool mk,.int .i64 ty,.int .i64 n,.int .i64 ti,.int .i64 so,cv,.bool ex,.int .i64 pr,.string en,.string py,.int .i64 pa],.int .i64 ring] w fun e w'=>
   e = .returned (.agg #[.bool mk,.int .i64 x.pl.ty,.int .i64 (numOf x n:Nat),.int .i64 ti,.int .i64 x.src,cv,.bool ex,.int .i64 pr,.string en,.string py,.int .i64 pa])/\∃v',WnAt C w' base wb v' (passW x ⟨mk,ex,ty,n,ti,so,pr,pa,cl,en,py⟩ cv ring)/\SdUp w w' wb v v':=by
 obtain⟨fi,hfi⟩:=Int.eq_ofNat_of_zero_le hf0
 have hfl:fi<65536:=by omega
 have H:=hyd h
 have HC:=hyd hC
 have Hcv:=hyd hcv
 have hwb:=h.lt
 have e1:=u16_id n hn
 have e2:=u16_id fi hfl
 have e3:=steps_wrap fi n hn hfl
 have Hst:Hid (stepsTo fi n=(fi+65536-n)%65536):=rfl
 have hstl:=steps_lt fi n
 obtain⟨acv,ccv,rfl,_⟩:=hcv
 obtain⟨HBX,hbx⟩:∃P:Prop,P=Bx2 w.heap.size ((w.alloc (.cells #[.bool mk,.int .i64 ty,.int .i64 n,.int .i64 ti,.int .i64 so,.slice acv cl.length ccv,.bool ex,.int .i64 pr,.string en,.string py,.int .i64 pa] 41)).alloc (.cells #[.bool false,.int .i64 0,.int .i64 0,.int .i64 0,.int .i64 0,.slice none 0 0,.bool false,.int .i64 0,.string ⟨#[]⟩,.string ⟨#[]⟩,.int .i64 0] 41)) mk ex ty n ti so pr pa (.slice acv cl.length ccv) en py:=⟨_,rfl⟩
 clear HBX hbx
 have B0:Hid (Bx2 w.heap.size ((w.alloc (.cells #[.bool mk,.int .i64 ty,.int .i64 n,.int .i64 ti,.int .i64 so,.slice acv cl.length ccv,.bool ex,.int .i64 pr,.string en,.string py,.int .i64 pa] 41)).alloc (.cells #[.bool false,.int .i64 0,.int .i64 0,.int .i64 0,.int .i64 0,.slice none 0 0,.bool false,.int .i64 0,.string ⟨#[]⟩,.string ⟨#[]⟩,.int .i64 0] 41)) mk ex ty n ti so pr pa (.slice acv cl.length ccv) en py):=Bx2.init ..
 have WA:Hid (WnAt C ((w.alloc (.cells #[.bool mk,.int .i64 ty,.int .i64 n,.int .i64 ti,.int .i64 so,.slice acv cl.length ccv,.bool ex,.int .i64 pr,.string en,.string py,.int .i64 pa] 41)).alloc (.cells #[.bool false,.int .i64 0,.int .i64 0,.int .i64 0,.int .i64 0,.slice none 0 0,.bool false,.int .i64 0,.string ⟨#[]⟩,.string ⟨#[]⟩,.int .i64 0] 41)) base wb v x):=(h.below ((Below.refl _ _).alloc (Nat.le_refl _) _)).below ((Below.refl _ _).alloc (Nat.le_refl _) _)
 have U0:Hid (Below w.heap.size w ((w.alloc (.cells #[.bool mk,.int .i64 ty,.int .i64 n,.int .i64 ti,.int .i64 so,.slice acv cl.length ccv,.bool ex,.int .i64 pr,.string en,.string py,.int .i64 pa] 41)).alloc (.cells #[.bool false,.int .i64 0,.int .i64 0,.int .i64 0,.int .i64 0,.slice none 0 0,.bool false,.int .i64 0,.string ⟨#[]⟩,.string ⟨#[]⟩,.int .i64 0] 41))):=((Below.refl _ _).alloc (Nat.le_refl _) _).alloc (by simp) _
 have y0:=h.c0
 have y1:=h.c1
 have y7:=h.c7
 have y9:=h.c9
 have y11:=h.c11
 have yf:=h.fz
 rw[hfi]at y9
 have hne0:wb≠w.heap.size:=by omega
 have hne1:wb≠w.heap.size+1:=by omega
 clear h hC hf0 hf1
 by_cases hbg:x.begun=true
 focus
  rw[hbg]at y1
  have e4:=u16_add n x.shift
  obtain⟨m,hm⟩:∃m,m=(n+x.shift)%65536:=⟨_,rfl⟩
  have hmi:((n:Int)+(x.shift:Int))%65536=(m:Int):=by omega
  have Hm:Hid (numOf x n=m):=by show _=_;unfold numOf shiftOf;rw[hbg,if_pos rfl,hm]
  have Hsh:Hid (shiftOf x n=x.shift):=by show _=_;unfold shiftOf;rw[hbg,if_pos rfl]
  have hml:m<65536:=by rw[hm];exact Nat.mod_lt _ (by decide)
  have hmw:IntKind.i64.wrap (m:Int)=(m:Int):=wrapI64 _ (by omega) (by omega)
  clear hm
  go_enter Tryz.func94,Tryz.ntmps94
  go_wp2
  obtain⟨W0,hW0⟩:∃W0:World,W0=((w.alloc (.cells #[.bool mk,.int .i64 ty,.int .i64 n,.int .i64 ti,.int .i64 so,.slice acv cl.length ccv,.bool ex,.int .i64 pr,.string en,.string py,.int .i64 pa] 41)).alloc (.cells #[.bool false,.int .i64 0,.int .i64 0,.int .i64 0,.int .i64 0,.slice none 0 0,.bool false,.int .i64 0,.string ⟨#[]⟩,.string ⟨#[]⟩,.int .i64 0] 41)):=⟨_,rfl⟩
  rw[<-hW0]
  have HB:Hid (Bx2 w.heap.size W0 mk ex ty n ti so pr pa (.slice acv cl.length ccv) en py):=by show Bx2 _ _ _ _ _ _ _ _ _ _ _ _ _;rw[hW0];exact B0.out
  have HW:Hid (WnAt C W0 base wb v { x with begun:=true,shift:=shiftOf x n }):=by
   show WnAt _ _ _ _ _ _
   rw[hW0,Hsh.out]
   have:=WA.out
   rw[show x={ x with begun:=true } by rw[<-hbg]]at this
   exact this
  have HU:Hid (SdUp w W0 wb v v):=by show SdUp _ _ _ _ _;rw[hW0];exact SdUp.before U0.out (SdUp.refl _ _ _)
  clear hW0 B0 U0 WA y0 y1 y7 y9 y11 yf e4 hmi e1 e2 e3
 rotate_left
 focus
  replace hbg:=Bool.eq_false_iff.2 hbg
  rw[hbg]at y1
  have e4:=u16_add n (stepsTo fi n)
  obtain⟨st,hst⟩:∃st,stepsTo fi n=st:=⟨_,rfl⟩
  rw[hst]at e3 e4 hstl
  obtain⟨m,hm⟩:∃m,m=(n+st)%65536:=⟨_,rfl⟩
  have hmi:((n:Int)+(st:Int))%65536=(m:Int):=by omega
  have Hsh:Hid (shiftOf x n=st):=by show _=_;unfold shiftOf;rw[hbg,if_neg (by simp),hfi,Int.toNat_natCast,<-Hst.out,hst]
  have Hm:Hid (numOf x n=m):=by show _=_;unfold numOf;rw[Hsh.out,hm]
  have hml:m<65536:=by rw[hm];exact Nat.mod_lt _ (by decide)
  have hmw:IntKind.i64.wrap (m:Int)=(m:Int):=wrapI64 _ (by omega) (by omega)
  clear hm hst
  go_enter Tryz.func94,Tryz.ntmps94
  go_wp2
  obtain⟨wS,hwS⟩:∃wS:World,wS=((w.setCell ⟨wb,1,none⟩ (.bool true)).setCell ⟨wb,11,none⟩ (.int .u16 (st:Int))):=⟨_,rfl⟩
  have hsS:wS.heap.size=w.heap.size:=by rw[hwS];simp
  obtain⟨W0,hW0⟩:∃W0:World,W0=((wS.alloc (.cells #[.bool mk,.int .i64 ty,.int .i64 n,.int .i64 ti,.int .i64 so,.slice acv cl.length ccv,.bool ex,.int .i64 pr,.string en,.string py,.int .i64 pa] 41)).alloc (.cells #[.bool false,.int .i64 0,.int .i64 0,.int .i64 0,.int .i64 0,.slice none 0 0,.bool false,.int .i64 0,.string ⟨#[]⟩,.string ⟨#[]⟩,.int .i64 0] 41)):=⟨_,rfl⟩
  rw[<-hwS,<-hW0]
  obtain⟨V1,U1⟩:=H.out.set1 true
  obtain⟨V2,U2⟩:=V1.set11 st
  rw[<-hwS]at V2 U2
  have HB:Hid (Bx2 w.heap.size W0 mk ex ty n ti so pr pa (.slice acv cl.length ccv) en py):=by
   show Bx2 _ _ _ _ _ _ _ _ _ _ _ _ _
   rw[hW0,<-hsS]
   exact Bx2.init ..
  have HW:Hid (WnAt C W0 base wb v { x with begun:=true,shift:=shiftOf x n }):=by
   show WnAt _ _ _ _ _ _
   rw[hW0,Hsh.out]
   exact(V2.below ((Below.refl _ _).alloc (Nat.le_refl _) _)).below ((Below.refl _ _).alloc (Nat.le_refl _) _)
  have HU:Hid (SdUp w W0 wb v v):=by
   have h:=U1.trans U2
   show SdUp _ _ _ _ _
   rw[hW0]
   exact⟨(h.chg.alloc _).alloc _,h.own⟩
  clear hW0 hwS hsS V1 U1 V2 U2 wS B0 U0 WA y0 y1 y7 y9 y11 yf e4 hmi e1 e2 e3
 all_goals
  have hS0:=HW.out.c0
  have hS1:=HW.out.c7
  have g1:=HB.out.q1
  have g2:=HB.out.q2
  have g4:=HB.out.q4
  have gf:=HB.out.f0
  have hnew:wb≠w.heap.size:=hne0
  refine wp_region_noPanic ?_
  refine wp_region_held_drew (S:=fun W=>W.cell? ⟨wb,0,none⟩=some (.int .i64 x.src)/\W.cell? ⟨wb,7,none⟩=some (.int .i64 x.pl.ty)) (by kernel_rfl) ⟨hS0,hS1⟩ (fun zH=>?_)
  refine tka 0 ?_
  refine tka 1 ?_
  refine tka 2 ?_
  refine tka 3 ?_
  refine tka 4 ?_
  refine tka 5 ?_
  refine tka 6 ?_
  refine tka 7 ?_
  refine tka 8 ?_
  refine tka 9 ?_
  refine tka 10 ?_
  refine tka 11 ?_
  refine tka 12 ?_
  refine rd1 13 fun K hK=>?_
  go_simp
  refine hK.out _ _ ⟨(World.cell?_setCell_other _ _ _ _ (fun e=>hnew (by injection e with e _ _;exact e.symm))).trans hS0,(World.cell?_setCell_other _ _ _ _ (fun e=>hnew (by injection e with e _ _;exact e.symm))).trans hS1⟩ (fun zH=>?_)
  clear hK K
  refine tka 14 ?_
  refine rd1 15 fun K hK=>?_
  go_simp
  refine hK.out _ _ ⟨(World.cell?_setCell_other _ _ _ _ (fun e=>hnew (by injection e with e _ _;exact e.symm))).trans zH.1,(World.cell?_setCell_other _ _ _ _ (fun e=>hnew (by injection e with e _ _;exact e.symm))).trans zH.2⟩ (fun zH=>?_)
  clear hK K
  refine tka 16 ?_
  refine rd1 17 fun K hK=>?_
  go_simp
  refine hK.out _ _ ⟨(World.cell?_setCell_other _ _ _ _ (fun e=>hnew (by injection e with e _ _;exact e.symm))).trans zH.1,(World.cell?_setCell_other _ _ _ _ (fun e=>hnew (by injection e with e _ _;exact e.symm))).trans zH.2⟩ (fun zH=>?_)
  clear hK K
  refine doN ?_
  clear hS0 hS1 g1 g2 g4 gf zH
  obtain⟨W1,hW1⟩:∃W1:World,W1=(((W0.setCell ⟨w.heap.size,4,none⟩ (.int .i64 x.src)).setCell ⟨w.heap.size,1,none⟩ (.int .i64 x.pl.ty)).setCell ⟨w.heap.size,2,none⟩ (.int .i64 (m:Int))):=⟨_,rfl⟩
  have hCw:Chg (fun b=>b=w.heap.size) W0 W1:=by
   rw[hW1]
   exact(((Chg.refl (fun b=>b=w.heap.size) _).setCell ⟨w.heap.size,4,none⟩ (.inl rfl) _).setCell ⟨w.heap.size,1,none⟩ (.inl rfl) _).setCell ⟨w.heap.size,2,none⟩ (.inl rfl) _
  have B1:Hid (Bx2 w.heap.size W1.drew mk ex x.pl.ty m ti x.src pr pa (.slice acv cl.length ccv) en py):=by
   have h:=HB.out.set x.pl.ty m x.src
   rw[<-hW1]at h
   exact h.chg (T:=fun _=>False) (Chg.refl _ _).drew (fun e=>e) (fun e=>e)
  have hvb:∀b,v.ownBlock=some b->¬b=w.heap.size:=fun b hb e=>by have:=(H.out.row.lt b hb).2;omega
  have V1:Hid (WnAt C W1.drew base wb v { x with begun:=true,shift:=shiftOf x n }):=HW.out.chg hCw.drew (fun e=>hne0 e) hvb (fun b hb e=>by have:=HC.out b hb;omega)
  have U1:Hid (SdUp w W1.drew wb v v):=⟨HU.out.chg.trans hCw.drew (fun b hb e=>by omega),fun _ h=>.inl h⟩
  rw[<-hW1]
  clear hCw hW1 HB HW HU
  generalize W1.drew=W2 at *
  have C2:Hid (IsC C W2 (.slice acv cl.length ccv) cl):=Hcv.out.chg U1.out.chg (fun b hb e=>by
   rcases e with e|e
   ·exact H.out.n1 (e▸hb)
   ·exact H.out.n2 b e hb)
  have hW2s:w.heap.size<=W2.heap.size:=U1.out.chg.size
  have HC2:Hid (∀b,C b->b<W2.heap.size):=fun b hb=>by have:=HC.out b hb;omega
  obtain⟨q0,q1,q2,q3,q4,q5,q6,q7,q8,q9,q10,z0,z1,z2,z3,z4,z5,z6,z7,z8,z9,z10,qf0,qf1⟩:=B1.out
  go_wp2
  refine wp_region_noPanic ?_
  refine wp_region_held_drew (S:=fun _=>True) (by kernel_rfl) trivial (fun zH=>?_)
  refine tka 0 ?_
  refine tka 1 ?_
  refine tka 2 ?_
  refine tka 3 ?_
  refine rd1 4 fun K hK=>?_
  go_simp
  refine hK.out _ _ trivial (fun zH=>?_)
  clear hK K
  refine tka 5 ?_
  refine rd1 6 fun K hK=>?_
  go_simp
  replace V1:Hid (WnAt C W2.drew base wb v { x with begun:=true,shift:=shiftOf x n }):=V1.out.below (Below.refl _ _).drew
  replace B1:Hid (Bx2 w.heap.size W2.drew mk ex x.pl.ty m ti x.src pr pa (.slice acv cl.length ccv) en py):=B1.out.chg (T:=fun _=>False) (Chg.refl _ _).drew (fun e=>e) (fun e=>e)
  replace U1:Hid (SdUp w W2.drew wb v v):=⟨U1.out.chg.trans (T':=fun _=>False) (Chg.refl _ _).drew (fun _ _ e=>e.elim),fun _ h=>.inl h⟩
  replace C2:Hid (IsC C W2.drew (.slice acv cl.length ccv) cl):=C2.out.chg (T:=fun _=>False) (Chg.refl _ _).drew (fun _ _ e=>e)
  replace HC2:Hid (∀b,C b->b<W2.drew.heap.size):=HC2.out
  replace hW2s:w.heap.size<=W2.drew.heap.size:=hW2s
  generalize W2.drew=W3 at *
  refine(addK_any base wb v x.kept m ⟨mk,ex,x.pl.ty,m,ti,x.src,pr,pa,cl,en,py⟩ (.slice acv cl.length ccv) 0 _ V1.out.c2 V1.out.fz V1.out.ne V1.out.row V1.out.one C2.out.one (by omega) (show base<=W3.heap.size by omega) V1.out.sb).mono ?_
  rintro e w3 ⟨rfl,v3,hU3,hr3⟩
  have hnb:∀b,(b=w.heap.size\/b=w.heap.size+1)->¬(b=wb\/v.ownBlock=some b):=fun b hb e=>by
   rcases e with e|e
   ·omega
   ·have:=(H.out.row.lt b e).2;omega
  have B3:Hid (Bx2 w.heap.size w3 mk ex x.pl.ty m ti x.src pr pa (.slice acv cl.length ccv) en py):=B1.out.chg hU3.chg (hnb _ (.inl rfl)) (hnb _ (.inr rfl))
  have hlz:w.heap.size+1<W3.heap.size:=lt_of_cell B1.out.z0
  have V3:Hid (WnAt C w3 base wb v3 { x with begun:=true,shift:=shiftOf x n,kept:=rmF Kp.n m x.kept++[(⟨m,⟨mk,ex,x.pl.ty,m,ti,x.src,pr,pa,cl,en,py⟩,.slice acv cl.length ccv,0⟩:Kp)] }):=V1.out.upd hU3 hr3 (fun k hk=>by
   rcases List.mem_append.1 hk with hk|hk
   ·exact V1.out.con k (rmF_mem hk)
   ·simp at hk;subst hk;exact C2.out) HC2.out
  have U3:Hid (SdUp w w3 wb v v3):=U1.out.trans (SdUp.ofUpd hU3)
  have own3:Hid (∀b,v3.ownBlock=some b->v.ownBlock=some b\/W3.heap.size<=b):=hU3.own
  have Hkp:Hid (keepsF x ⟨mk,ex,ty,n,ti,so,pr,pa,cl,en,py⟩ (.slice acv cl.length ccv) ring=if ring<(rmF Kp.n m x.kept++[(⟨m,⟨mk,ex,x.pl.ty,m,ti,x.src,pr,pa,cl,en,py⟩,.slice acv cl.length ccv,0⟩:Kp)]).length then(rmF Kp.n m x.kept++[(⟨m,⟨mk,ex,x.pl.ty,m,ti,x.src,pr,pa,cl,en,py⟩,.slice acv cl.length ccv,0⟩:Kp)]).drop 1 else rmF Kp.n m x.kept++[(⟨m,⟨mk,ex,x.pl.ty,m,ti,x.src,pr,pa,cl,en,py⟩,.slice acv cl.length ccv,0⟩:Kp)]):=by
   show _=_
   unfold keepsF passP
   simp only[Int.toNat_natCast,Hm.out]
  have hkl:(rmF Kp.n m x.kept++[(⟨m,⟨mk,ex,x.pl.ty,m,ti,x.src,pr,pa,cl,en,py⟩,.slice acv cl.length ccv,0⟩:Kp)]).length<=90001:=by
   have:=rmF_length Kp.n m x.kept
   simp
   omega
  generalize hKL:rmF Kp.n m x.kept++[(⟨m,⟨mk,ex,x.pl.ty,m,ti,x.src,pr,pa,cl,en,py⟩,.slice acv cl.length ccv,0⟩:Kp)]=KL at *
  obtain⟨a3,c3,rfl⟩:=rowA_shape hr3
  clear hKL hU3 hr3 q0 q1 q2 q3 q4 q5 q6 q7 q8 q9 q10 z0 z1 z2 z3 z4 z5 z6 z7 z8 z9 z10 qf0 qf1
  go_wp2_with fail
  refine hK.out _ _ trivial (fun zH=>?_)
  clear hK K zH
  refine doN ?_
  have y2:=V3.out.c2
  by_cases hgt:ring<KL.length
  ·have hgt':(ring:Int)<KL.length:=by omega
   rw[if_pos hgt]at Hkp
   go_wp2_with fail
   refine(removeFirstK_any base wb _ KL 1 _ V3.out.c2 V3.out.fz V3.out.ne V3.out.row V3.out.one (by omega) (by omega)).mono ?_
   rintro e w4 ⟨rfl,v4,hU4,hr4⟩
   have HC3:∀b,C b->b<w3.heap.size:=fun b hb=>by have:=HC.out b hb;have:=U3.out.chg.size;omega
   have V4:Hid (WnAt C w4 base wb v4 (passW x ⟨mk,ex,ty,n,ti,so,pr,pa,cl,en,py⟩ (.slice acv cl.length ccv) ring)):=by
    show WnAt _ _ _ _ _ _
    unfold passW
    rw[Hkp.out]
    exact V3.out.upd hU4 hr4 (fun k hk=>V3.out.con k (List.mem_of_mem_drop hk)) HC3
   have U4:Hid (SdUp w w4 wb v v4):=U3.out.trans (SdUp.ofUpd hU4)
   have hnb3:∀b,(b=w.heap.size\/b=w.heap.size+1)->¬(b=wb\/(Value.slice a3 KL.length c3).ownBlock=some b):=fun b hb e=>by
    rcases e with e|e
    ·omega
    ·rcases own3.out b e with e|e
     ·exact hnb b hb (.inr e)
     ·omega
   have B4:Hid (Bx2 w.heap.size w4 mk ex x.pl.ty m ti x.src pr pa (.slice acv cl.length ccv) en py):=B3.out.chg hU4.chg (hnb3 _ (.inl rfl)) (hnb3 _ (.inr rfl))
   have hNB:∀b,v4.ownBlock=some b->¬b=w.heap.size+1:=fun b hb e=>by
    rcases hU4.own b hb with e'|e'
    ·exact hnb3 b (.inr e) (.inr e')
    ·have:=U3.out.chg.size;have:=lt_of_cell B3.out.z0;simp only at this;omega
   obtain⟨a4,c4,rfl⟩:=rowA_shape hr4
   clear hU4 hr4 hnb3 HC3 y2
   obtain⟨q0,q1,q2,q3,q4,q5,q6,q7,q8,q9,q10,z0,z1,z2,z3,z4,z5,z6,z7,z8,z9,z10,qf0,qf1⟩:=B4.out
   have hcF:Chg (fun b=>b=w.heap.size+1) w4 (((((((((((w4.setCell ⟨w.heap.size+1,0,none⟩ (.bool mk)).setCell ⟨w.heap.size+1,1,none⟩ (.int .i64 x.pl.ty)).setCell ⟨w.heap.size+1,2,none⟩ (.int .i64 m)).setCell ⟨w.heap.size+1,3,none⟩ (.int .i64 ti)).setCell ⟨w.heap.size+1,4,none⟩ (.int .i64 x.src)).setCell ⟨w.heap.size+1,5,none⟩ (.slice acv cl.length ccv)).setCell ⟨w.heap.size+1,6,none⟩ (.bool ex)).setCell ⟨w.heap.size+1,7,none⟩ (.int .i64 pr)).setCell ⟨w.heap.size+1,8,none⟩ (.string en)).setCell ⟨w.heap.size+1,9,none⟩ (.string py)).setCell ⟨w.heap.size+1,10,none⟩ (.int .i64 pa)):=((((((((((((Chg.refl (fun b=>b=w.heap.size+1) _).setCell ⟨w.heap.size+1,0,none⟩ (.inl rfl) _).setCell ⟨w.heap.size+1,1,none⟩ (.inl rfl) _).setCell ⟨w.heap.size+1,2,none⟩ (.inl rfl) _).setCell ⟨w.heap.size+1,3,none⟩ (.inl rfl) _).setCell ⟨w.heap.size+1,4,none⟩ (.inl rfl) _).setCell ⟨w.heap.size+1,5,none⟩ (.inl rfl) _).setCell ⟨w.heap.size+1,6,none⟩ (.inl rfl) _).setCell ⟨w.heap.size+1,7,none⟩ (.inl rfl) _).setCell ⟨w.heap.size+1,8,none⟩ (.inl rfl) _).setCell ⟨w.heap.size+1,9,none⟩ (.inl rfl) _).setCell ⟨w.heap.size+1,10,none⟩ (.inl rfl) _)
   have FV:Hid (WnAt C (((((((((((w4.setCell ⟨w.heap.size+1,0,none⟩ (.bool mk)).setCell ⟨w.heap.size+1,1,none⟩ (.int .i64 x.pl.ty)).setCell ⟨w.heap.size+1,2,none⟩ (.int .i64 m)).setCell ⟨w.heap.size+1,3,none⟩ (.int .i64 ti)).setCell ⟨w.heap.size+1,4,none⟩ (.int .i64 x.src)).setCell ⟨w.heap.size+1,5,none⟩ (.slice acv cl.length ccv)).setCell ⟨w.heap.size+1,6,none⟩ (.bool ex)).setCell ⟨w.heap.size+1,7,none⟩ (.int .i64 pr)).setCell ⟨w.heap.size+1,8,none⟩ (.string en)).setCell ⟨w.heap.size+1,9,none⟩ (.string py)).setCell ⟨w.heap.size+1,10,none⟩ (.int .i64 pa)) base wb _ (passW x ⟨mk,ex,ty,n,ti,so,pr,pa,cl,en,py⟩ (.slice acv cl.length ccv) ring)):=V4.out.chg hcF (fun e=>hne1 e) (fun b hb e=>by
    rcases U4.out.own b hb with e'|e'
    ·have:=(H.out.row.lt b e').2;omega
    ·have:=V4.out.row.lt b hb;exact hNB b hb e) (fun b hb e=>by have:=HC.out b hb;omega)
   have FU:Hid (SdUp w (((((((((((w4.setCell ⟨w.heap.size+1,0,none⟩ (.bool mk)).setCell ⟨w.heap.size+1,1,none⟩ (.int .i64 x.pl.ty)).setCell ⟨w.heap.size+1,2,none⟩ (.int .i64 m)).setCell ⟨w.heap.size+1,3,none⟩ (.int .i64 ti)).setCell ⟨w.heap.size+1,4,none⟩ (.int .i64 x.src)).setCell ⟨w.heap.size+1,5,none⟩ (.slice acv cl.length ccv)).setCell ⟨w.heap.size+1,6,none⟩ (.bool ex)).setCell ⟨w.heap.size+1,7,none⟩ (.int .i64 pr)).setCell ⟨w.heap.size+1,8,none⟩ (.string en)).setCell ⟨w.heap.size+1,9,none⟩ (.string py)).setCell ⟨w.heap.size+1,10,none⟩ (.int .i64 pa)) wb v _):=⟨U4.out.chg.trans hcF (fun b hb e=>by omega),U4.out.own⟩
   clear hcF
   go_wp2
   rw[Hm.out]
   refine bodyPost_ret (v:=.agg #[.bool mk,.int .i64 x.pl.ty,.int .i64 m,.int .i64 ti,.int .i64 x.src,.slice acv cl.length ccv,.bool ex,.int .i64 pr,.string en,.string py,.int .i64 pa]) (by simp[results,Tryz.results94,go_sem,z0,z1,z2,z3,z4,z5,z6,z7,z8,z9,z10]) rfl ⟨rfl,_,FV.out,FU.out⟩
  ·have hgt':¬(ring:Int)<KL.length:=by omega
   rw[if_neg hgt]at Hkp
   have V4:Hid (WnAt C w3 base wb (.slice a3 KL.length c3) (passW x ⟨mk,ex,ty,n,ti,so,pr,pa,cl,en,py⟩ (.slice acv cl.length ccv) ring)):=by
    show WnAt _ _ _ _ _ _
    unfold passW
    rw[Hkp.out]
    exact V3.out
   have hNB:∀b,(Value.slice a3 KL.length c3).ownBlock=some b->¬b=w.heap.size+1:=fun b hb e=>by
    rcases own3.out b hb with e'|e'
    ·exact hnb b (.inr e) (.inr e')
    ·omega
   obtain⟨q0,q1,q2,q3,q4,q5,q6,q7,q8,q9,q10,z0,z1,z2,z3,z4,z5,z6,z7,z8,z9,z10,qf0,qf1⟩:=B3.out
   have hcF:Chg (fun b=>b=w.heap.size+1) w3 (((((((((((w3.setCell ⟨w.heap.size+1,0,none⟩ (.bool mk)).setCell ⟨w.heap.size+1,1,none⟩ (.int .i64 x.pl.ty)).setCell ⟨w.heap.size+1,2,none⟩ (.int .i64 m)).setCell ⟨w.heap.size+1,3,none⟩ (.int .i64 ti)).setCell ⟨w.heap.size+1,4,none⟩ (.int .i64 x.src)).setCell ⟨w.heap.size+1,5,none⟩ (.slice acv cl.length ccv)).setCell ⟨w.heap.size+1,6,none⟩ (.bool ex)).setCell ⟨w.heap.size+1,7,none⟩ (.int .i64 pr)).setCell ⟨w.heap.size+1,8,none⟩ (.string en)).setCell ⟨w.heap.size+1,9,none⟩ (.string py)).setCell ⟨w.heap.size+1,10,none⟩ (.int .i64 pa)):=((((((((((((Chg.refl (fun b=>b=w.heap.size+1) _).setCell ⟨w.heap.size+1,0,none⟩ (.inl rfl) _).setCell ⟨w.heap.size+1,1,none⟩ (.inl rfl) _).setCell ⟨w.heap.size+1,2,none⟩ (.inl rfl) _).setCell ⟨w.heap.size+1,3,none⟩ (.inl rfl) _).setCell ⟨w.heap.size+1,4,none⟩ (.inl rfl) _).setCell ⟨w.heap.size+1,5,none⟩ (.inl rfl) _).setCell ⟨w.heap.size+1,6,none⟩ (.inl rfl) _).setCell ⟨w.heap.size+1,7,none⟩ (.inl rfl) _).setCell ⟨w.heap.size+1,8,none⟩ (.inl rfl) _).setCell ⟨w.heap.size+1,9,none⟩ (.inl rfl) _).setCell ⟨w.heap.size+1,10,none⟩ (.inl rfl) _)
   have FV:Hid (WnAt C (((((((((((w3.setCell ⟨w.heap.size+1,0,none⟩ (.bool mk)).setCell ⟨w.heap.size+1,1,none⟩ (.int .i64 x.pl.ty)).setCell ⟨w.heap.size+1,2,none⟩ (.int .i64 m)).setCell ⟨w.heap.size+1,3,none⟩ (.int .i64 ti)).setCell ⟨w.heap.size+1,4,none⟩ (.int .i64 x.src)).setCell ⟨w.heap.size+1,5,none⟩ (.slice acv cl.length ccv)).setCell ⟨w.heap.size+1,6,none⟩ (.bool ex)).setCell ⟨w.heap.size+1,7,none⟩ (.int .i64 pr)).setCell ⟨w.heap.size+1,8,none⟩ (.string en)).setCell ⟨w.heap.size+1,9,none⟩ (.string py)).setCell ⟨w.heap.size+1,10,none⟩ (.int .i64 pa)) base wb (.slice a3 KL.length c3) (passW x ⟨mk,ex,ty,n,ti,so,pr,pa,cl,en,py⟩ (.slice acv cl.length ccv) ring)):=V4.out.chg hcF (fun e=>hne1 e) (fun b hb e=>by
    rcases U3.out.own b hb with e'|e'
    ·have:=(H.out.row.lt b e').2;omega
    ·have:=V4.out.row.lt b hb;exact hNB b hb e) (fun b hb e=>by have:=HC.out b hb;omega)
   have FU:Hid (SdUp w (((((((((((w3.setCell ⟨w.heap.size+1,0,none⟩ (.bool mk)).setCell ⟨w.heap.size+1,1,none⟩ (.int .i64 x.pl.ty)).setCell ⟨w.heap.size+1,2,none⟩ (.int .i64 m)).setCell ⟨w.heap.size+1,3,none⟩ (.int .i64 ti)).setCell ⟨w.heap.size+1,4,none⟩ (.int .i64 x.src)).setCell ⟨w.heap.size+1,5,none⟩ (.slice acv cl.length ccv)).setCell ⟨w.heap.size+1,6,none⟩ (.bool ex)).setCell ⟨w.heap.size+1,7,none⟩ (.int .i64 pr)).setCell ⟨w.heap.size+1,8,none⟩ (.string en)).setCell ⟨w.heap.size+1,9,none⟩ (.string py)).setCell ⟨w.heap.size+1,10,none⟩ (.int .i64 pa)) wb v (.slice a3 KL.length c3)):=⟨U3.out.chg.trans hcF (fun b hb e=>by omega),U3.out.own⟩
   clear hcF
   go_wp2
   rw[Hm.out]
   refine bodyPost_ret (v:=.agg #[.bool mk,.int .i64 x.pl.ty,.int .i64 m,.int .i64 ti,.int .i64 x.src,.slice acv cl.length ccv,.bool ex,.int .i64 pr,.string en,.string py,.int .i64 pa]) (by simp[results,Tryz.results94,go_sem,z0,z1,z2,z3,z4,z5,z6,z7,z8,z9,z10]) rfl ⟨rfl,_,FV.out,FU.out⟩
end Go.Proofs.YtdjhhnolcafkiaaGreat
