import Derived.Test.YtdjhhnolcafkiaaGreatG01
import Derived.Laws.BitsAllLaws
import Derived.Deep.RegionHeld
import Derived.Deep.RegionHeld3
set_option linter.unusedVariables false
set_option linter.unusedSimpArgs false
set_option maxHeartbeats 40000000
set_option maxRecDepth 20000
namespace Go.Proofs.YtdjhhnolcafkiaaGreat
open Go.RowKit Pk
theorem addNumber_any (base g n cap:Nat) (l:List UInt8) (x:Nat) (k:Nat) (w:World) (_hx:x<4294967296) (hk:k<=4) (hroom:n+k<=cap) (hB:Buf w base g n cap l) :
  Calls Tryz.prog 124 #[.slice (some ⟨g,0,none⟩) n cap,.int .i64 x,.int .i64 k] w fun e w'=>
   e = .returned (.slice (some ⟨g,0,none⟩) (n+k) cap)/\Buf w' base g (n+k) cap (l++told x k)/\w.grownBy w' (some g):=by
 go_enter Tryz.func124,Tryz.ntmps124
 go_wp2
 go_loopw [0,9] (fun v i wr=>∃j:Nat,j<=k/\i = .int .i64 j/\v = .slice (some ⟨g,0,none⟩) (n+j) cap/\Buf wr base g (n+j) cap (l++(told x k).take j)/\w.grownBy wr (some g)) (fun _ i _=>k-(intOf i).toNat)
 case atStart=>exact⟨0,Nat.zero_le _,rfl,rfl,by simpa using hB,World.grownBy.refl _ _⟩
 case round=>
  obtain⟨j,hj,rfl,rfl,hBr,hgr⟩:=hrel
  by_cases hlt:j<k
  ·have hb:=byte_at x (k-1-j)
   have Hb:Hid ((x:Int)/2 ^ (8*(k-1-j))%256=((UInt8.ofNat (x/256 ^ (k-1-j)%256)).toNat:Int)):=hb
   clear hb
   go_wp2_with (at_builtin;refine wl_bytes rfl (.tmp 12) (.tmp 21) rfl rfl (hBr.alloc _) _ 1 1 [UInt8.ofNat (x/256 ^ (k-1-j)%256)] rfl rfl (new_one _ _ rfl _ _ _ (congrArg (Value.int .u8) Hb.out)) (by omega) ?_;intro w1 hB1 hg1)
   have R:=hg1
   go_roundw
   case rel=>exact⟨j+1,by omega,by go_num,rfl,by rw[told_take x k j hlt,<-List.append_assoc];exact hB1,grown_trans hgr (grown_trans (World.grownBy_alloc _ _ _) hg1)⟩
   case measure=>simp[intOf];omega
  ·go_wp2
   go_ret
   have e:j=k:=by omega
   subst e
   refine⟨rfl,?_,hgr⟩
   rw[List.take_of_length_le (by rw[told_length];exact Nat.le_refl _)]at hBr
   exact hBr
theorem addNumber_int (base g n cap:Nat) (l:List UInt8) (x:Int) (k:Nat) (w:World) (hx0:0<=x) (hx:x<4294967296) (hk:k<=4) (hroom:n+k<=cap) (hB:Buf w base g n cap l) :
  Calls Tryz.prog 124 #[.slice (some ⟨g,0,none⟩) n cap,.int .i64 x,.int .i64 k] w fun e w'=>
   e = .returned (.slice (some ⟨g,0,none⟩) (n+k) cap)/\Buf w' base g (n+k) cap (l++told x.toNat k)/\w.grownBy w' (some g):=by
 obtain⟨q,rfl⟩:=Int.eq_ofNat_of_zero_le hx0
 rw[Int.toNat_natCast]
 exact addNumber_any base g n cap l q k w (by omega) hk hroom hB
theorem addPadding_any (base g n cap:Nat) (l:List UInt8) (p:Nat) (w:World) (hp:p<=255) (hroom:n+p<=cap) (hB:Buf w base g n cap l) :
  Calls Tryz.prog 113 #[.slice (some ⟨g,0,none⟩) n cap,.int .i64 p] w fun e w'=>
   e = .returned (.slice (some ⟨g,0,none⟩) (n+p) cap)/\Buf w' base g (n+p) cap (l++padB p)/\w.grownBy w' (some g):=by
 by_cases h0:p=0
 ·subst h0
  go_enter Tryz.func113,Tryz.ntmps113
  go_wp2
  go_ret
  exact⟨rfl,by simpa[padB]using hB,World.grownBy.refl _ _⟩
 ·obtain⟨m,hm⟩:∃m,p=m+1:=⟨p-1,by omega⟩
  subst hm
  have Hp:Hid (padB (m+1)=List.replicate m 0++[UInt8.ofNat (m+1)]):=by show _=_;simp[padB]
  have hne:(((m+1:Nat):Int) == 0)=false:=by simp;omega
  have Hb:Hid (((m:Int)+1)=((UInt8.ofNat (m+1)).toNat:Int)):=by
   show _=_
   rw[UInt8.toNat_ofNat'];omega
  clear h0
  go_enter Tryz.func113,Tryz.ntmps113
  go_wp2_with (first
   | (at_builtin;refine wl_zeros rfl (.tmp 8) (.tmp 10) rfl rfl hB _ m ?_ (by omega) rfl (by omega) ?_;(first|rfl|omega);intro w1 hB1 hg1)
   | (at_builtin;refine wl_bytes rfl (.tmp 12) (.tmp 15) rfl rfl (hB1.alloc _) _ 1 1 [UInt8.ofNat (m+1)] rfl rfl (new_one _ _ rfl _ _ _ (congrArg (Value.int .u8) Hb.out)) (by omega) ?_;intro w2 hB2 hg2))
  go_ret
  refine⟨rfl,?_,grown_trans hg1 (grown_trans (World.grownBy_alloc _ _ _) hg2)⟩
  rw[Hp.out,<-List.append_assoc]
  exact hB2
theorem addExtension_any (base g n cap:Nat) (l:List UInt8) (mk ex:Bool) (ty nu ti so pa:Int) (pr:Nat) (cv:Value) (en py:ByteArray) (w:World)
  (hpr:pr<65536) (hen:en.size<=2000) (hroom:n+(if ex then 4+en.size else 0)<=cap) (hB:Buf w base g n cap l) :
  Calls Tryz.prog 112 #[.slice (some ⟨g,0,none⟩) n cap,.agg #[.bool mk,.int .i64 ty,.int .i64 nu,.int .i64 ti,.int .i64 so,cv,.bool ex,.int .i64 pr,.string en,.string py,.int .i64 pa]] w fun e w'=>
   e = .returned (.slice (some ⟨g,0,none⟩) (n+(if ex then 4+en.size else 0)) cap)/\Buf w' base g (n+(if ex then 4+en.size else 0)) cap (l++extB ex pr en.data.toList)/\w.grownBy w' (some g):=by
 cases ex
 ·go_enter Tryz.func112,Tryz.ntmps112
  go_wp2
  go_ret
  exact⟨rfl,by simpa[extB]using hB.alloc _,World.grownBy_alloc _ _ _⟩
 ·have hroom':n+4+en.size<=cap:=by simpa[Nat.add_assoc]using hroom
  have hne:w.heap.size≠g:=by have:=hB.lt;omega
  clear hroom
  have Hx:Hid (extB true pr en.data.toList=told pr 2++told (en.size/4) 2++en.data.toList):=by show _=_;rw[Lib.size_eq];rfl
  go_enter Tryz.func112,Tryz.ntmps112
  go_wp2_with fail
  refine(addNumber_any base g n cap l pr 2 _ (by omega) (by omega) (by omega) (hB.alloc _)).mono ?_
  rintro e w1 ⟨rfl,hB1,hg1⟩
  have hc1:∀o,w1.cell? ⟨w.heap.size,o,none⟩=_:=fun o=>World.cell?_of_block (a:=⟨w.heap.size,o,none⟩) (hg1.block w.heap.size (by simp) (by simpa using hne))
  go_wp2_with fail
  refine(addNumber_int base g (n+2) cap _ _ 2 _ (by omega) (by omega) (by omega) (by omega) hB1).mono ?_
  rintro e w2 ⟨rfl,hB2,hg2⟩
  have hc2:∀o,w2.cell? ⟨w.heap.size,o,none⟩=w1.cell? ⟨w.heap.size,o,none⟩:=fun o=>World.cell?_of_block (a:=⟨w.heap.size,o,none⟩) (hg2.block w.heap.size (by have:=hg1.size;simp at this;omega) (by simpa using hne))
  go_wp2_with (at_builtin;refine wl_string rfl (.tmp 19) (.tmp 21) rfl rfl hB2 en rfl (by omega) ?_;intro w3 hB3 hg3)
  go_ret
  refine⟨?_,?_,grown_trans (World.grownBy_alloc _ _ _) (grown_trans hg1 (grown_trans hg2 hg3))⟩
  ·simp[Nat.add_assoc]
  ·have e:(((en.size:Int)/4).toNat)=en.size/4:=by omega
   rw[e]at hB3
   rw[Hx.out]
   simpa[Nat.add_assoc,List.append_assoc]using hB3
theorem box_kept {w w':World}{g:Nat}(h:w.grownBy w' (some g)) (b:Nat) (hb:b<w.heap.size) (hne:b≠g):∀o,w'.cell? ⟨b,o,none⟩=w.cell? ⟨b,o,none⟩:=
 fun o=>World.cell?_of_block (a:=⟨b,o,none⟩) (h.block b hb (by simpa using hne))
theorem addHead_any (base g n cap:Nat) (l:List UInt8) (mk ex pd:Bool) (ty nu ti so pa:Nat) (pr:Int) (cv:Value) (cl:List Int) (en py:ByteArray) (w:World)
  (hty:ty<=127) (hnu:nu<=65535) (hti:ti<=4294967295) (hso:so<=4294967295) (hcl:cl.length<=15) (hci:allIn cl 4294967295=true) (hv:IsInts base w cv cl)
  (hroom:n+(12+4*cl.length)<=cap) (hpd0:pd=decide (0<pa)) (hB:Buf w base g n cap l) :
  Calls Tryz.prog 111 #[.slice (some ⟨g,0,none⟩) n cap,.agg #[.bool mk,.int .i64 ty,.int .i64 nu,.int .i64 ti,.int .i64 so,cv,.bool ex,.int .i64 pr,.string en,.string py,.int .i64 pa]] w fun e w'=>
   e = .returned (.slice (some ⟨g,0,none⟩) (n+(12+4*cl.length)) cap)/\Buf w' base g (n+(12+4*cl.length)) cap (l++headB cl.length mk pd ex ty nu ti so++conB cl)/\w.grownBy w' (some g):=by
 have hne:w.heap.size≠g:=by have:=hB.lt;omega
 have hbg:base<=g:=hB.at.2.1
 have hBw:base<=w.heap.size:=by have:=hB.lt;omega
 obtain⟨ao,cap2,rfl,hc⟩:=hv
 have Hc:Hid (∀j,j<cl.length->∃b off,ao=some ⟨b,off,none⟩/\b<base/\w.cell? ⟨b,off+j,none⟩=some (.int .i64 (cl.getD j 0))):=hc
 have Hi:Hid (allIn cl 4294967295=true):=hci
 have HB:Hid (Buf w base g n cap l):=hB
 clear hc hci
 have e1:=or_n cl.length hcl
 have e2:=or_32 cl.length hcl
 have e3:=or_16 cl.length hcl
 have e4:=or_48 cl.length hcl
 have e5:=or_128 ty hty
 clear hB
 have hcase:(pd=true/\0<pa)\/(pd=false/\pa=0):=by
  cases pd
  ·exact .inr ⟨rfl,by have:=of_decide_eq_false hpd0.symm;omega⟩
  ·exact .inl ⟨rfl,of_decide_eq_true hpd0.symm⟩
 clear hpd0
 rcases Bool.eq_false_or_eq_true ex with hex|hex<;>rcases Bool.eq_false_or_eq_true mk with hmk|hmk<;>rcases hcase with⟨hpd,hpa⟩|⟨hpd,hpa⟩
 all_goals
  go_enter Tryz.func111,Tryz.ntmps111
  go_wp2_with (at_builtin;refine wl_bytes rfl (.tmp 28) (.tmp 33) rfl rfl (HB.out.alloc _ |>.alloc _) _ 2 2 [hdB cl.length pd ex,tyB ty mk] rfl rfl (new_two _ _ (by simp) _ _ _ _ _ ?_ ?_) (by omega) ?_;exact hd_val (pad:=pd) (ex:=ex) hcl (by simp[hpd,hex]<;>omega);exact ty_val (mk:=mk) hty (by simp[hmk]);intro w1 hB1 hg1;have hc1:=box_kept (g:=g) (grown_trans (World.grownBy_alloc _ _ _) hg1) w.heap.size (by simp) hne;clear e1 e2 e3 e4 e5)
  have hs1:w.heap.size<w1.heap.size:=by have:=hg1.size;simp at this;omega
  refine(addNumber_any base g (n+2) cap _ nu 2 _ (by omega) (by omega) (by omega) hB1).mono ?_
  rintro e w2 ⟨rfl,hB2,hg2⟩
  have hs2:w.heap.size<w2.heap.size:=Nat.lt_of_lt_of_le hs1 hg2.size
  have hc2:=box_kept hg2 w.heap.size hs1 hne
  go_wp2_with fail
  refine(addNumber_any base g (n+2+2) cap _ ti 4 _ (by omega) (by omega) (by omega) hB2).mono ?_
  rintro e w3 ⟨rfl,hB3,hg3⟩
  have hs3:w.heap.size<w3.heap.size:=Nat.lt_of_lt_of_le hs2 hg3.size
  have hc3:=box_kept hg3 w.heap.size hs2 hne
  go_wp2_with fail
  refine(addNumber_any base g (n+2+2+4) cap _ so 4 _ (by omega) (by omega) (by omega) hB3).mono ?_
  rintro e w4 ⟨rfl,hB4,hg4⟩
  have hc4:=box_kept hg4 w.heap.size hs3 hne
  have hg:w.grownBy w4 (some g):=grown_trans (World.grownBy_alloc _ _ _) (grown_trans (World.grownBy_alloc _ _ _) (grown_trans hg1 (grown_trans hg2 (grown_trans hg3 hg4))))
  have HB4:Hid (Buf w4 base g (n+12+4*0) cap (l++headB cl.length mk pd ex ty nu ti so++conB (cl.take 0))):=by
   have h:=hB4
   simp only[Nat.add_assoc,List.append_assoc]at h
   simpa[Hid,headB,conB,Nat.add_assoc,List.append_assoc]using h
  go_wp2
  clear hc1 hc2 hc3 hc4 hg1 hg2 hg3 hg4 hB1 hB2 hB3 hB4 hs1 hs2 hs3
  go_loopw [0,50] (fun v i wr=>∃j:Nat,j<=cl.length/\i = .int .i64 j/\v = .slice (some ⟨g,0,none⟩) (n+12+4*j) cap/\Buf wr base g (n+12+4*j) cap (l++headB cl.length mk pd ex ty nu ti so++conB (cl.take j))/\w.grownBy wr (some g)) (fun _ i _=>cl.length-(intOf i).toNat)
  case atStart=>exact⟨0,Nat.zero_le _,rfl,rfl,HB4.out,hg⟩
  case round=>
   obtain⟨j,hj,rfl,rfl,hBr,hgr⟩:=hrel
   by_cases hlt:j<cl.length
   ·obtain⟨b,off,rfl,hb,hcell⟩:=Hc.out j hlt
    have hcr:wr.cell? ⟨b,off+j,none⟩=some (.int .i64 (cl.getD j 0)):=(box_kept hgr b (by omega) (by omega) (off+j)).trans hcell
    clear hcell
    have Hq:=allIn_at cl j _ hlt Hi.out
    have Ht:Hid (conB (cl.take (j+1))=conB (cl.take j)++told (cl.getD j 0).toNat 4):=conB_take cl j hlt
    generalize cl.getD j 0=q at *
    go_wp2_with fail
    refine(addNumber_int base g (n+12+4*j) cap _ q 4 _ (by omega) (by omega) (by omega) (by omega) hBr).mono ?_
    rintro e w5 ⟨rfl,hB5,hg5⟩
    go_wp2
    go_roundw
    case rel=>exact⟨j+1,by omega,by go_num,rfl,by rw[Ht.out,<-List.append_assoc];exact hB5,grown_trans hgr hg5⟩
    case measure=>simp[intOf];omega
   ·have e:j=cl.length:=by omega
    subst e
    go_wp2
    go_ret
    rw[List.take_length]at hBr
    exact⟨ret_slice (by omega),by rw[<-Nat.add_assoc];exact hBr,hgr⟩
theorem box_below {w w':World}{B:Nat}(h:Below B w w') (b:Nat) (hb:b<B):∀o,w'.cell? ⟨b,o,none⟩=w.cell? ⟨b,o,none⟩:=
 fun o=>h.cell (p:=⟨b,o,none⟩) hb
theorem ret_two {a b:ByteArray}{x y:Int}(h:a=b) (k:x=y):Ending.returned (.tuple #[.string a,.int .i64 x]) = .returned (.tuple #[.string b,.int .i64 y]):=by rw[h,k]
theorem packetLength_p (mk ex:Bool) (ty nu ti so pr pa:Int) (ao:Option Addr) (cl:List Int) (cap:Nat) (en py:ByteArray) (w:World) (hen:en.size<=140737488355328) (hpy:py.size<=140737488355328) (hn:cl.length<=15) (hp0:0<=pa) (hp1:pa<=255) :
  Calls Tryz.prog 110 #[.agg #[.bool mk,.int .i64 ty,.int .i64 nu,.int .i64 ti,.int .i64 so,.slice ao cl.length cap,.bool ex,.int .i64 pr,.string en,.string py,.int .i64 pa]] w
   fun e w'=>e = .returned (.int .i64 (plen ex cl en py pa))/\Below w.heap.size w w':=by
 refine(packetLength_any mk ex ty nu ti so pr pa ao cl.length cap en py w hen hpy hn hp0 hp1).mono ?_
 rintro e w' ⟨rfl,h⟩
 refine⟨ret_int ?_,h⟩
 unfold plen
 cases ex<;>simp
theorem box_grown_none {w w':World}(h:w.grownBy w' none) (b:Nat) (hb:b<w.heap.size):∀o,w'.cell? ⟨b,o,none⟩=w.cell? ⟨b,o,none⟩:=
 fun o=>World.cell?_of_block (a:=⟨b,o,none⟩) (h.block b hb (by simp))
theorem extOk_pr {ex:Bool}{pr:Int}{en:ByteArray}(h:extOk ex pr en=true):0<=pr/\pr<=65535:=by
 cases ex
 ·rw[extOk_no,Bool.and_eq_true,decide_eq_true_eq]at h;omega
 ·rw[extOk_yes,Bool.and_eq_true,decide_eq_true_eq]at h;exact h.1
theorem extOk_en {ex:Bool}{pr:Int}{en:ByteArray}(h:extOk ex pr en=true):ex=false->en.size=0:=by
 intro e
 subst e
 rw[extOk_no,Bool.and_eq_true,decide_eq_true_eq,decide_eq_true_eq]at h;exact h.2
theorem write_refused (mk ex:Bool) (ty nu ti so pr pa:Int) (cv:Value) (cl:List Int) (en py:ByteArray) (w:World) (B:Nat) (hBw:B<=w.heap.size) (hv:IsInts B w cv cl) (hl:cl.length<=17592186044416)
  (hen:en.size<=maxLen) (hno:tellOk ex ty nu ti so pr pa cl en=false) :
  Calls Tryz.prog 93 #[.agg #[.bool mk,.int .i64 ty,.int .i64 nu,.int .i64 ti,.int .i64 so,cv,.bool ex,.int .i64 pr,.string en,.string py,.int .i64 pa]] w
   fun e w'=>e = .returned (.tuple #[.string ⟨#[]⟩,.int .i64 2])/\Below w.heap.size w w':=by
 have hvo:∀o,IsInts B (w.alloc o) cv cl:=fun o=>hv.alloc hBw o
 have Hv:Hid (∀o,IsInts B (w.alloc o) cv cl):=hvo
 clear hvo
 obtain⟨ao,cap,rfl,_⟩:=hv
 have Hno:Hid ((headOk ty nu ti so cl && extOk ex pr en && decide (0<=pa/\pa<=255))=false):=hno
 clear hno
 go_enter Tryz.func93,Tryz.ntmps93
 go_wp2_with fail
 refine(headFits_any mk ex ty nu ti so pr pa _ cl en py _ B (by simp;omega) (Hv.out _) hl).mono ?_
 rintro e w1 ⟨rfl,hb1⟩
 have hc1:=box_below hb1 w.heap.size (by simp)
 have hw1:w.heap.size<w1.heap.size:=by have:=hb1.size;simp at this;omega
 have Hb1:Hid (Below w.heap.size w w1):=((Below.refl _ _).alloc (Nat.le_refl _) _).trans (hb1.mono (by simp))
 cases hh:headOk ty nu ti so cl with
 | false=>
  go_wp2
  go_ret2
  exact⟨rfl,Hb1.out⟩
 | true=>
  have Hh:Hid (headOk ty nu ti so cl=true):=hh
  clear hh
  go_wp2_with fail
  refine(extensionFits_any mk ex ty nu ti so pr pa _ en py _ hen).mono ?_
  rintro e w2 ⟨rfl,hb2⟩
  have hc2:=box_below hb2 w.heap.size hw1
  have Hb2:Hid (Below w.heap.size w w2):=Hb1.out.trans (hb2.mono (Nat.le_of_lt hw1))
  cases hx:extOk ex pr en with
  | false=>
   go_wp2
   go_ret2
   exact⟨rfl,Hb2.out⟩
  | true=>
   have hpa:¬(0<=pa/\pa<=255):=by
    have h:=Hno.out
    rw[Hh.out,hx]at h
    simpa using h
   have Hd:Hid (decide (0<=pa/\pa<=255)=false):=decide_eq_false hpa
   clear hx hpa
   go_wp2_with fail
   refine(within_any _ _ _).mono ?_
   rintro e w3 ⟨rfl,rfl⟩
   rw[Hd.out]
   go_wp2
   go_ret2
   exact⟨rfl,Hb2.out⟩
theorem write_long (mk ex:Bool) (ty nu ti so pr pa:Int) (cv:Value) (cl:List Int) (en py:ByteArray) (w:World) (B:Nat) (hBw:B<=w.heap.size) (hv:IsInts B w cv cl) (hl:cl.length<=17592186044416)
  (hen:en.size<=140737488355328) (hpy:py.size<=140737488355328) (hok:tellOk ex ty nu ti so pr pa cl en=true) (hlen:1500<plen ex cl en py pa) :
  Calls Tryz.prog 93 #[.agg #[.bool mk,.int .i64 ty,.int .i64 nu,.int .i64 ti,.int .i64 so,cv,.bool ex,.int .i64 pr,.string en,.string py,.int .i64 pa]] w
   fun e w'=>e = .returned (.tuple #[.string ⟨#[]⟩,.int .i64 1])/\Below w.heap.size w w':=by
 have hvo:∀o,IsInts B (w.alloc o) cv cl:=fun o=>hv.alloc hBw o
 have Hv:Hid (∀o,IsInts B (w.alloc o) cv cl):=hvo
 clear hvo
 obtain⟨ao,cap,rfl,_⟩:=hv
 simp only[tellOk,Bool.and_eq_true,decide_eq_true_eq]at hok
 obtain⟨⟨hh,hx⟩,hp0,hp1⟩:=hok
 have Hd:Hid (decide (0<=pa/\pa<=255)=true):=decide_eq_true ⟨hp0,hp1⟩
 have Hh:Hid (headOk ty nu ti so cl=true):=hh
 have Hx:Hid (extOk ex pr en=true):=hx
 obtain⟨hty,hnu,hti,hso,hcl,hci⟩:=headOk_of hh
 have Hi:Hid (allIn cl 4294967295=true):=hci
 have Hlen:Hid (1500<plen ex cl en py pa):=hlen
 clear hh hx hci hlen
 go_enter Tryz.func93,Tryz.ntmps93
 go_wp2_with fail
 refine(headFits_any mk ex ty nu ti so pr pa _ cl en py _ B (by simp;omega) (Hv.out _) hl).mono ?_
 rintro e w1 ⟨rfl,hb1⟩
 rw[Hh.out]
 have hc1:=box_below hb1 w.heap.size (by simp)
 have hw1:w.heap.size<w1.heap.size:=by have:=hb1.size;simp at this;omega
 have Hb1:Hid (Below w.heap.size w w1):=((Below.refl _ _).alloc (Nat.le_refl _) _).trans (hb1.mono (by simp))
 go_wp2_with fail
 refine(extensionFits_any mk ex ty nu ti so pr pa _ en py _ (by unfold maxLen;omega)).mono ?_
 rintro e w2 ⟨rfl,hb2⟩
 rw[Hx.out]
 have hc2:=box_below hb2 w.heap.size hw1
 have hw2:w.heap.size<w2.heap.size:=Nat.lt_of_lt_of_le hw1 hb2.size
 have Hb2:Hid (Below w.heap.size w w2):=Hb1.out.trans (hb2.mono (Nat.le_of_lt hw1))
 go_wp2_with fail
 refine(within_any _ _ _).mono ?_
 rintro e w3 ⟨rfl,rfl⟩
 rw[Hd.out]
 go_wp2_with fail
 refine(packetLength_p mk ex ty nu ti so pr pa _ cl _ en py _ hen hpy hcl hp0 hp1).mono ?_
 rintro e w3 ⟨rfl,hb3⟩
 have hc3:=box_below hb3 w.heap.size hw2
 have hw3:w.heap.size<w3.heap.size:=Nat.lt_of_lt_of_le hw2 hb3.size
 have Hb3:Hid (Below w.heap.size w w3):=Hb2.out.trans (hb3.mono (Nat.le_of_lt hw2))
 have hL:=Hlen.out
 generalize plen ex cl en py pa=L at *
 go_wp2
 go_ret2
 exact⟨rfl,Hb3.out⟩
theorem write_ok (mk ex:Bool) (ty nu ti so pr pa:Int) (cv:Value) (cl:List Int) (en py:ByteArray) (w:World) (B:Nat) (hBw:B<=w.heap.size) (hv:IsInts B w cv cl) (hl:cl.length<=17592186044416)
  (hen:en.size<=140737488355328) (hpy:py.size<=140737488355328) (hok:tellOk ex ty nu ti so pr pa cl en=true) (hlen:plen ex cl en py pa<=1500) :
  Calls Tryz.prog 93 #[.agg #[.bool mk,.int .i64 ty,.int .i64 nu,.int .i64 ti,.int .i64 so,cv,.bool ex,.int .i64 pr,.string en,.string py,.int .i64 pa]] w
   fun e w'=>e = .returned (.tuple #[.string ⟨(tellB mk ex ty nu ti so pr pa cl en py).toArray⟩,.int .i64 0])/\Below w.heap.size w w':=by
 have hvo:∀o,IsInts B (w.alloc o) cv cl:=fun o=>hv.alloc hBw o
 have Hv:Hid (∀o,IsInts B (w.alloc o) cv cl):=hvo
 clear hvo
 have Hv0:Hid (IsInts B w cv cl):=hv
 obtain⟨ao,cap,rfl,_⟩:=hv
 simp only[tellOk,Bool.and_eq_true,decide_eq_true_eq]at hok
 obtain⟨⟨hh,hx⟩,hp0,hp1⟩:=hok
 have Hd:Hid (decide (0<=pa/\pa<=255)=true):=decide_eq_true ⟨hp0,hp1⟩
 have Hh:Hid (headOk ty nu ti so cl=true):=hh
 have Hx:Hid (extOk ex pr en=true):=hx
 obtain⟨hty,hnu,hti,hso,hcl,hci⟩:=headOk_of hh
 have Hi:Hid (allIn cl 4294967295=true):=hci
 have hpr:=extOk_pr hx
 have hxl:(if ex then 4+en.size else 0)+(12+4*cl.length)+py.size+pa.toNat<=1500/\en.size<=1500/\py.size<=1500:=by
  unfold plen at hlen
  cases ex
  ·have h2:=extOk_en hx rfl
   simp at hlen ⊢;omega
  ·simp at hlen ⊢;omega
 obtain⟨ty,rfl⟩:=Int.eq_ofNat_of_zero_le hty.1
 obtain⟨nu,rfl⟩:=Int.eq_ofNat_of_zero_le hnu.1
 obtain⟨ti,rfl⟩:=Int.eq_ofNat_of_zero_le hti.1
 obtain⟨so,rfl⟩:=Int.eq_ofNat_of_zero_le hso.1
 obtain⟨pr,rfl⟩:=Int.eq_ofNat_of_zero_le hpr.1
 obtain⟨pa,rfl⟩:=Int.eq_ofNat_of_zero_le hp0
 have Hbytes:Hid (tellB mk ex ty nu ti so pr pa cl en py=headB cl.length mk (decide (0<pa)) ex ty nu ti so++conB cl++extB ex pr en.data.toList++py.data.toList++padB pa):=by
  show _=_
  have e:decide (0<(pa:Int))=decide (0<pa):=by simp
  unfold tellB
  rw[e]
  rfl
 have HL2:Hid ((plen ex cl en py pa).toNat=12+4*cl.length+(if ex then 4+en.size else 0)+py.size+pa):=by
  show _=_
  unfold plen
  cases ex<;>simp<;>omega
 rw[Hbytes.out]
 have Hlen:Hid (plen ex cl en py pa<=1500):=hlen
 clear hh hx hci hlen
 go_enter Tryz.func93,Tryz.ntmps93
 go_wp2_with fail
 refine(headFits_any mk ex _ _ _ _ _ _ _ cl en py _ B (by simp;omega) (Hv.out _) hl).mono ?_
 rintro e w1 ⟨rfl,hb1⟩
 rw[Hh.out]
 have hc1:=box_below hb1 w.heap.size (by simp)
 have hw1:w.heap.size<w1.heap.size:=by have:=hb1.size;simp at this;omega
 have Hb1:Hid (Below w.heap.size w w1):=((Below.refl _ _).alloc (Nat.le_refl _) _).trans (hb1.mono (by simp))
 go_wp2_with fail
 refine(extensionFits_any mk ex _ _ _ _ _ _ _ en py _ (by unfold maxLen;omega)).mono ?_
 rintro e w2 ⟨rfl,hb2⟩
 rw[Hx.out]
 have hc2:=box_below hb2 w.heap.size hw1
 have hw2:w.heap.size<w2.heap.size:=Nat.lt_of_lt_of_le hw1 hb2.size
 have Hb2:Hid (Below w.heap.size w w2):=Hb1.out.trans (hb2.mono (Nat.le_of_lt hw1))
 go_wp2_with fail
 refine(within_any _ _ _).mono ?_
 rintro e w3 ⟨rfl,rfl⟩
 rw[Hd.out]
 go_wp2_with fail
 refine(packetLength_p mk ex _ _ _ _ _ _ _ cl _ en py _ hen hpy hcl hp0 hp1).mono ?_
 rintro e w3 ⟨rfl,hb3⟩
 have hc3:=box_below hb3 w.heap.size hw2
 have hw3:w.heap.size<w3.heap.size:=Nat.lt_of_lt_of_le hw2 hb3.size
 have Hb3:Hid (Below w.heap.size w w3):=Hb2.out.trans (hb3.mono (Nat.le_of_lt hw2))
 have hL:=Hlen.out
 have hL0:12<=plen ex cl en py pa:=by unfold plen;split<;>omega
 obtain⟨L,hLe⟩:∃L:Nat,plen ex cl en py pa=L:=⟨(plen ex cl en py pa).toNat,by omega⟩
 rw[hLe]at hL hL0
 have HLe:Hid (plen ex cl en py pa=L):=hLe
 rw[hLe]
 clear hLe
 have hLn:L=12+4*cl.length+(if ex then 4+en.size else 0)+py.size+pa:=by have h:=HL2.out;rw[HLe.out]at h;simpa using h
 generalize hxe:(if ex then 4+en.size else 0)=xe at *
 have Hxe:Hid ((if ex then 4+en.size else 0)=xe):=hxe
 have HLn:Hid (L=12+4*cl.length+xe+py.size+pa):=hLn
 have hLge:12+4*cl.length+xe+py.size+pa<=L:=Nat.le_of_eq hLn.symm
 clear hxe hLn
 have hinfo:(Tryz.prog.info? 5).map (fun i=>(i.zero,i.size,i.bytes))=some (some (.int .u8 0),1,1):=by kernel_rfl
 obtain⟨i0,hi,hz0,hz1,hz2⟩:=info_parts hinfo
 have Hm:Hid (i0.bytes*L<=281474976710656):=by show _<=_;rw[hz2];omega
 have Hhi:Hid (Tryz.prog.info? 5=some i0/\i0.zero=some (.int .u8 0)/\i0.size=1):=⟨hi,hz0,hz1⟩
 clear hi hz0 hz1 hz2 hinfo
 go_wp2_with (at_make;refine wpList_make_own _ rfl (.const (.int .i64 0)) (.tmp 24) 166 rfl w.heap.size 5 i0 (.int .u8 0) 1 Tryz.underlying166 Hhi.out.1 Hhi.out.2.1 Hhi.out.2.2 .i64 .i64 _ L rfl rfl rfl Hm.out (by unfold maxLen;omega) (Nat.le_of_lt hw3) ?_;intro w4 hown4 hg4;have hc4:=box_grown_none hg4 w.heap.size hw3)
 have HB4:Hid (Buf w4 w.heap.size w3.heap.size 0 L []):=⟨rfl,hown4⟩
 have hw4:w.heap.size<w4.heap.size:=Nat.lt_of_lt_of_le hw3 hg4.size
 have hne:w.heap.size≠w3.heap.size:=by omega
 have Hb4:Hid (Below w.heap.size w w4):=Hb3.out.trans ((Below.refl _ _).grown hg4 (Nat.le_of_lt hw3) (by simp))
 have Hv4:Hid (IsInts w.heap.size w4 (.slice ao cl.length cap) cl):=(Hv0.out.mono hBw).carry Hb4.out
 clear hown4 hg4
 generalize w3.heap.size=g at *
 refine(addHead_any w.heap.size g 0 L [] mk ex (decide (0<pa)) ty nu ti so pa _ _ cl en py _ (by omega) (by omega) (by omega) (by omega) hcl Hi.out Hv4.out (by omega) rfl HB4.out).mono ?_
 rintro e w5 ⟨rfl,hB5,hg5⟩
 have hc5:=box_kept hg5 w.heap.size hw4 hne
 have hw5:w.heap.size<w5.heap.size:=Nat.lt_of_lt_of_le hw4 hg5.size
 have Hb5:Hid (Below w.heap.size w w5):=Hb4.out.trans ((Below.refl _ _).grown hg5 (Nat.le_of_lt hw4) (by intro k hk;cases hk;omega))
 rw[Nat.zero_add]
 rw[Nat.zero_add,List.nil_append]at hB5
 have HB5:Hid (Buf w5 w.heap.size g (12+4*cl.length) L (headB cl.length mk (decide (0<pa)) ex ty nu ti so++conB cl)):=hB5
 clear hB5
 go_wp2_with fail
 refine(addExtension_any w.heap.size g (12+4*cl.length) L _ mk ex _ _ _ _ _ pr _ en py _ (by omega) (by omega) (by rw[Hxe.out];omega) HB5.out).mono ?_
 rw[Hxe.out]
 rintro e w6 ⟨rfl,hB6,hg6⟩
 have hc6:=box_kept hg6 w.heap.size hw5 hne
 have hw6:w.heap.size<w6.heap.size:=Nat.lt_of_lt_of_le hw5 hg6.size
 have Hb6:Hid (Below w.heap.size w w6):=Hb5.out.trans ((Below.refl _ _).grown hg6 (Nat.le_of_lt hw5) (by intro k hk;cases hk;omega))
 clear hg6 hg5
 go_wp2_with (at_builtin;refine wl_string rfl (.tmp 32) (.tmp 34) rfl rfl hB6 py rfl (by omega) ?_;intro w7 hB7 hg7;have hc7:=box_kept hg7 w.heap.size hw6 hne)
 have hw7:w.heap.size<w7.heap.size:=Nat.lt_of_lt_of_le hw6 hg7.size
 have Hb7:Hid (Below w.heap.size w w7):=Hb6.out.trans ((Below.refl _ _).grown hg7 (Nat.le_of_lt hw6) (by intro k hk;cases hk;omega))
 refine(addPadding_any w.heap.size g (12+4*cl.length+xe+py.size) L _ pa _ (by omega) (by omega) hB7).mono ?_
 rintro e w8 ⟨rfl,hB8,hg8⟩
 have Hb8:Hid (Below w.heap.size w w8):=Hb7.out.trans ((Below.refl _ _).grown hg8 (Nat.le_of_lt hw7) (by intro k hk;cases hk;omega))
 have htx:=run_text hB8
 clear hg7 hg8 hB8 hB7 hB6
 go_wp2
 go_ret2
 exact⟨ret_two (by simp only[List.append_assoc]) rfl,Hb8.out⟩
theorem writePacket_any (mk ex:Bool) (ty nu ti so pr pa:Int) (cv:Value) (cl:List Int) (en py:ByteArray) (w:World) (B:Nat) (hBw:B<=w.heap.size) (hv:IsInts B w cv cl) (hl:cl.length<=17592186044416)
  (hen:en.size<=140737488355328) (hpy:py.size<=140737488355328) :
  Calls Tryz.prog 93 #[.agg #[.bool mk,.int .i64 ty,.int .i64 nu,.int .i64 ti,.int .i64 so,cv,.bool ex,.int .i64 pr,.string en,.string py,.int .i64 pa]] w
   fun e w'=>e = .returned (.tuple #[.string (tellR mk ex ty nu ti so pr pa cl en py).1,.int .i64 (tellR mk ex ty nu ti so pr pa cl en py).2])/\Below w.heap.size w w':=by
 unfold tellR
 cases h:tellOk ex ty nu ti so pr pa cl en with
 | false=>
  rw[if_neg (by simp)]
  exact write_refused mk ex ty nu ti so pr pa cv cl en py w B hBw hv hl (by unfold maxLen;omega) h
 | true=>
  rw[if_pos rfl]
  by_cases hL:1500<plen ex cl en py pa
  ·rw[if_pos hL]
   exact write_long mk ex ty nu ti so pr pa cv cl en py w B hBw hv hl hen hpy h hL
  ·rw[if_neg hL]
   exact write_ok mk ex ty nu ti so pr pa cv cl en py w B hBw hv hl hen hpy h (by omega)
end Go.Proofs.YtdjhhnolcafkiaaGreat
namespace Go.Proofs.YtdjhhnolcafkiaaGreat
open Go.RowKit
namespace Pk
end Pk
open Pk
theorem rowN_mono {a:World}{base base' e size n:Nat}{v:Value}{xs:List Value}(ho:a.ownsRow base e size v n xs) (hb:base'<=base):a.ownsRow base' e size v n xs:=by
 obtain⟨h1,h2|⟨g,cap,cur,rfl,hg,r⟩⟩:=ho
 ·exact⟨h1,.inl h2⟩
 ·exact⟨h1,.inr ⟨g,cap,cur,rfl,by omega,r⟩⟩
end Go.Proofs.YtdjhhnolcafkiaaGreat
namespace Go.Proofs.YtdjhhnolcafkiaaGreat
namespace Pk
theorem told_num (n:Nat):∀l:List UInt8,l.length=n->told (num l) n=l:=by
 induction n with
 | zero=>intro l h;rw[List.eq_nil_of_length_eq_zero h];rfl
 | succ n ih=>
  intro l h
  obtain⟨i,b,rfl⟩:∃i b,l=i++[b]:=⟨l.dropLast,l.getLast (by intro e;subst e;simp at h),(List.dropLast_concat_getLast _).symm⟩
  have hi:i.length=n:=by simpa using h
  have hb:=b.toNat_lt
  rw[num_snoc,told,show(num i*256+b.toNat)/256=num i by omega,ih i hi,show(num i*256+b.toNat)%256=b.toNat by omega,UInt8.ofNat_toNat]
theorem conB_words (n:Nat):∀l:List UInt8,l.length=4*n->conB (words l)=l:=by
 induction n with
 | zero=>intro l h;rw[List.eq_nil_of_length_eq_zero (l:=l) (by omega)];rfl
 | succ n ih=>
  intro l h
  rw[words_step l (by omega),conB,ih (l.drop 4) (by rw[List.length_drop];omega),Int.toNat_natCast,told_num 4 (l.take 4) (by rw[List.length_take];omega),List.take_append_drop]
theorem words_in (n:Nat):∀l:List UInt8,l.length=4*n->allIn (words l) 4294967295=true:=by
 induction n with
 | zero=>intro l h;rw[words_stop l (by omega)];rfl
 | succ n ih=>
  intro l h
  have hn:=num_lt (l.take 4)
  have hl:(l.take 4).length=4:=by rw[List.length_take];omega
  rw[hl]at hn
  have h2:=ih (l.drop 4) (by rw[List.length_drop];omega)
  rw[words_step l (by omega)]
  simp only[allIn,List.all_cons,Bool.and_eq_true,decide_eq_true_eq]
  exact⟨by omega,h2⟩
theorem noughts_rep (n:Nat):noughts (List.replicate n 0)=true:=by simp[noughts]
theorem rep_noughts (l:List UInt8) (h:noughts l=true):l=List.replicate l.length 0:=by
 apply List.eq_replicate_of_mem
 simpa[noughts]using h
theorem mid {α:Type}(p m q:List α) (a n:Nat) (ha:a=p.length) (hn:n=m.length):((p++(m++q)).drop a).take n=m:=by
 subst ha hn
 rw[List.drop_left,List.take_left]
theorem cutAt {α:Type}(l:List α) (a b:Nat) (h:a<=b):l.drop a=(l.drop a).take (b-a)++l.drop b:=by
 have e:l.drop b=(l.drop a).drop (b-a):=by rw[List.drop_drop];congr 1;omega
 rw[e,List.take_append_drop]
theorem ext_told (s:ByteArray) (pr a1:Nat) (en:ByteArray) (h0:at0 s<=s.size) (h:extPart s=some (pr,en,a1)) :
  extOk (decide ((B0 s).toNat/16%2=1)) pr en=true/\(s.data.toList.drop (at0 s)).take (a1-at0 s)=extB (decide ((B0 s).toNat/16%2=1)) pr en.data.toList/\at0 s<=a1/\a1<=s.size:=by
 unfold extPart at h
 by_cases hx:(B0 s).toNat/16%2=1
 ·rw[if_pos hx]at h
  rw[decide_eq_true hx]
  by_cases h4:s.size-at0 s<4
  ·rw[if_pos h4]at h;cases h
  ·rw[if_neg h4]at h
   by_cases hL:s.size-(at0 s+4)<extLen s
   ·rw[if_pos hL]at h;cases h
   ·rw[if_neg hL,Option.some.injEq,Prod.mk.injEq,Prod.mk.injEq]at h
    obtain⟨h1,h2,h3⟩:=h
    have hen:en.data.toList=(s.data.toList.drop (at0 s+4)).take (extLen s):=by
     rw[<-h2,Lib.extract_data];congr 1;omega
    have hel:en.size=extLen s:=by
     rw[Lib.size_eq,hen,List.length_take,List.length_drop,<-Lib.size_eq];omega
    have hp:told pr 2=(s.data.toList.drop (at0 s)).take 2:=by
     rw[<-h1,Lib.extract_data,show at0 s+2-at0 s=2 by omega]
     exact told_num 2 _ (by rw[List.length_take,List.length_drop,<-Lib.size_eq];omega)
    have hm:told (en.data.toList.length/4) 2=(s.data.toList.drop (at0 s+2)).take 2:=by
     rw[<-Lib.size_eq,hel]
     unfold extLen
     rw[Nat.mul_div_cancel_left _ (by omega),Lib.extract_data,show at0 s+4-(at0 s+2)=2 by omega]
     exact told_num 2 _ (by rw[List.length_take,List.length_drop,<-Lib.size_eq];omega)
    have hpr:pr<65536:=by
     have:=num_lt (s.extract (at0 s) (at0 s+2)).data.toList
     have h5:(s.extract (at0 s) (at0 s+2)).data.toList.length=2:=by rw[<-Lib.size_eq,ByteArray.size_extract];omega
     rw[h5,h1]at this
     omega
    refine⟨?_,?_,by omega,by omega⟩
    ·rw[extOk_yes,Bool.and_eq_true,decide_eq_true_eq,decide_eq_true_eq,hel]
     unfold extLen
     omega
    ·unfold extB
     rw[if_pos rfl,hp,hm,hen,show a1-at0 s=2+(2+extLen s) by omega,List.take_add,List.take_add,List.drop_drop,List.drop_drop,List.append_assoc]
 ·rw[if_neg hx,Option.some.injEq,Prod.mk.injEq,Prod.mk.injEq]at h
  obtain⟨h1,h2,h3⟩:=h
  subst h1 h2 h3
  rw[decide_eq_false hx]
  refine⟨rfl,?_,by omega,h0⟩
  simp[extB]
theorem pad_told (s:ByteArray) (a pa fin:Nat) (h0:a<=s.size) (h1:12<=s.size) (h:padPart s a=some (pa,fin)) :
  s.data.toList.drop fin=padB pa/\a<=fin/\fin<=s.size/\pa<=255/\decide (0<pa)=decide ((B0 s).toNat/32%2=1):=by
 unfold padPart at h
 by_cases hx:(B0 s).toNat/32%2=1
 ·rw[if_pos hx]at h
  rw[decide_eq_true hx]
  by_cases h2:(Bl s).toNat=0\/s.size-a<(Bl s).toNat
  ·rw[if_pos h2]at h;cases h
  ·rw[if_neg h2]at h
   by_cases hN:noughts (s.extract (s.size-(Bl s).toNat) (s.size-1)).data.toList=true
   ·rw[if_pos hN,Option.some.injEq,Prod.mk.injEq]at h
    obtain⟨h3,h4⟩:=h
    rw[h3]at h2 hN h4
    have hb:=(Bl s).toNat_lt
    have hl:s.data.toList.length=s.size:=(Lib.size_eq s).symm
    refine⟨?_,by omega,by omega,by omega,decide_eq_true (by omega)⟩
    rw[cutAt s.data.toList fin (s.size-1) (by omega)]
    have e1:(s.data.toList.drop fin).take (s.size-1-fin)=List.replicate (pa-1) 0:=by
     have h5:=rep_noughts _ hN
     rw[Lib.extract_data,h4,List.length_take,List.length_drop,hl]at h5
     rw[h5]
     congr 1
     omega
    have e2:s.data.toList.drop (s.size-1)=[UInt8.ofNat pa]:=by
     rw[List.drop_eq_getElem_cons (by omega),List.drop_of_length_le (by omega)]
     have h6:s.data.toList[s.size-1]'(by omega)=Bl s:=by
      unfold Bl
      rw[List.getD_eq_getElem?_getD,List.getElem?_eq_getElem (by omega)]
      rfl
     rw[h6,<-h3,UInt8.ofNat_toNat]
    rw[e1,e2]
    unfold padB
    rw[if_neg (by omega)]
   ·rw[if_neg hN]at h;cases h
 ·rw[if_neg hx,Option.some.injEq,Prod.mk.injEq]at h
  obtain⟨h3,h4⟩:=h
  subst h3 h4
  rw[decide_eq_false hx]
  refine⟨?_,h0,by omega,by omega,rfl⟩
  rw[List.drop_of_length_le (by rw[<-Lib.size_eq];omega)]
  rfl
end Pk
end Go.Proofs.YtdjhhnolcafkiaaGreat
namespace Go.Proofs.YtdjhhnolcafkiaaGreat
open Go.RowKit
namespace Pk
theorem getD_snoc (l:List Nat) (x j:Nat):(l++[x]).getD j 0=if j=l.length then x else l.getD j 0:=by
 simp only[List.getD_eq_getElem?_getD,List.getElem?_append]
 split
 ·rw[if_neg (by omega)]
 ·rename_i h
  split
  ·rename_i h2;subst h2;simp
  ·rename_i h2
   rw[List.getElem?_eq_none (by simp;omega),List.getElem?_eq_none (by omega)]
def zero9:Obj:=.cells #[.int .u8 0,.int .u8 0,.int .u8 0,.int .u8 0,.int .u8 0,.int .u8 0,.int .u8 0,.int .u8 0,.int .u8 0] 216
theorem cell_new (w:World) (xs:Array Value) (t:TypeId) (o:Nat):(w.alloc (.cells xs t)).cell? ⟨w.heap.size,o,none⟩=xs[o]?:=
 cell_of_row _ w.heap.size o xs t (0,0) (heap_alloc_new w _)
theorem frozen_new (w:World) (xs:Array Value) (t:TypeId) (o:Nat):(w.alloc (.cells xs t)).frozen? ⟨w.heap.size,o,none⟩=false:=by
 unfold World.frozen?
 rw[heap_alloc_new]
 simp
theorem cell_newAt (w:World) (xs:Array Value) (t:TypeId) (k o:Nat) (hk:w.heap.size=k):(w.alloc (.cells xs t)).cell? ⟨k,o,none⟩=xs[o]?:=by subst hk;exact cell_new w xs t o
theorem frozen_newAt (w:World) (xs:Array Value) (t:TypeId) (k o:Nat) (hk:w.heap.size=k):(w.alloc (.cells xs t)).frozen? ⟨k,o,none⟩=false:=by subst hk;exact frozen_new w xs t o
structure Fb (w wr:World) (l:List Nat):Prop where
 bel:Below (w.heap.size+1) (w.alloc zero9) wr
 c0:wr.cell? ⟨w.heap.size+1,0,none⟩=some (.int .u8 l.length)
 cs:∀j,j<8->wr.cell? ⟨w.heap.size+1,1+j,none⟩=some (.int .u8 (l.getD j 0))
 fz:∀o,wr.frozen? ⟨w.heap.size+1,o,none⟩=false
theorem Fb.set {w wr:World}{l:List Nat}(h:Fb w wr l) (hl:l.length<8) (x:Nat):Fb w ((wr.setCell ⟨w.heap.size+1,1+l.length,none⟩ (.int .u8 x)).setCell ⟨w.heap.size+1,0,none⟩ (.int .u8 (l.length+1:Nat))) (l++[x]):=by
 have n0:(⟨w.heap.size+1,0,none⟩:Addr)≠⟨w.heap.size+1,1+l.length,none⟩:=fun e=>by injection e with _ e _;omega
 refine⟨(h.bel.setCell (p:=⟨w.heap.size+1,1+l.length,none⟩) (Nat.le_refl _) _).setCell (p:=⟨w.heap.size+1,0,none⟩) (Nat.le_refl _) _,?_,?_,fun o=>by rw[World.frozen?_setCell,World.frozen?_setCell];exact h.fz o⟩
 ·rw[List.length_append,List.length_singleton]
  exact World.cell?_setCell_same _ _ _ ((World.cell?_setCell_other _ _ _ _ (Ne.symm n0)).trans h.c0)
 ·intro j hj
  rw[World.cell?_setCell_other _ _ _ _ (fun e=>by injection e with _ e _;omega),getD_snoc]
  by_cases hjl:j=l.length
  ·subst hjl
   rw[if_pos rfl,World.cell?_setCell_same _ _ _ (h.cs _ hl)]
  ·rw[if_neg hjl,World.cell?_setCell_other _ _ _ _ (fun e=>by injection e with _ e _;omega)]
   exact h.cs j hj
end Pk
open Pk
end Go.Proofs.YtdjhhnolcafkiaaGreat
namespace Go.Proofs.YtdjhhnolcafkiaaGreat
open Go.RowKit Pk
theorem find1K_any (x:Kp) (num B:Nat) (W:World) (hc:W.cell? ⟨B,0,none⟩=some (.int .u16 num)) :
  Calls Tryz.prog 133 #[.agg #[.int .u16 x.n,.bool x.x.mrk,.int .i64 x.x.ty,.int .i64 x.x.nu,.int .i64 x.x.ti,.int .i64 x.x.so,x.cv,.bool x.x.ex,.int .i64 x.x.pr,.string x.x.en,.string x.x.py,.int .i64 x.x.pa,.int .i64 x.rests],.pointer (some ⟨B,0,none⟩)] W fun e w'=>e = .returned (.bool (decide (x.n=num)))/\Below W.heap.size W w':=by
 have hne:B≠W.heap.size:=by have:=lt_of_cell hc;simp only at this;omega
 have hlt:B<W.heap.size:=lt_of_cell hc
 have Heq:Hid (((x.n:Int) == (num:Int))=decide (x.n=num)):=by
  show _=_
  rw[Bool.eq_iff_iff]
  simp only[beq_iff_eq,decide_eq_true_eq]
  omega
 go_enter Tryz.func133,Tryz.ntmps133
 go_wp2
 go_ret
 exact⟨ret_bool (by first|exact Heq.out|simpa using Heq.out),(Below.refl _ _).alloc (Nat.le_refl _) _⟩
theorem indexK_any (base:Nat) (v:Value) (l:List Kp) (num B:Nat) (w:World) (hown:w.ownsRow base 194 13 v l.length (l.flatMap cellsK)) (hc:w.cell? ⟨B,0,none⟩=some (.int .u16 num)) (hn:l.length<=100000) :
  Calls Tryz.prog 132 #[v,.func (.func 133) #[] #[.pointer (some ⟨B,0,none⟩)]] w fun e w'=>e = .returned (.int .i64 (posF num (l.map (·.n))))/\Below w.heap.size w w':=by
 obtain⟨ao,cap,rfl⟩:=rowA_shape hown
 have Hown:=hyd hown
 have Hc:=hyd hc
 clear hown hc
 go_enter Tryz.func132,Tryz.ntmps132
 go_wp2
 go_loopw [8] (fun s8 wr=>∃k:Nat,k<=l.length/\s8 = .int .i64 k/\(∀m (hm:m<l.length),m<k->(l[m]).n≠num)/\Below w.heap.size w wr) (fun s8 _=>l.length-(intOf s8).toNat)
 case atStart=>exact⟨0,Nat.zero_le _,rfl,fun m _ hm=>by omega,Below.refl _ _⟩
 case round=>
  obtain⟨k,hk,rfl,hno,hbel⟩:=hrel
  have Hno:=hyd hno
  have Hbel:=hyd hbel
  clear hno hbel
  by_cases hlt:k<l.length
  ·have hlt':(k:Int)<l.length:=by omega
   obtain⟨g,rfl⟩:=rowA_some Hown.out (by omega)
   have hglt:g<w.heap.size:=(Hown.out.lt g rfl).2
   obtain⟨x,hx⟩:∃x,l[k]=x:=⟨_,rfl⟩
   have at_:∀j,j<13->∀u,(cellsK x)[j]? = some u->wr.cell? ⟨g,k*13+j,none⟩=some u:=fun j hj u hu=>by
    refine(Hbel.out.cell (p:=⟨g,k*13+j,none⟩) hglt).trans ?_
    rw[Hown.out.cellAt (k*13+j) (by omega),flat_at cellsK_len l k j hlt hj,hx]
    exact hu
   have d0:wr.cell? ⟨g,k*13,none⟩=some (.int .u16 x.n):=at_ 0 (by omega) _ rfl
   have d1:wr.cell? ⟨g,k*13+1,none⟩=some (.bool x.x.mrk):=at_ 1 (by omega) _ rfl
   have d2:wr.cell? ⟨g,k*13+2,none⟩=some (.int .i64 x.x.ty):=at_ 2 (by omega) _ rfl
   have d3:wr.cell? ⟨g,k*13+3,none⟩=some (.int .i64 x.x.nu):=at_ 3 (by omega) _ rfl
   have d4:wr.cell? ⟨g,k*13+4,none⟩=some (.int .i64 x.x.ti):=at_ 4 (by omega) _ rfl
   have d5:wr.cell? ⟨g,k*13+5,none⟩=some (.int .i64 x.x.so):=at_ 5 (by omega) _ rfl
   have d6:wr.cell? ⟨g,k*13+6,none⟩=some (x.cv):=at_ 6 (by omega) _ rfl
   have d7:wr.cell? ⟨g,k*13+7,none⟩=some (.bool x.x.ex):=at_ 7 (by omega) _ rfl
   have d8:wr.cell? ⟨g,k*13+8,none⟩=some (.int .i64 x.x.pr):=at_ 8 (by omega) _ rfl
   have d9:wr.cell? ⟨g,k*13+9,none⟩=some (.string x.x.en):=at_ 9 (by omega) _ rfl
   have d10:wr.cell? ⟨g,k*13+10,none⟩=some (.string x.x.py):=at_ 10 (by omega) _ rfl
   have d11:wr.cell? ⟨g,k*13+11,none⟩=some (.int .i64 x.x.pa):=at_ 11 (by omega) _ rfl
   have d12:wr.cell? ⟨g,k*13+12,none⟩=some (.int .i64 x.rests):=at_ 12 (by omega) _ rfl
   have hcB:wr.cell? ⟨B,0,none⟩=some (.int .u16 num):=(Hbel.out.cell (p:=⟨B,0,none⟩) (lt_of_cell Hc.out)).trans Hc.out
   have Hx:=hyd hx
   clear at_ hx
   go_wp2_with fail
   refine(find1K_any x num B _ hcB).mono ?_
   rintro e w1 ⟨rfl,hb1⟩
   have Hb1:Hid (Below w.heap.size w w1):=Hbel.out.trans (hb1.mono Hbel.out.size)
   clear hb1 d0 d1 d2 d3 d4 d5 d6 d7 d8 d9 d10 d11 d12 hcB
   by_cases he:x.n=num
   ·rw[decide_eq_true he]
    have Hp:Hid (posF num (l.map (·.n))=(k:Int)):=by
     refine posF_at num (l.map (·.n)) k (by simpa using hlt) (fun m hm=>?_) ?_
     ·rw[List.getElem_map];exact Hno.out m (by omega) hm
     ·rw[List.getElem_map,Hx.out];exact he
    go_wp2
    go_ret
    exact⟨ret_int Hp.out.symm,Hb1.out⟩
   ·rw[decide_eq_false he]
    have He:=hyd he
    clear he
    go_wp2
    go_roundw
    case rel=>exact⟨k+1,by omega,by go_num,fun m hm hmk=>by
     rcases Nat.lt_or_ge m k with h|h
     ·exact Hno.out m hm h
     ·obtain rfl:m=k:=by omega
      rw[Hx.out];exact He.out,Hb1.out⟩
    case measure=>simp[intOf];omega
  ·have hlt':¬(k:Int)<l.length:=by omega
   have Hp:Hid (posF num (l.map (·.n)) = -1):=by
    refine posF_no num _ (fun y hy=>?_)
    obtain⟨z,hz,rfl⟩:=List.mem_map.1 hy
    obtain⟨m,hm,rfl⟩:=List.mem_iff_getElem.1 hz
    exact Hno.out m hm (by omega)
   go_wp2
   go_ret
   exact⟨ret_int Hp.out.symm,Hbel.out⟩
theorem findK_any (base sb:Nat) (v:Value) (l:List Kp) (num:Nat) (w:World) (hv:w.cell? ⟨sb,2,none⟩=some v) (hown:w.ownsRow base 194 13 v l.length (l.flatMap cellsK)) (hn:l.length<=100000) :
  Calls Tryz.prog 117 #[.pointer (some ⟨sb,0,none⟩),.int .u16 num] w fun e w'=>e = .returned (.int .i64 (posF num (l.map (·.n))))/\Below w.heap.size w w':=by
 obtain⟨ao,cap,rfl⟩:=rowA_shape hown
 have Hown:=hyd hown
 have hlt:sb<w.heap.size:=lt_of_cell hv
 have hne:sb≠w.heap.size:=by omega
 clear hown
 go_enter Tryz.func117,Tryz.ntmps117
 go_wp2_with fail
 refine(indexK_any base _ l num w.heap.size _ (World.ownsRow.alloc Hown.out _) (cell_new _ _ _ 0) hn).mono ?_
 rintro e w1 ⟨rfl,hb1⟩
 have Hb1:Hid (Below w.heap.size w w1):=((Below.refl _ _).alloc (Nat.le_refl _) _).trans (hb1.mono (by simp))
 clear hb1
 go_wp2
 go_ret
 exact⟨rfl,Hb1.out⟩
end Go.Proofs.YtdjhhnolcafkiaaGreat
namespace Go.Proofs.YtdjhhnolcafkiaaGreat
open Go.RowKit
namespace Pk
theorem zeroK (w:World):(zeroValue 194).run Tryz.prog w = .ok (.agg #[.int .u16 0,.bool false,.int .i64 0,.int .i64 0,.int .i64 0,.int .i64 0,.slice none 0 0,.bool false,.int .i64 0,.string ⟨#[]⟩,.string ⟨#[]⟩,.int .i64 0,.int .i64 0]) w:=by kernel_rfl
theorem infoK:(Tryz.prog.info? 194).map (fun i=>(i.zero,i.size,i.bytes))=some (some (.agg #[.int .u16 0,.bool false,.int .i64 0,.int .i64 0,.int .i64 0,.int .i64 0,.slice none 0 0,.bool false,.int .i64 0,.string ⟨#[]⟩,.string ⟨#[]⟩,.int .i64 0,.int .i64 0]),13,136):=by kernel_rfl
theorem wp_append_shiftK {w:World}{o:Oper}{a:Act}{K:Act->World->Prop}{Q:Exit->Act->World->Prop}(s x:Operand)
  (ho:o.op = .call { callee:=.builtin .append,args:=#[s,x],argTypes:=#[137,137] }) (g i cap:Nat) (hs:a.eval s = .slice (some ⟨g,0,none⟩) i cap) (ad:Addr) (m c:Nat) (news:List Value)
  (hx:a.eval x = .slice (some ad) m c) (hl:news.length=m*13) (hnews:∀j u,news[j]? = some u->w.cell? (ad.add j)=some u) (h1:∀u∈news,u.oneCell'=true) (hroom:i+m<=cap)
  (hc:∀j,j<news.length->(w.cell? ⟨g,0+i*13+j,none⟩).isSome=true) (hf:∀j,j<news.length->w.frozen? ⟨g,0+i*13+j,none⟩=false)
  (h:K (a.put o.dst (.slice (some ⟨g,0,none⟩) (i+m) cap)) (w.setCells g (0+i*13) news)):o.wp Tryz.prog a w K Q:=by
 obtain⟨i0,hi,hz0,hz1,hz2⟩:=info_parts infoK
 have hr:=run_append_room_cells (P:=Tryz.prog) (w:=w) 137 o.type 194 i0 Tryz.underlying137 hi g 0 i cap ad m c news (by rw[hz1];exact hl) hnews h1 hroom (by rw[hz1];exact hc) (by rw[hz1];exact hf)
 rw[hz1]at hr
 unfold Oper.wp execOp
 simp only[ho,resolve,invoke,builtin,Sem.run_bind,Sem.run_pure,Result.andThen_ok,List.map_toArray,List.map_cons,List.map_nil,hs,hx,hr]
 exact h
end Pk
open Pk
theorem deleteK_any (base:Nat) (v:Value) (n i j:Nat) (xs:List Value) (w:World) (hown:w.ownsRow base 194 13 v n xs) (h1:∀u∈xs,u.oneCell'=true) (hij:i<=j) (hjn:j<=n) (hn:n<=100000) :
  Calls Tryz.prog 130 #[v,.int .i64 i,.int .i64 j] w fun e w'=>∃v',e = .returned v'/\w'.ownsRow base 194 13 v' (n-(j-i)) (xs.take (i*13)++xs.drop (j*13))/\w.grownBy w' v.ownBlock/\v'.ownBlock=v.ownBlock:=by
 obtain⟨ao,cap,rfl⟩:=rowA_shape hown
 have hxl:=hown.1
 have hcap:n<=cap/\(cap:Int)<=9223372036854775807:=by
  obtain⟨_,⟨h2,h0⟩|⟨g,cap',cur,e',_,_,hn',hm',_⟩⟩:=hown
  ·simp only[Value.slice.injEq]at h2
   omega
  ·simp only[Value.slice.injEq]at e'
   unfold maxLen at hm'
   omega
 obtain⟨hcap,hcm⟩:=hcap
 have hcapi:(n:Int)<=cap:=by omega
 have hiji:(i:Int)<=j:=by omega
 have hjni:(j:Int)<=n:=by omega
 have hic:i<=cap:=by omega
 have hjc:j<=cap:=by omega
 by_cases hlt:i<j
 ·obtain⟨g,rfl⟩:=rowA_some hown (by omega)
  have hne:((i:Int) == (j:Int))=false:=by rw[beq_eq_false_iff_ne];omega
  have hc0:¬cap=0:=by omega
  have Hown:=hyd hown
  have H1:=hyd h1
  have Hxl:=hyd hxl
  clear hown h1 hxl
  by_cases hcj:cap=j
  ·obtain rfl:n=j:=by omega
   obtain rfl:n=cap:=by omega
   go_enter Tryz.func130,Tryz.ntmps130
   go_wp2
   refine wp_region_noPanic ?_
   refine wp_region_held_drew (S:=fun _=>True) (by kernel_rfl) trivial (fun zH=>?_)
   refine tka 0 ?_
   refine tka 1 ?_
   refine tka 2 ?_
   refine tka 3 ?_
   refine tka 4 ?_
   refine tka 5 ?_
   refine rd1 6 fun K hK=>?_
   rw[if_pos (by rfl)]
   refine wp_append_shiftK (.tmp 22) (.tmp 25) rfl g i n (by rfl) _ 0 _ [] (by rfl) (by simp) (fun q u hq=>by simp at hq) (fun u hu=>by simp at hu) (by omega) (fun q hq=>by simp at hq) (fun q hq=>by simp at hq) ?_
   refine hK.out _ _ trivial (fun zH=>?_)
   clear hK K
   refine tka 7 ?_
   refine doN ?_
   have R1:(w.drew).ownsRow base 194 13 (.slice (some ⟨g,0,none⟩) n n) n xs:=World.ownsRow.drew Hown.out
   obtain⟨zs,hzl,hcl⟩:=run_clear_row (P:=Tryz.prog) w.drew 137 194 0 (.agg #[.int .u16 0,.bool false,.int .i64 0,.int .i64 0,.int .i64 0,.int .i64 0,.slice none 0 0,.bool false,.int .i64 0,.string ⟨#[]⟩,.string ⟨#[]⟩,.int .i64 0,.int .i64 0]) Tryz.underlying137 zeroK (by intro u hu;simp[Value.cells]at hu;rcases hu with rfl|rfl|rfl|rfl|rfl|rfl|rfl|rfl<;>rfl) (by decide) g (i*13) (n-i) (n-i) (by omega) (fun q hq=>by
    have hq':q<(n-i)*13:=hq
    have:=R1.cellAt (i*13+q) (by omega)
    rw[this,List.getElem?_eq_getElem (by rw[Hxl.out];omega)]
    rfl) (fun q _=>R1.frozenAt _)
   have hzl':zs.length=(n-i)*13:=hzl
   obtain⟨R3,R4⟩:=row_writes zs (i*13) w.drew _ R1 (by rw[hzl',Hxl.out];omega)
   have F1:Hid (World.ownsRow (w.drew.setCells g (i*13) zs) base 194 13 (.slice (some ⟨g,0,none⟩) i n) i (xs.take (i*13)++xs.drop (n*13))):=by
    have h:=row_fewer R3 (m:=i) (by omega) (.inl (by simp))
    have e:(xs.take (i*13)++zs++xs.drop (i*13+zs.length)).take (i*13)=xs.take (i*13)++xs.drop (n*13):=by
     rw[List.drop_of_length_le (i:=n*13) (by rw[Hxl.out];omega),List.append_nil,List.append_assoc,List.take_left' (by rw[List.length_take,Hxl.out];omega)]
    rw[e]at h
    exact h
   have F2:Hid (w.grownBy (w.drew.setCells g (i*13) zs) (some g)):=(World.grownBy_drewX w (some g)).trans R4
   have hcc:∀ty,(Builtin.clear_ #[137] ty #[.slice (some ⟨g,i*13,none⟩) (n-i) (n-i)]).run Tryz.prog (w.drew.setCells g (i*13) []) = .ok (.tuple #[]) (w.drew.setCells g (i*13) zs):=fun ty=>hcl
   have Hnn:Hid (n-(n-i)=i):=by show _=_;omega
   have hnn3:¬n=i:=by omega
   clear hcl R1 R3 R4 hzl hzl'
   go_wp2_with (simp only[hcc])
   go_ret
   rw[Hnn.out]
   exact⟨_,rfl,F1.out,F2.out,rfl⟩
  ·go_enter Tryz.func130,Tryz.ntmps130
   go_wp2
   refine wp_region_noPanic ?_
   refine wp_region_held_drew (S:=fun _=>True) (by kernel_rfl) trivial (fun zH=>?_)
   refine tka 0 ?_
   refine tka 1 ?_
   refine tka 2 ?_
   refine tka 3 ?_
   refine tka 4 ?_
   refine tka 5 ?_
   refine rd1 6 fun K hK=>?_
   rw[if_pos (by rfl)]
   refine wp_append_shiftK (.tmp 22) (.tmp 25) rfl g i cap (by rfl) _ (n-j) _ (xs.drop (j*13)) (by rfl) (by rw[List.length_drop,Hxl.out,Nat.sub_mul]) (fun q u hq=>by
    have hql:j*13+q<xs.length:=by have:=(List.getElem?_eq_some_iff.1 hq).1;rw[List.length_drop]at this;omega
    rw[List.getElem?_drop]at hq
    show World.cell? w ((⟨g,j*13,none⟩:Addr).add q)=some u
    rw[show(⟨g,j*13,none⟩:Addr).add q=⟨g,j*13+q,none⟩ by unfold Addr.add;split<;>simp_all,Hown.out.cellAt _ (by rw[<-Hxl.out];exact hql)]
    exact hq) (fun u hu=>H1.out u (List.mem_of_mem_drop hu)) (by omega) (fun q hq=>by
    rw[List.length_drop,Hxl.out]at hq
    have:=Hown.out.cellAt (i*13+q) (by omega)
    show(World.cell? w ⟨g,0+i*13+q,none⟩).isSome=true
    rw[Nat.zero_add,this,List.getElem?_eq_getElem (by rw[Hxl.out];omega)]
    rfl) (fun q _=>Hown.out.frozenAt _) ?_
   refine hK.out _ _ trivial (fun zH=>?_)
   clear hK K
   refine tka 7 ?_
   refine doN ?_
   have hdl:(xs.drop (j*13)).length=(n-j)*13:=by rw[List.length_drop,Hxl.out,Nat.sub_mul]
   obtain⟨R1,R2⟩:=row_writes (xs.drop (j*13)) (0+i*13) w.drew xs (World.ownsRow.drew Hown.out) (by rw[hdl,Hxl.out];omega)
   generalize hw1:(w.drew).setCells g (0+i*13) (xs.drop (j*13))=w1 at *
   have hxl1:=R1.1
   obtain⟨zs,hzl,hcl⟩:=run_clear_row (P:=Tryz.prog) w1 137 194 0 (.agg #[.int .u16 0,.bool false,.int .i64 0,.int .i64 0,.int .i64 0,.int .i64 0,.slice none 0 0,.bool false,.int .i64 0,.string ⟨#[]⟩,.string ⟨#[]⟩,.int .i64 0,.int .i64 0]) Tryz.underlying137 zeroK (by intro u hu;simp[Value.cells]at hu;rcases hu with rfl|rfl|rfl|rfl|rfl|rfl|rfl|rfl<;>rfl) (by decide) g ((i+(n-j))*13) (n-(i+(n-j))) (cap-(i+(n-j))) (by omega) (fun q hq=>by
    have hq':q<(n-(i+(n-j)))*13:=hq
    have:=R1.cellAt ((i+(n-j))*13+q) (by omega)
    rw[this,List.getElem?_eq_getElem (by rw[hxl1];omega)]
    rfl) (fun q _=>R1.frozenAt _)
   have hzl':zs.length=(n-(i+(n-j)))*13:=hzl
   obtain⟨R3,R4⟩:=row_writes zs ((i+(n-j))*13) w1 _ R1 (by rw[hzl',hxl1];omega)
   have F1:Hid (World.ownsRow (w1.setCells g ((i+(n-j))*13) zs) base 194 13 (.slice (some ⟨g,0,none⟩) (i+(n-j)) cap) (i+(n-j)) (xs.take (i*13)++xs.drop (j*13))):=by
    have h:=row_fewer R3 (m:=i+(n-j)) (by omega) (.inl (by simp))
    have e:(((xs.take (0+i*13)++xs.drop (j*13)++xs.drop (0+i*13+(xs.drop (j*13)).length)).take ((i+(n-j))*13)++zs++(xs.take (0+i*13)++xs.drop (j*13)++xs.drop (0+i*13+(xs.drop (j*13)).length)).drop ((i+(n-j))*13+zs.length)).take ((i+(n-j))*13))=xs.take (i*13)++xs.drop (j*13):=by
     have hl1:(xs.take (i*13)++xs.drop (j*13)).length=(i+(n-j))*13:=by rw[List.length_append,List.length_take,hdl,Hxl.out];omega
     rw[Nat.zero_add,List.take_left' (l₁:=xs.take (i*13)++xs.drop (j*13)) hl1,List.append_assoc,List.take_left' hl1]
    rw[e]at h
    exact h
   have F2:Hid (w.grownBy (w1.setCells g ((i+(n-j))*13) zs) (some g)):=(World.grownBy_drewX w (some g)).trans (R2.trans R4)
   have hcc:∀ty,(Builtin.clear_ #[137] ty #[.slice (some ⟨g,(i+(n-j))*13,none⟩) (n-(i+(n-j))) (cap-(i+(n-j)))]).run Tryz.prog w1 = .ok (.tuple #[]) (w1.setCells g ((i+(n-j))*13) zs):=fun ty=>hcl
   have Hnn:Hid (i+(n-j)=n-(j-i)):=by show _=_;omega
   have hnn1:i+(n-j)<=n:=by omega
   have hnn2:i+(n-j)<=cap:=by omega
   have hnn3:¬cap=i+(n-j):=by omega
   have hnn4:((i+(n-j):Nat):Int)<=n:=by omega
   clear hcl R1 R2 R3 R4 hzl hzl' hdl hxl1 hw1
   generalize i+(n-j)=m at *
   go_wp2_with (simp only[hcc])
   go_ret
   rw[<-Hnn.out]
   exact⟨_,rfl,F1.out,F2.out,rfl⟩
 ·have hij':i=j:=by omega
  subst hij'
  have hne:((i:Int) == (i:Int))=true:=by simp
  have Hown:Hid (∀m,m=n->w.ownsRow base 194 13 (.slice ao m cap) m xs):=fun m e=>by rw[e];exact hown
  clear hown h1 hxl
  rw[Nat.sub_self,Nat.sub_zero,List.take_append_drop]
  go_enter Tryz.func130,Tryz.ntmps130
  go_wp2
  all_goals go_ret
  all_goals exact⟨_,rfl,Hown.out _ (by first|rfl|omega|simp_all),World.grownBy.refl _ _,rfl⟩
end Go.Proofs.YtdjhhnolcafkiaaGreat
namespace Go.Proofs.YtdjhhnolcafkiaaGreat
open Go.RowKit
namespace Pk
def rep (n:Nat) (cs:List Value):List Value:=(List.replicate n cs).flatten
theorem rep_length (n:Nat) (cs:List Value):(rep n cs).length=n*cs.length:=by
 unfold rep
 induction n with
 | zero=>simp
 | succ n ih=>rw[List.replicate_succ,List.flatten_cons,List.length_append,ih,Nat.succ_mul];omega
theorem rep_add (n m:Nat) (cs:List Value):rep (n+m) cs=rep n cs++rep m cs:=by
 unfold rep
 rw[<-List.replicate_append_replicate,List.flatten_append]
theorem rep_take (n k:Nat) (cs:List Value) (h:k<=n):(rep n cs).take (k*cs.length)=rep k cs:=by
 obtain⟨m,rfl⟩:∃m,n=k+m:=⟨n-k,by omega⟩
 rw[rep_add,List.take_left' (rep_length k cs)]
theorem rep_at (n:Nat) (cs:List Value):∀k j,k<n->j<cs.length->(rep n cs)[k*cs.length+j]? = cs[j]?:=by
 induction n with
 | zero=>intro k j h;omega
 | succ n ih=>
  intro k j hk hj
  rw[show rep (n+1) cs=cs++rep n cs by unfold rep;rw[List.replicate_succ,List.flatten_cons]]
  cases k with
  | zero=>rw[Nat.zero_mul,Nat.zero_add,List.getElem?_append_left hj]
  | succ k=>
   rw[List.getElem?_append_right (by rw[Nat.succ_mul];omega),show(k+1)*cs.length+j-cs.length=k*cs.length+j by rw[Nat.succ_mul];omega]
   exact ih k j (by omega) hj
def MkN (W:World) (base e:Nat) (v:Value) (n:Nat) (cs:List Value):Prop:=W.ownsRow base e cs.length v n (rep n cs)
theorem MkN.shape {W:World}{base e n:Nat}{v:Value}{cs:List Value}(h:MkN W base e v n cs):∃ao cap,v = .slice ao n cap:=by
 obtain⟨_,h2|⟨g,cap,cur,rfl,_⟩⟩:=h
 ·exact⟨none,0,by rw[h2.1,h2.2]⟩
 ·exact⟨_,_,rfl⟩
theorem MkN.cell {W:World}{base e n cap:Nat}{ao:Option Addr}{cs:List Value}(h:MkN W base e (.slice ao n cap) n cs) (k:Nat) (hk:k<n) :
  ∃b,ao=some ⟨b,0,none⟩/\base<=b/\b<W.heap.size/\∀j,j<cs.length->W.cell? ⟨b,k*cs.length+j,none⟩=cs[j]?:=by
 have h':=h
 obtain⟨h1,h2|⟨g,cap',cur,e',hb,hg,r⟩⟩:=h
 ·obtain⟨_,h0⟩:=h2;omega
 ·simp only[Value.slice.injEq]at e'
  obtain⟨rfl,_,rfl⟩:=e'
  refine⟨g,rfl,hb,(World.ownsRow.lt h' g rfl).2,fun j hj=>?_⟩
  rw[World.ownsRow.cellAt h' (k*cs.length+j) (by have:=Nat.mul_le_mul_right cs.length (show k+1<=n from hk);rw[Nat.succ_mul]at this;omega),rep_at n cs k j hk hj]
theorem MkN.chg {T:Nat->Prop}{a b:World}{base e n:Nat}{v:Value}{cs:List Value}(h:MkN a base e v n cs) (hc:Chg T a b) (hn:∀x,v.ownBlock=some x->¬T x):MkN b base e v n cs:=by
 have hl:=World.ownsRow.lt h
 obtain⟨h1,h2|⟨g,cap,cur,rfl,hb,hh,r⟩⟩:=h
 ·exact⟨h1,.inl h2⟩
 ·exact⟨h1,.inr ⟨g,cap,cur,rfl,hb,(hc.block g (hl g rfl).2 (hn g rfl)).trans hh,r⟩⟩
theorem append_like (w:World) (base:Nat) (t e ty:TypeId) (ht:Tryz.prog.underlying t=some (.slice e)) (i:TypeInfo) (z:Value) (bytes:Nat) (hi:Tryz.prog.info? e=some i) (hz:i.zero=some z) (cs:List Value) (hsize:i.size=cs.length) (hby:i.bytes=bytes) (hbb:bytes<=100) (hzs:z.cells.size=cs.length) (hpos:0<cs.length)
  (h1:∀u∈cs,u.oneCell'=true) (v:Value) (n j:Nat) (hown:MkN w base e v n cs) (ad:Addr) (c:Nat) (hnews:∀k u,(rep j cs)[k]? = some u->w.cell? (ad.add k)=some u)
  (hn:n+j<=10000) (hbase:base<=w.heap.size) :
  ∃v' w',(Builtin.append_ #[t,t] ty #[v,.slice (some ad) j c]).run Tryz.prog w = .ok v' w'/\MkN w' base e v' (n+j) cs/\(∀u k,k<=n+j->MkN w base e u k cs->MkN w' base e u k cs)/\w.grownBy w' v.ownBlock/\
   (v'.ownBlock=v.ownBlock\/v'.ownBlock=some w.heap.size):=by
 have hone:∀u∈rep j cs,u.oneCell'=true:=fun u hu=>by
  unfold rep at hu
  obtain⟨l,hl,hul⟩:=List.mem_flatten.1 hu
  rw[List.mem_replicate]at hl
  rw[hl.2]at hul
  exact h1 u hul
 have hnb:(n+j)*bytes<=10000*100:=Nat.mul_le_mul hn hbb
 obtain⟨v',w',hr,h2,h3,h4,h5⟩:=run_append_own_at (P:=Tryz.prog) w base t ty e i z cs.length bytes ht hi hz hsize hby hzs hpos v n (rep n cs) hown ad j c (rep j cs)
  (rep_length j cs) hnews hone (by unfold maxLen;omega) (by omega) hbase
 have h2':MkN w' base e v' (n+j) cs:=by
  unfold MkN
  rw[rep_add]
  exact h2
 refine⟨v',w',hr,h2',?_,h3,h5⟩
 intro u k hk hu
 by_cases hb:u.ownBlock=none\/u.ownBlock≠v.ownBlock
 ·exact World.ownsRow.kept hu h3 hb
 ·have hb1:u.ownBlock=v.ownBlock:=by
   rcases Decidable.em (u.ownBlock=v.ownBlock)with h|h
   ·exact h
   ·exact absurd (.inr h) hb
  have hb2:u.ownBlock≠none:=fun e=>hb (.inl e)
  obtain⟨hu1,hu2|⟨g,cap,cur,rfl,hbg,hg,hnc,hcm,hcs,hct⟩⟩:=hu
  ·rw[hu2.1]at hb2;exact absurd rfl hb2
  ·have hvg:v.ownBlock=some g:=hb1.symm
   have hglt:g<w.heap.size:=(World.ownsRow.lt hown g hvg).2
   obtain⟨_,hv2|⟨g',capv,curv,rfl,hbv,hgv,hncv,hcmv,hcsv,hctv⟩⟩:=hown
   ·rw[hv2.1]at hvg;cases hvg
   ·have eg:g'=g:=by simpa[Value.ownBlock]using hvg
    subst eg
    rw[hg]at hgv
    simp only[Option.some.injEq,Obj.cells.injEq,and_true]at hgv
    obtain⟨rfl,_⟩:=hgv
    have hcap:cap=capv:=by
     have:cap*cs.length=capv*cs.length:=by rw[<-hcs,<-hcsv]
     exact Nat.eq_of_mul_eq_mul_right hpos this
    rcases h5 with h5|h5
    ·obtain⟨_,hw2|⟨g2,cap2,cur2,rfl,hb2',hg2,hnc2,hcm2,hcs2,hct2⟩⟩:=h2'
     ·rw[hw2.1]at h5;cases h5
     ·have eg2:g2=g':=by simpa[Value.ownBlock]using h5
      subst eg2
      by_cases hroom:n+j<=capv
      ·have hr2:=run_append_room (P:=Tryz.prog) w t ty e i ht hi g2 n capv cur hg ad j c (rep j cs) (by rw[hsize,rep_length]) hnews hone hroom (by rw[hsize,rep_length,hcsv,<-Nat.add_mul];exact Nat.mul_le_mul_right _ hroom)
       rw[hr]at hr2
       simp only[Result.ok.injEq,Value.slice.injEq]at hr2
       have hcc:cap2=capv:=hr2.1.2.2
       refine⟨hu1,.inr ⟨g2,cap,cur2,rfl,hbg,hg2,hnc,hcm,by rw[hcs2,hcc,hcap],?_⟩⟩
       have:=congrArg (List.take (k*cs.length)) hct2
       rw[List.take_take,Nat.min_eq_left (Nat.mul_le_mul_right _ hk)]at this
       rw[this,rep_take _ _ _ hk]
      ·exfalso
       have hr2:=run_append_grow (P:=Tryz.prog) w t ty e i z ht hi hz ⟨g2,0,none⟩ n capv (rep n cs) (by rw[hsize,rep_length]) (World.ownsRow.cells (e:=e) (size:=cs.length) (base:=base) (v:=.slice (some ⟨g2,0,none⟩) n capv) (n:=n) ⟨rep_length n cs,.inr ⟨g2,capv,cur,rfl,hbv,hg,hncv,hcmv,hcsv,hctv⟩⟩ rfl) ad j c (rep j cs) (by rw[hsize,rep_length]) hnews (by omega) (by omega) (by rw[hby];exact growslice_fits (by omega) (by omega))
       rw[hr]at hr2
       simp only[Result.ok.injEq,Value.slice.injEq,Option.some.injEq,Addr.mk.injEq]at hr2
       omega
    ·by_cases hroom:n+j<=capv
     ·exfalso
      have hr2:=run_append_room (P:=Tryz.prog) w t ty e i ht hi g' n capv cur hg ad j c (rep j cs) (by rw[hsize,rep_length]) hnews hone hroom (by rw[hsize,rep_length,hcsv,<-Nat.add_mul];exact Nat.mul_le_mul_right _ hroom)
      rw[hr]at hr2
      simp only[Result.ok.injEq]at hr2
      rw[hr2.1]at h5
      simp[Value.ownBlock]at h5
      omega
     ·have hr2:=run_append_grow (P:=Tryz.prog) w t ty e i z ht hi hz ⟨g',0,none⟩ n capv (rep n cs) (by rw[hsize,rep_length]) (World.ownsRow.cells (e:=e) (size:=cs.length) (base:=base) (v:=.slice (some ⟨g',0,none⟩) n capv) (n:=n) ⟨rep_length n cs,.inr ⟨g',capv,cur,rfl,hbv,hg,hncv,hcmv,hcsv,hctv⟩⟩ rfl) ad j c (rep j cs) (by rw[hsize,rep_length]) hnews (by omega) (by omega) (by rw[hby];exact growslice_fits (by omega) (by omega))
      rw[hr]at hr2
      simp only[Result.ok.injEq]at hr2
      rw[hr2.2]
      exact World.ownsRow.alloc (World.ownsRow.drew ⟨hu1,.inr ⟨g',cap,cur,rfl,hbg,hg,hnc,hcm,hcs,hct⟩⟩) _
structure Pr (W:World) (g:Nat) (ρ:Nat->Nat) (ra rm:Nat) (te tm:TypeId) (cells:Value->List Value) (lv mv:Value) (L M:List Value):Prop where
 rl:W.ownsRow (g+1) te 1 lv L.length L
 rk:W.ownsRow (g+1) tm 1 mv M.length M
 fl:∀b,lv.ownBlock=some b->ρ b=ra
 fm:∀b,mv.ownBlock=some b->ρ b=rm
 len:L.length=M.length
 ent:∀(i:Nat) (u m:Value),L[i]? = some u->M[i]? = some m->∃n ao cap,u = .slice ao n cap/\n<=10000/\∀k,k<n->∃b,ao=some ⟨b,0,none⟩/\b<W.heap.size/\ρ b=8/\∀j,j<(cells m).length->W.cell? ⟨b,k*(cells m).length+j,none⟩=(cells m)[j]?
theorem Pr.chg {W W':World}{g:Nat}{ρ:Nat->Nat}{T:Nat->Prop}{ra rm:Nat}{te tm:TypeId}{cells:Value->List Value}{lv mv:Value}{L M:List Value}(h:Pr W g ρ ra rm te tm cells lv mv L M) (hc:Chg T W W')
  (h1:∀b,T b->ρ b≠ra) (h2:∀b,T b->ρ b≠rm) (h3:∀b,T b->ρ b≠8):Pr W' g ρ ra rm te tm cells lv mv L M:=by
 refine⟨hc.row h.rl (fun x hx e=>h1 x e (h.fl x hx)),hc.row h.rk (fun x hx e=>h2 x e (h.fm x hx)),h.fl,h.fm,h.len,?_⟩
 intro i u m hu hm
 obtain⟨n,ao,cap,rfl,hn,hk⟩:=h.ent i u m hu hm
 refine⟨n,ao,cap,rfl,hn,fun k hkn=>?_⟩
 obtain⟨b,rfl,b0,b1,b2⟩:=hk k hkn
 refine⟨b,rfl,Nat.lt_of_lt_of_le b0 hc.size,b1,fun j hj=>?_⟩
 rw[<-b2 j hj]
 exact World.cell?_of_block (hc.block b b0 (fun e=>h3 b e b1))
theorem Pr.roles {W:World}{g:Nat}{ρ ρ':Nat->Nat}{ra rm:Nat}{te tm:TypeId}{cells:Value->List Value}{lv mv:Value}{L M:List Value}(h:Pr W g ρ ra rm te tm cells lv mv L M)
  (hr:∀b,b<W.heap.size->ρ b≠0->ρ' b=ρ b) (h1:ra≠0) (h2:rm≠0):Pr W g ρ' ra rm te tm cells lv mv L M:=by
 refine⟨h.rl,h.rk,fun b hb=>(hr b (h.rl.lt b hb).2 (by rw[h.fl b hb];exact h1)).trans (h.fl b hb),fun b hb=>(hr b (h.rk.lt b hb).2 (by rw[h.fm b hb];exact h2)).trans (h.fm b hb),h.len,?_⟩
 intro i u m hu hm
 obtain⟨n,ao,cap,rfl,hn,hk⟩:=h.ent i u m hu hm
 refine⟨n,ao,cap,rfl,hn,fun k hkn=>?_⟩
 obtain⟨b,rfl,b0,b1,b2⟩:=hk k hkn
 exact⟨b,rfl,b0,(hr b b0 (by rw[b1];decide)).trans b1,b2⟩
theorem Pr.taken {W W1 W2:World}{g:Nat}{ρ ρ':Nat->Nat}{ra rm:Nat}{te tm e:TypeId}{cells:Value->List Value}{lv mv lv' mv' v0 v1 v2 v3 m:Value}{L M:List Value}{n:Nat}
  (h:Pr W g ρ ra rm te tm cells lv mv L M) (hra:ra≠8) (hrm:rm≠8) (h0a:ra≠0) (h0m:rm≠0) (ham:ra≠rm)
  (H1:W1.ownsRow (g+1) te 1 lv' (L.length+4) (L++[v0,v1,v2,v3])) (X1:Chg (fun b=>lv.ownBlock=some b\/ρ b=1) W W1) (D1:lv'.ownBlock=lv.ownBlock\/∀b,lv'.ownBlock=some b->W.heap.size<=b)
  (H2:W2.ownsRow (g+1) tm 1 mv' (M.length+4) (M++[m,m,m,m])) (X2:Chg (fun b=>mv.ownBlock=some b\/ρ b=1) W1 W2) (D2:mv'.ownBlock=mv.ownBlock\/∀b,mv'.ownBlock=some b->W1.heap.size<=b)
  (hr1:ra≠1) (_hr2:rm≠1) (hρ1:∀b,ρ b=1->b<W.heap.size)
  (C0:MkN W (g+1) e v0 n (cells m)) (C1:MkN W (g+1) e v1 (n+1) (cells m)) (C2:MkN W (g+1) e v2 (n+2) (cells m)) (C3:MkN W (g+1) e v3 (n+3) (cells m)) (hn:n+3<=10000)
  (hv:∀b,v0.ownBlock=some b\/v1.ownBlock=some b\/v2.ownBlock=some b\/v3.ownBlock=some b->ρ b=0/\ρ' b=8)
  (hρ:∀b,b<W.heap.size->ρ b≠0->ρ' b=ρ b) (hρa:∀b,W.heap.size<=b->lv'.ownBlock=some b->ρ' b=ra) (hρm:∀b,W1.heap.size<=b->mv'.ownBlock=some b->ρ' b=rm) :
  Pr W2 g ρ' ra rm te tm cells lv' mv' (L++[v0,v1,v2,v3]) (M++[m,m,m,m]):=by
 have s1:=X1.size
 have k1:∀b,lv'.ownBlock=some b->lv.ownBlock=some b\/W.heap.size<=b:=fun b hb=>by
  rcases D1 with h|h
  ·exact .inl (h▸hb)
  ·exact .inr (h b hb)
 have k2:∀b,mv'.ownBlock=some b->mv.ownBlock=some b\/W1.heap.size<=b:=fun b hb=>by
  rcases D2 with h|h
  ·exact .inl (h▸hb)
  ·exact .inr (h b hb)
 have far:∀b o u,ρ b≠ra->ρ b≠rm->ρ b≠1->W.cell? ⟨b,o,none⟩=some u->W2.cell? ⟨b,o,none⟩=some u:=fun b o u g1 g2 g3 hu=>
  X2.cell (X1.cell hu (fun e=>e.elim (fun e=>g1 (h.fl b e)) g3)) (fun e=>e.elim (fun e=>g2 (h.fm b e)) g3)
 have new:∀(u:Value) (k:Nat),MkN W (g+1) e u k (cells m)->k<=10000->(∀b,u.ownBlock=some b->ρ b=0/\ρ' b=8)->
   ∃n ao cap,u = .slice ao n cap/\n<=10000/\∀k,k<n->∃b,ao=some ⟨b,0,none⟩/\b<W2.heap.size/\ρ' b=8/\∀j,j<(cells m).length->W2.cell? ⟨b,k*(cells m).length+j,none⟩=(cells m)[j]?:=by
  intro u k hM hk hu
  obtain⟨ao,cap,rfl⟩:=hM.shape
  refine⟨k,ao,cap,rfl,hk,fun i hi=>?_⟩
  obtain⟨b,rfl,_,hb2,hc⟩:=hM.cell i hi
  obtain⟨z1,z2⟩:=hu b rfl
  refine⟨b,rfl,Nat.lt_of_lt_of_le (Nat.lt_of_lt_of_le hb2 s1) X2.size,z2,fun j hj=>?_⟩
  obtain⟨c,hcj⟩:∃c,(cells m)[j]? = some c:=⟨_,List.getElem?_eq_getElem hj⟩
  rw[hcj]
  exact far b _ _ (by rw[z1];exact fun e=>h0a e.symm) (by rw[z1];exact fun e=>h0m e.symm) (by rw[z1];decide) ((hc j hj).trans hcj)
 refine⟨?_,?_,?_,?_,?_,?_⟩
 ·rw[List.length_append]
  refine X2.row H1 ?_
  intro x hx
  rintro(e|e)
  ·rcases k1 x hx with h'|h'
   ·exact ham ((h.fl x h').symm.trans (h.fm x e))
   ·have:=(h.rk.lt x e).2;omega
  ·rcases k1 x hx with h'|h'
   ·rw[h.fl x h']at e;exact hr1 e
   ·have:=hρ1 x e;omega
 ·rw[List.length_append]
  exact H2
 ·intro b hb
  rcases k1 b hb with h'|h'
  ·exact(hρ b (h.rl.lt b h').2 (by rw[h.fl b h'];exact h0a)).trans (h.fl b h')
  ·exact hρa b h' hb
 ·intro b hb
  rcases k2 b hb with h'|h'
  ·exact(hρ b (h.rk.lt b h').2 (by rw[h.fm b h'];exact h0m)).trans (h.fm b h')
  ·exact hρm b h' hb
 ·rw[List.length_append,List.length_append,h.len]
  rfl
 ·intro i u x hu hx
  by_cases hi:i<L.length
  ·rw[List.getElem?_append_left hi]at hu
   rw[List.getElem?_append_left (by rw[<-h.len];exact hi)]at hx
   obtain⟨n',ao,cap,rfl,hn',hk⟩:=h.ent i u x hu hx
   refine⟨n',ao,cap,rfl,hn',fun k hkn=>?_⟩
   obtain⟨b,rfl,b0,b1,b2⟩:=hk k hkn
   refine⟨b,rfl,Nat.lt_of_lt_of_le (Nat.lt_of_lt_of_le b0 s1) X2.size,(hρ b b0 (by rw[b1];decide)).trans b1,fun j hj=>?_⟩
   obtain⟨c,hcj⟩:∃c,(cells x)[j]? = some c:=⟨_,List.getElem?_eq_getElem hj⟩
   rw[hcj]
   exact far b _ _ (by rw[b1];exact fun e=>hra e.symm) (by rw[b1];exact fun e=>hrm e.symm) (by rw[b1];decide) ((b2 j hj).trans hcj)
  ·rw[List.getElem?_append_right (by omega)]at hu
   rw[List.getElem?_append_right (by rw[<-h.len];omega),<-h.len]at hx
   have hj:i-L.length<4:=by
    have:=(List.getElem?_eq_some_iff.1 hu).1
    simpa using this
   obtain⟨j,hjj⟩:∃j,i-L.length=j:=⟨_,rfl⟩
   rw[hjj]at hu hj hx
   match j,hj,hu,hx with
   | 0,_,hu,hx=>simp at hu hx;subst hu hx;exact new _ n C0 (by omega) (fun b hb=>hv b (.inl hb))
   | 1,_,hu,hx=>simp at hu hx;subst hu hx;exact new _ (n+1) C1 (by omega) (fun b hb=>hv b (.inr (.inl hb)))
   | 2,_,hu,hx=>simp at hu hx;subst hu hx;exact new _ (n+2) C2 (by omega) (fun b hb=>hv b (.inr (.inr (.inl hb))))
   | 3,_,hu,hx=>simp at hu hx;subst hu hx;exact new _ (n+3) C3 (by omega) (fun b hb=>hv b (.inr (.inr (.inr hb))))
structure BkN (W:World) (g:Nat) (ρ:Nat->Nat) (tv tk nv nk av ak:Value) (TL TM NL NM AL AM:List Value) (nx:Int):Prop where
 c0:W.cell? ⟨g,0,none⟩=some tv
 c1:W.cell? ⟨g,1,none⟩=some tk
 c2:W.cell? ⟨g,2,none⟩=some nv
 c3:W.cell? ⟨g,3,none⟩=some nk
 c4:W.cell? ⟨g,4,none⟩=some av
 c5:W.cell? ⟨g,5,none⟩=some ak
 c6:W.cell? ⟨g,6,none⟩=some (.int .i64 nx)
 fz:∀o,W.frozen? ⟨g,o,none⟩=false
 rg:∀b,ρ b=1↔b=g
 hi:∀b,W.heap.size<=b->ρ b=0
 tp:Pr W g ρ 2 3 32 9 (fun m=>[m]) tv tk TL TM
 np:Pr W g ρ 4 5 34 3 (fun m=>[m]) nv nk NL NM
 ap:Pr W g ρ 6 7 77 3 (fun m=>[m,m,.slice none 0 0]) av ak AL AM
theorem BkN.lt {W:World}{g:Nat}{ρ:Nat->Nat}{tv tk nv nk av ak:Value}{TL TM NL NM AL AM:List Value}{nx:Int}(h:BkN W g ρ tv tk nv nk av ak TL TM NL NM AL AM nx):g<W.heap.size:=lt_of_cell h.c0
theorem BkN.chg {W W':World}{g:Nat}{ρ:Nat->Nat}{T:Nat->Prop}{tv tk nv nk av ak:Value}{TL TM NL NM AL AM:List Value}{nx:Int}(h:BkN W g ρ tv tk nv nk av ak TL TM NL NM AL AM nx) (hc:Chg T W W') (hT:∀b,T b->ρ b=0) :
  BkN W' g ρ tv tk nv nk av ak TL TM NL NM AL AM nx:=by
 have hng:¬T g:=fun e=>by have:=hT g e;rw[(h.rg g).2 rfl]at this;cases this
 have q:∀r,r≠0->∀b,T b->ρ b≠r:=fun r hr b hb e=>hr (e.symm.trans (hT b hb))
 exact⟨hc.cell h.c0 hng,hc.cell h.c1 hng,hc.cell h.c2 hng,hc.cell h.c3 hng,hc.cell h.c4 hng,hc.cell h.c5 hng,hc.cell h.c6 hng,fun o=>(hc.frozen (p:=⟨g,o,none⟩) h.lt hng).trans (h.fz o),h.rg,fun b hb=>h.hi b (Nat.le_trans hc.size hb),
  h.tp.chg hc (q 2 (by decide)) (q 3 (by decide)) (q 8 (by decide)),h.np.chg hc (q 4 (by decide)) (q 5 (by decide)) (q 8 (by decide)),h.ap.chg hc (q 6 (by decide)) (q 7 (by decide)) (q 8 (by decide))⟩
theorem BkN.set6 {W:World}{g:Nat}{ρ:Nat->Nat}{tv tk nv nk av ak:Value}{TL TM NL NM AL AM:List Value}{nx:Int}(h:BkN W g ρ tv tk nv nk av ak TL TM NL NM AL AM nx) (ny:Int) :
  BkN (W.setCell ⟨g,6,none⟩ (.int .i64 ny)) g ρ tv tk nv nk av ak TL TM NL NM AL AM ny:=by
 have o:∀i u,i≠6->W.cell? ⟨g,i,none⟩=some u->(W.setCell ⟨g,6,none⟩ (.int .i64 ny)).cell? ⟨g,i,none⟩=some u:=fun i u hi hu=>(World.cell?_setCell_other _ ⟨g,6,none⟩ ⟨g,i,none⟩ _ (fun e=>hi (by injection e with _ e2 _;exact e2.symm))).trans hu
 have hc:Chg (fun b=>ρ b=1) W (W.setCell ⟨g,6,none⟩ (.int .i64 ny)):=(Chg.refl _ _).setCell ⟨g,6,none⟩ (.inl ((h.rg g).2 rfl)) _
 have q:∀r,r≠1->∀b,ρ b=1->ρ b≠r:=fun r hr b hb e=>hr (e.symm.trans hb)
 exact⟨o _ _ (by omega) h.c0,o _ _ (by omega) h.c1,o _ _ (by omega) h.c2,o _ _ (by omega) h.c3,o _ _ (by omega) h.c4,o _ _ (by omega) h.c5,World.cell?_setCell_same _ _ _ h.c6,fun o=>by rw[World.frozen?_setCell];exact h.fz o,h.rg,fun b hb=>h.hi b (by simpa using hb),
  h.tp.chg hc (q 2 (by decide)) (q 3 (by decide)) (q 8 (by decide)),h.np.chg hc (q 4 (by decide)) (q 5 (by decide)) (q 8 (by decide)),h.ap.chg hc (q 6 (by decide)) (q 7 (by decide)) (q 8 (by decide))⟩
theorem BkN.roles {W:World}{g:Nat}{ρ ρ':Nat->Nat}{tv tk nv nk av ak:Value}{TL TM NL NM AL AM:List Value}{nx:Int}(h:BkN W g ρ tv tk nv nk av ak TL TM NL NM AL AM nx)
  (hr:∀b,b<W.heap.size->ρ b≠0->ρ' b=ρ b) (h1:∀b,ρ' b=1->ρ b=1) (h2:∀b,W.heap.size<=b->ρ' b=0):BkN W g ρ' tv tk nv nk av ak TL TM NL NM AL AM nx:=
 ⟨h.c0,h.c1,h.c2,h.c3,h.c4,h.c5,h.c6,h.fz,fun b=>⟨fun e=>(h.rg b).1 (h1 b e),fun e=>by subst e;exact(hr b h.lt (by rw[(h.rg b).2 rfl];decide)).trans ((h.rg b).2 rfl)⟩,h2,
  h.tp.roles hr (by decide) (by decide),h.np.roles hr (by decide) (by decide),h.ap.roles hr (by decide) (by decide)⟩
def roleOf (w:World) (ρ:Nat->Nat) (ra rm:Nat) (lv mv v0 v1 v2 v3:Value) (b:Nat):Nat:=
 if lv.ownBlock=some b then ra else if mv.ownBlock=some b then rm
 else if v0.ownBlock=some b\/v1.ownBlock=some b\/v2.ownBlock=some b\/v3.ownBlock=some b then 8
 else if b<w.heap.size then ρ b else 0
theorem role_facts {w W W1 W2:World}{g:Nat}{ρ:Nat->Nat}{ra rm:Nat}{te tm e:TypeId}{cells:Value->List Value}{lv mv lv' mv' v0 v1 v2 v3 m:Value}{L M:List Value}{n:Nat}
  (h:Pr W g ρ ra rm te tm cells lv mv L M) (hw:w.heap.size<=W.heap.size) (hi:∀b,w.heap.size<=b->ρ b=0) (hra:1<ra) (hrm:1<rm)
  (H1:W1.ownsRow (g+1) te 1 lv' (L.length+4) (L++[v0,v1,v2,v3])) (s1:W.heap.size<=W1.heap.size) (D1:lv'.ownBlock=lv.ownBlock\/∀b,lv'.ownBlock=some b->W.heap.size<=b)
  (H2:W2.ownsRow (g+1) tm 1 mv' (M.length+4) (M++[m,m,m,m])) (s2:W1.heap.size<=W2.heap.size) (D2:mv'.ownBlock=mv.ownBlock\/∀b,mv'.ownBlock=some b->W1.heap.size<=b)
  (C0:MkN W (g+1) e v0 n (cells m)) (C1:MkN W (g+1) e v1 (n+1) (cells m)) (C2:MkN W (g+1) e v2 (n+2) (cells m)) (C3:MkN W (g+1) e v3 (n+3) (cells m))
  (hv0:∀b,v0.ownBlock=some b->ρ b=0) (E1:v1.ownBlock=v0.ownBlock\/∀b,v1.ownBlock=some b->w.heap.size<=b) (E2:v2.ownBlock=v0.ownBlock\/∀b,v2.ownBlock=some b->w.heap.size<=b) (E3:v3.ownBlock=v0.ownBlock\/∀b,v3.ownBlock=some b->w.heap.size<=b) (hg:∀b,ρ b=1↔b=g) (hgw:g<w.heap.size) :
  (∀b,v0.ownBlock=some b\/v1.ownBlock=some b\/v2.ownBlock=some b\/v3.ownBlock=some b->ρ b=0/\roleOf w ρ ra rm lv' mv' v0 v1 v2 v3 b=8)/\
  (∀b,b<W.heap.size->ρ b≠0->roleOf w ρ ra rm lv' mv' v0 v1 v2 v3 b=ρ b)/\
  (∀b,W.heap.size<=b->lv'.ownBlock=some b->roleOf w ρ ra rm lv' mv' v0 v1 v2 v3 b=ra)/\(∀b,W1.heap.size<=b->mv'.ownBlock=some b->roleOf w ρ ra rm lv' mv' v0 v1 v2 v3 b=rm)/\
  (∀b,roleOf w ρ ra rm lv' mv' v0 v1 v2 v3 b=1↔b=g)/\(∀b,W2.heap.size<=b->roleOf w ρ ra rm lv' mv' v0 v1 v2 v3 b=0)/\
  (∀b,b<w.heap.size->v0.ownBlock≠some b->ρ b=0->roleOf w ρ ra rm lv' mv' v0 v1 v2 v3 b=0):=by
 have k1:∀b,lv'.ownBlock=some b->(lv.ownBlock=some b/\ρ b=ra)\/W.heap.size<=b:=fun b hb=>by
  rcases D1 with h'|h'
  ·exact .inl ⟨h'▸hb,h.fl b (h'▸hb)⟩
  ·exact .inr (h' b hb)
 have k2:∀b,mv'.ownBlock=some b->(mv.ownBlock=some b/\ρ b=rm)\/W1.heap.size<=b:=fun b hb=>by
  rcases D2 with h'|h'
  ·exact .inl ⟨h'▸hb,h.fm b (h'▸hb)⟩
  ·exact .inr (h' b hb)
 have kv:∀b,v0.ownBlock=some b\/v1.ownBlock=some b\/v2.ownBlock=some b\/v3.ownBlock=some b->ρ b=0/\b<W.heap.size/\g+1<=b/\(v0.ownBlock=some b\/w.heap.size<=b):=by
  have one:∀u:Value,(u.ownBlock=v0.ownBlock\/∀b,u.ownBlock=some b->w.heap.size<=b)->∀b,u.ownBlock=some b->ρ b=0/\(v0.ownBlock=some b\/w.heap.size<=b):=fun u hu b hb=>by
   rcases hu with h'|h'
   ·exact⟨hv0 b (h'▸hb),.inl (h'▸hb)⟩
   ·exact⟨hi b (h' b hb),.inr (h' b hb)⟩
  rintro b (hb|hb|hb|hb)
  ·exact⟨hv0 b hb,(World.ownsRow.lt C0 b hb).2,(World.ownsRow.lt C0 b hb).1,.inl hb⟩
  ·exact⟨(one v1 E1 b hb).1,(World.ownsRow.lt C1 b hb).2,(World.ownsRow.lt C1 b hb).1,(one v1 E1 b hb).2⟩
  ·exact⟨(one v2 E2 b hb).1,(World.ownsRow.lt C2 b hb).2,(World.ownsRow.lt C2 b hb).1,(one v2 E2 b hb).2⟩
  ·exact⟨(one v3 E3 b hb).1,(World.ownsRow.lt C3 b hb).2,(World.ownsRow.lt C3 b hb).1,(one v3 E3 b hb).2⟩
 have n1:∀b,ρ b=0->b<W.heap.size->lv'.ownBlock≠some b:=fun b h0 hb e=>by
  rcases k1 b e with h'|h'
  ·omega
  ·omega
 have n2:∀b,ρ b=0->b<W1.heap.size->mv'.ownBlock≠some b:=fun b h0 hb e=>by
  rcases k2 b e with h'|h'
  ·omega
  ·omega
 refine⟨?_,?_,?_,?_,?_,?_,?_⟩
 ·intro b hb
  obtain⟨z1,z2,_⟩:=kv b hb
  refine⟨z1,?_⟩
  unfold roleOf
  rw[if_neg (n1 b z1 z2),if_neg (n2 b z1 (by omega)),if_pos hb]
 ·intro b hb hne
  unfold roleOf
  by_cases e1:lv'.ownBlock=some b
  ·rw[if_pos e1]
   rcases k1 b e1 with h'|h'
   ·exact h'.2.symm
   ·omega
  ·rw[if_neg e1]
   by_cases e2:mv'.ownBlock=some b
   ·rw[if_pos e2]
    rcases k2 b e2 with h'|h'
    ·exact h'.2.symm
    ·omega
   ·rw[if_neg e2,if_neg (fun e=>hne (kv b e).1)]
    by_cases e3:b<w.heap.size
    ·rw[if_pos e3]
    ·exact absurd (hi b (by omega)) hne
 ·intro b _ hb
  unfold roleOf
  rw[if_pos hb]
 ·intro b hb1 hb
  unfold roleOf
  rw[if_neg (fun e=>by have:=(H1.lt b e).2;omega),if_pos hb]
 ·intro b
  constructor
  ·intro e
   unfold roleOf at e
   split at e
   ·omega
   ·split at e
    ·omega
    ·split at e
     ·cases e
     ·split at e
      ·exact(hg b).1 e
      ·cases e
  ·intro e
   subst e
   unfold roleOf
   rw[if_neg (fun e=>by have:=(H1.lt b e).1;omega),if_neg (fun e=>by have:=(H2.lt b e).1;omega),if_neg (fun e=>by have:=(kv b e).2.2.1;omega),if_pos hgw]
   exact(hg b).2 rfl
 ·intro b hb
  unfold roleOf
  rw[if_neg (fun e=>by have:=(H1.lt b e).2;omega),if_neg (fun e=>by have:=(H2.lt b e).2;omega),if_neg (fun e=>by have:=(kv b e).2.1;omega),if_neg (by omega)]
 ·intro b hb hne h0
  unfold roleOf
  rw[if_neg (n1 b h0 (by omega)),if_neg (n2 b h0 (by omega)),if_neg (fun e=>by rcases(kv b e).2.2.2 with h'|h';exact hne h';omega),if_pos hb]
  exact h0
theorem rep_one (n:Nat) (x:Value):rep n [x]=List.replicate n x:=by
 unfold rep
 induction n with
 | zero=>rfl
 | succ n ih=>rw[List.replicate_succ,List.flatten_cons,ih,List.replicate_succ];rfl
theorem Mk.mkN {W:World}{base n:Nat}{v:Value}{m:Int}(h:Mk W base v n m):MkN W base 3 v n [.int .i64 m]:=by
 unfold MkN
 rw[rep_one]
 exact h
theorem takenN {ρ:Nat->Nat}{w wr w3 w4 w5:World}{g n:Nat}{tv tk nv nk av ak v v1 v2 v3 v4 v5:Value}{TL TM NL NM AL AM:List Value}{nx m:Int}
  (_hB:BkN wr g ρ tv tk nv nk av ak TL TM NL NM AL AM nx) (hB3:BkN w3 g ρ tv tk nv nk av ak TL TM NL NM AL AM nx) (hi:∀b,w.heap.size<=b->ρ b=0) (hgw:g<w.heap.size) (hww:w.heap.size<=wr.heap.size) (hw3:wr.heap.size<=w3.heap.size) (hv:∀b,v.ownBlock=some b->ρ b=0)
  (C0:Mk w3 (g+1) v n m) (C1:Mk w3 (g+1) v1 (n+1) m) (C2:Mk w3 (g+1) v2 (n+2) m) (C3:Mk w3 (g+1) v3 (n+3) m) (hn:n<=9000)
  (D1:v1.ownBlock=v.ownBlock\/∀b,v1.ownBlock=some b->wr.heap.size<=b) (D2:v2.ownBlock=v.ownBlock\/∀b,v2.ownBlock=some b->wr.heap.size<=b) (D3:v3.ownBlock=v.ownBlock\/∀b,v3.ownBlock=some b->wr.heap.size<=b)
  (H4:w4.ownsRow (g+1) 34 1 v4 (NL.length+4) (NL++[v,v1,v2,v3])) (X4:Chg (fun b=>nv.ownBlock=some b) w3 w4) (D4:v4.ownBlock=nv.ownBlock\/∀b,v4.ownBlock=some b->w3.heap.size<=b)
  (H5:w5.ownsRow (g+1) 3 1 v5 (NM.length+4) (NM++[.int .i64 m,.int .i64 m,.int .i64 m,.int .i64 m])) (X5:Chg (fun b=>nk.ownBlock=some b) (w4.setCell ⟨g,2,none⟩ v4) w5)
  (D5:v5.ownBlock=nk.ownBlock\/∀b,v5.ownBlock=some b->w4.heap.size<=b) :
  BkN (w5.setCell ⟨g,3,none⟩ v5) g (roleOf w ρ 4 5 v4 v5 v v1 v2 v3) tv tk v4 v5 av ak TL TM (NL++[v,v1,v2,v3]) (NM++[.int .i64 m,.int .i64 m,.int .i64 m,.int .i64 m]) AL AM nx/\
   (∀b,b<w.heap.size->ρ b≠0->roleOf w ρ 4 5 v4 v5 v v1 v2 v3 b=ρ b)/\(∀b,b<w.heap.size->v.ownBlock≠some b->ρ b=0->roleOf w ρ 4 5 v4 v5 v v1 v2 v3 b=0):=by
 have h1g:=(hB3.rg g).2 rfl
 have hng:¬nv.ownBlock=some g:=fun e=>by have:=(hB3.np.rl.lt g e).1;omega
 have hmg:¬nk.ownBlock=some g:=fun e=>by have:=(hB3.np.rk.lt g e).1;omega
 have X1:Chg (fun b=>nv.ownBlock=some b\/ρ b=1) w3 (w4.setCell ⟨g,2,none⟩ v4):=(X4.mono (fun _ _ e=>.inl e)).setCell ⟨g,2,none⟩ (.inl (.inr h1g)) _
 have X2:Chg (fun b=>nk.ownBlock=some b\/ρ b=1) (w4.setCell ⟨g,2,none⟩ v4) (w5.setCell ⟨g,3,none⟩ v5):=(X5.mono (fun _ _ e=>.inl e)).setCell ⟨g,3,none⟩ (.inl (.inr h1g)) _
 have H1:(w4.setCell ⟨g,2,none⟩ v4).ownsRow (g+1) 34 1 v4 (NL.length+4) (NL++[v,v1,v2,v3]):=ownsRow_setCell_below H4 (Nat.lt_succ_self g) _
 have H2:(w5.setCell ⟨g,3,none⟩ v5).ownsRow (g+1) 3 1 v5 (NM.length+4) (NM++[.int .i64 m,.int .i64 m,.int .i64 m,.int .i64 m]):=ownsRow_setCell_below H5 (Nat.lt_succ_self g) _
 have D2':v5.ownBlock=nk.ownBlock\/∀b,v5.ownBlock=some b->(w4.setCell ⟨g,2,none⟩ v4).heap.size<=b:=D5.imp id (fun h b hb=>by simpa using h b hb)
 have up:∀(u:Value),(u.ownBlock=v.ownBlock\/∀b,u.ownBlock=some b->wr.heap.size<=b)->(u.ownBlock=v.ownBlock\/∀b,u.ownBlock=some b->w.heap.size<=b):=fun u h=>h.imp id (fun h b hb=>Nat.le_trans hww (h b hb))
 obtain⟨f1,f2,f3,f4,f5,f6,f7⟩:=role_facts (m:=.int .i64 m) hB3.np (Nat.le_trans hww hw3) hi (by decide) (by decide) H1 X1.size D4 H2 X2.size D2' C0.mkN C1.mkN C2.mkN C3.mkN hv (up v1 D1) (up v2 D2) (up v3 D3) hB3.rg hgw
 have q:∀r s,r≠1->r≠s->∀(x:Value),(∀b,x.ownBlock=some b->ρ b=s)->∀b,(x.ownBlock=some b\/ρ b=1)->ρ b≠r:=fun r s h1 h2 x hx b hb e=>by
  rcases hb with hb|hb
  ·exact h2 (e.symm.trans (hx b hb))
  ·exact h1 (e.symm.trans hb)
 have q1:∀r,r≠1->r≠4->∀b,(nv.ownBlock=some b\/ρ b=1)->ρ b≠r:=fun r a b=>q r 4 a b nv hB3.np.fl
 have q2:∀r,r≠1->r≠5->∀b,(nk.ownBlock=some b\/ρ b=1)->ρ b≠r:=fun r a b=>q r 5 a b nk hB3.np.fm
 have hsz:w3.heap.size<=(w5.setCell ⟨g,3,none⟩ v5).heap.size:=Nat.le_trans X1.size X2.size
 have keep:∀b,b<(w5.setCell ⟨g,3,none⟩ v5).heap.size->ρ b≠0->roleOf w ρ 4 5 v4 v5 v v1 v2 v3 b=ρ b:=fun b _ hne=>f2 b (by
  rcases Nat.lt_or_ge b w3.heap.size with h|h
  ·exact h
  ·exact absurd (hB3.hi b h) hne) hne
 have own:∀o u,o≠2->o≠3->w3.cell? ⟨g,o,none⟩=some u->(w5.setCell ⟨g,3,none⟩ v5).cell? ⟨g,o,none⟩=some u:=fun o u h2 h3 h4=>by
  rw[World.cell?_setCell_other _ ⟨g,3,none⟩ ⟨g,o,none⟩ _ (fun e=>h3 (by injection e with _ e2 _;exact e2.symm))]
  refine X5.cell ?_ hmg
  rw[World.cell?_setCell_other _ ⟨g,2,none⟩ ⟨g,o,none⟩ _ (fun e=>h2 (by injection e with _ e2 _;exact e2.symm))]
  exact X4.cell h4 hng
 have c3:(w4.setCell ⟨g,2,none⟩ v4).cell? ⟨g,3,none⟩=some nk:=(World.cell?_setCell_other _ ⟨g,2,none⟩ ⟨g,3,none⟩ _ (by simp)).trans (X4.cell hB3.c3 hng)
 refine⟨⟨own 0 _ (by omega) (by omega) hB3.c0,own 1 _ (by omega) (by omega) hB3.c1,?_,World.cell?_setCell_same _ _ _ (X5.cell c3 hmg),own 4 _ (by omega) (by omega) hB3.c4,own 5 _ (by omega) (by omega) hB3.c5,own 6 _ (by omega) (by omega) hB3.c6,?_,f5,f6,?_,?_,?_⟩,?_,f7⟩
 ·rw[World.cell?_setCell_other _ ⟨g,3,none⟩ ⟨g,2,none⟩ _ (by simp)]
  exact X5.cell (World.cell?_setCell_same _ _ _ (X4.cell hB3.c2 hng)) hmg
 ·intro o
  rw[World.frozen?_setCell,X5.frozen (p:=⟨g,o,none⟩) (by have:=hB3.lt;have:=X4.size;simp;omega) hmg,World.frozen?_setCell,X4.frozen (p:=⟨g,o,none⟩) hB3.lt hng]
  exact hB3.fz o
 ·exact((hB3.tp.chg X1 (q1 2 (by decide) (by decide)) (q1 3 (by decide) (by decide)) (q1 8 (by decide) (by decide))).chg X2 (q2 2 (by decide) (by decide)) (q2 3 (by decide) (by decide)) (q2 8 (by decide) (by decide))).roles keep (by decide) (by decide)
 ·exact hB3.np.taken (by decide) (by decide) (by decide) (by decide) (by decide) H1 X1 D4 H2 X2 D2' (by decide) (by decide) (fun b hb=>by rw[(hB3.rg b).1 hb];exact hB3.lt) C0.mkN C1.mkN C2.mkN C3.mkN (by omega) f1 f2 f3 f4
 ·exact((hB3.ap.chg X1 (q1 6 (by decide) (by decide)) (q1 7 (by decide) (by decide)) (q1 8 (by decide) (by decide))).chg X2 (q2 6 (by decide) (by decide)) (q2 7 (by decide) (by decide)) (q2 8 (by decide) (by decide))).roles keep (by decide) (by decide)
 ·exact fun b hb hne=>f2 b (by omega) hne
theorem Mk.ofN {W:World}{base n:Nat}{v:Value}{m:Int}(h:MkN W base 3 v n [.int .i64 m]):Mk W base v n m:=by
 unfold MkN at h
 rw[rep_one]at h
 exact h
theorem wpList_append_marksN {ops:Array Oper}{rest:List Oper}{o:Oper}{a:Act}{w:World}{Q:Exit->Act->World->Prop}(hgd:o.guard=none) (s x:Operand)
  (ho:o.op = .call { callee:=.builtin .append,args:=#[s,x],argTypes:=#[34,34] })
  (base:Nat) (i:TypeInfo) (hi:Tryz.prog.info? 3=some i/\i.zero=some (.int .i64 0)/\i.size=1/\i.bytes=8)
  (v:Value) (n j:Nat) (m:Int) (hs:a.eval s=v) (hown:Mk w base v n m) (ad:Addr) (c:Nat) (hx:a.eval x = .slice (some ad) j c) (hnews:∀k u,(List.replicate j (Value.int .i64 m))[k]? = some u->w.cell? (ad.add k)=some u)
  (hn:n+j<=10000) (hbase:base<=w.heap.size)
  (h:∀v' w',Mk w' base v' (n+j) m->(∀u k,k<=n+j->Mk w base u k m->Mk w' base u k m)->w.grownBy w' v.ownBlock->(v'.ownBlock=v.ownBlock\/v'.ownBlock=some w.heap.size)->wpList Tryz.prog ops Q rest (a.put o.dst v') w') :
  wpList Tryz.prog ops Q (o::rest) a w:=by
 refine wpList_plain hgd fun K hK=>?_
 obtain⟨v',w',hr,h2,h3,h4,h5⟩:=append_like w base 34 3 o.type Tryz.underlying34 i (.int .i64 0) 8 hi.1 hi.2.1 [.int .i64 m] hi.2.2.1 hi.2.2.2 (by decide) rfl Nat.one_pos (by intro u hu;simp at hu;subst hu;rfl) v n j hown.mkN ad c (by rw[rep_one];exact hnews) hn hbase
 unfold Oper.wp execOp
 simp only[ho,resolve,invoke,builtin,Sem.run_bind,Sem.run_pure,Result.andThen_ok,List.map_toArray,List.map_cons,List.map_nil,hs,hx,hr]
 exact hK _ _ (h v' w' (Mk.ofN h2) (fun u k hk hu=>Mk.ofN (h3 u k hk hu.mkN)) h4 h5)
end Pk
open Pk
theorem ownsN_any (g:Nat) (ρ:Nat->Nat) (tv tk nv nk av ak:Value) (TL TM NL NM AL AM:List Value) (nx:Int) (v:Value) (l:List Int) (w:World) (hB:BkN w g ρ tv tk nv nk av ak TL TM NL NM AL AM nx) (hown:OwnInts w (g+1) v l) (hf:∀b,v.ownBlock=some b->ρ b=0)
  (hl:l.length<=6400) (hN:NL.length<=1000000000) (hx0:0<=nx) (hx1:nx<=1000000000) :
  Calls Tryz.prog 28 #[.pointer (some ⟨g,0,none⟩),v] w fun e w'=>e = .returned (.tuple #[])/\∃ρ' nv' nk' NL',NL'.length=4/\
   BkN w' g ρ' tv tk nv' nk' av ak TL TM (NL++NL') (NM++[.int .i64 (-(nx+1)),.int .i64 (-(nx+1)),.int .i64 (-(nx+1)),.int .i64 (-(nx+1))]) AL AM (nx+1)/\(∀b,b<w.heap.size->ρ b≠0->ρ' b=ρ b)/\(∀b,b<w.heap.size->v.ownBlock≠some b->ρ b=0->ρ' b=0)/\
   Chg (fun b=>b=g\/nv.ownBlock=some b\/nk.ownBlock=some b\/v.ownBlock=some b) w w':=by
 have hinfo:(Tryz.prog.info? 3).map (fun i=>(i.zero,i.size,i.bytes))=some (some (.int .i64 0),1,8):=by kernel_rfl
 obtain⟨i0,hi,hz0,hz1,hz2⟩:=info_parts hinfo
 have Hi:Hid (Tryz.prog.info? 3=some i0/\i0.zero=some (.int .i64 0)/\i0.size=1/\i0.bytes=8):=⟨hi,hz0,hz1,hz2⟩
 have hinfo2:(Tryz.prog.info? 34).map (fun i=>(i.zero,i.size,i.bytes))=some (some (.slice none 0 0),1,24):=by kernel_rfl
 obtain⟨i2,hj,hy0,hy1,hy2⟩:=info_parts hinfo2
 have Hj:Hid (Tryz.prog.info? 34=some i2/\i2.zero=some (.slice none 0 0)/\i2.size=1/\i2.bytes=24):=⟨hj,hy0,hy1,hy2⟩
 clear hi hz0 hz1 hz2 hinfo hj hy0 hy1 hy2 hinfo2
 obtain⟨n,hnl⟩:∃n,l.length=n:=⟨_,rfl⟩
 obtain⟨ao,cap,hv⟩:=hown.shape
 have hrow0:w.ownsRow (g+1) 3 1 v l.length (l.map (Value.int .i64)):=hown
 rw[hnl]at hv hl hrow0
 subst hv
 have Hrow0:Hid (w.ownsRow (g+1) 3 1 (.slice ao n cap) n (l.map (Value.int .i64))):=hrow0
 clear hrow0 hnl hown
 obtain⟨an,cn,rfl⟩:=row_shape hB.np.rl
 obtain⟨am,cm,rfl⟩:=row_shape hB.np.rk
 have HB:Hid (BkN w g ρ tv tk (.slice an NL.length cn) (.slice am NM.length cm) av ak TL TM NL NM AL AM nx):=hB
 have Hhi:Hid (∀b,w.heap.size<=b->ρ b=0):=hB.hi
 have Hgw:Hid (g<w.heap.size):=hB.lt
 have c6:=hB.c6
 have fz:=hB.fz
 obtain⟨m,hm⟩:∃m,m = -(nx+1):=⟨_,rfl⟩
 have hm':-(nx+1)=m:=hm.symm
 have Hm:Hid (m = -(nx+1)):=hm
 clear hm hB
 go_enter Tryz.func28,Tryz.ntmps28
 go_wp2
 go_loopw [5] (fun i wr=>∃(k:Nat) (ys:List Value),k<=n/\i = .int .i64 k/\wr.ownsRow (g+1) 3 1 (.slice ao n cap) n ys/\(∀j,j<k->ys[j]? = some (.int .i64 m))/\BkN wr g ρ tv tk (.slice an NL.length cn) (.slice am NM.length cm) av ak TL TM NL NM AL AM (nx+1)/\Chg (fun b=>b=g\/(Value.slice an NL.length cn).ownBlock=some b\/(Value.slice am NM.length cm).ownBlock=some b\/(Value.slice ao n cap).ownBlock=some b) w wr) (fun i _=>n-(intOf i).toNat)
 case atStart=>exact⟨0,l.map (Value.int .i64),Nat.zero_le _,rfl,ownsRow_setCell_below Hrow0.out (Nat.lt_succ_self g) _,fun j hj=>by omega,HB.out.set6 _,(Chg.refl _ _).setCell _ (.inl (.inl rfl)) _⟩
 case round=>
  obtain⟨k,ys,hk,rfl,hrow,hys,hBk,hchg⟩:=hrel
  by_cases hlt:k<n
  ·obtain⟨gl,hao⟩:∃gl,ao=some ⟨gl,0,none⟩:=by
    rcases hrow.2 with⟨_,h0⟩|⟨gl,_,_,e,_⟩
    ·omega
    ·simp only[Value.slice.injEq]at e
     exact⟨gl,e.1⟩
   subst hao
   have hyl:ys.length=n:=by have:=hrow.1;omega
   obtain⟨y,hy⟩:∃y,ys[k]? = some y:=⟨_,List.getElem?_eq_getElem (by omega)⟩
   have hcell:wr.cell? ⟨gl,k,none⟩=some y:=(hrow.cellAt k (by omega)).trans hy
   have hfr:∀j,wr.frozen? ⟨gl,j,none⟩=false:=fun j=>hrow.frozenAt j
   have hlt':(k:Int)<n:=by omega
   have Hst:Hid (_/\_):=hrow.stored k (.int .i64 m)
   have Hys:Hid (∀j,j<k->ys[j]? = some (.int .i64 m)):=hys
   have HBk:Hid (BkN wr g ρ tv tk (.slice an NL.length cn) (.slice am NM.length cm) av ak TL TM NL NM AL AM (nx+1)):=hBk
   have hgl:gl≠g:=by have:=(hrow.lt gl rfl).1;omega
   have Hgl:Hid (ρ gl=0):=hf gl rfl
   clear hrow hys hBk hf c6 fz
   go_wp2
   go_roundw
   case rel=>
    refine⟨k+1,ys.set k (.int .i64 m),by omega,by go_num,Hst.out.1,?_,HBk.out.chg (T:=fun b=>b=gl) ⟨rfl,rfl,rfl,by simp,fun x _ hn=>heap_setCell_other _ _ x _ (fun e=>hn e)⟩ (fun b hb=>by rw[hb];exact Hgl.out),hchg.setCell ⟨gl,k,none⟩ (.inl (.inr (.inr (.inr rfl)))) _⟩
    intro j hj
    by_cases hjk:j=k
    ·subst hjk
     rw[List.getElem?_set_self (by omega)]
    ·rw[List.getElem?_set_ne (by omega)]
     exact Hys.out j (by omega)
   case measure=>simp[intOf];omega
  ·have hkl:k=n:=by omega
   have hM:Mk wr (g+1) (.slice ao n cap) n m:=by
    have e:ys=List.replicate n (.int .i64 m):=by
     apply List.ext_getElem?
     intro j
     by_cases hj:j<n
     ·rw[hys j (by omega)];simp[hj]
     ·rw[List.getElem?_eq_none (by have:=hrow.1;omega),List.getElem?_eq_none (by simp;omega)]
    rw[e]at hrow
    exact hrow
   have HM:Hid (Mk wr (g+1) (.slice ao n cap) n m):=hM
   have HBk:Hid (BkN wr g ρ tv tk (.slice an NL.length cn) (.slice am NM.length cm) av ak TL TM NL NM AL AM (nx+1)):=hBk
   have Hchg:Hid (Chg (fun b=>b=g\/(Value.slice an NL.length cn).ownBlock=some b\/(Value.slice am NM.length cm).ownBlock=some b\/(Value.slice ao n cap).ownBlock=some b) w wr):=hchg
   have hlt':¬(k:Int)<n:=by omega
   have hglt:=hBk.lt
   clear hM hBk hchg hrow hys c6 fz
   have HV:Hid (∀b,(Value.slice ao n cap).ownBlock=some b->ρ b=0):=hf
   clear hf Hrow0 hlt HB
   go_wp2_with (at_builtin;(
    refine wpList_append_marksN rfl (.tmp 31) (.tmp 33) rfl (g+1) i0 Hi.out (.slice ao n cap) n 1 m rfl (World.ownsRow.alloc HM.out _) _ 1 rfl (cells_new _ [.int .i64 m] _) (by omega) (by simp;omega) ?_
    intro v1 w1 h1 k1 g1 b1
    refine stop_here ?_))
   obtain⟨a1,p1,rfl⟩:=h1.shape
   have A1:Hid (Mk w1 (g+1) (.slice a1 (n+1) p1) (n+1) m):=h1
   have A0:Hid (Mk w1 (g+1) (.slice ao n cap) n m):=k1 _ _ (by omega) (World.ownsRow.alloc HM.out _)
   have X1:Hid (Chg (fun b=>(Value.slice ao n cap).ownBlock=some b) wr w1):=((Chg.refl _ _).alloc _).trans (Chg.ofGrown g1) (fun _ _ e=>e)
   have D1:Hid ((Value.slice a1 (n+1) p1).ownBlock=(Value.slice ao n cap).ownBlock\/∀b,(Value.slice a1 (n+1) p1).ownBlock=some b->wr.heap.size<=b):=b1.imp id (fun e b hb=>by rw[e]at hb;simp at hb;omega)
   have s1:g+1<=w1.heap.size:=Nat.le_trans (Nat.succ_le_of_lt hglt) X1.out.size
   clear h1 k1 g1 b1
   refine hid_in ?_
   go_wp2_with (at_builtin;(
    refine wpList_append_marksN rfl (.tmp 35) (.tmp 38) rfl (g+1) i0 Hi.out (.slice ao n cap) n 2 m rfl (World.ownsRow.alloc A0.out _) _ 2 rfl (cells_new _ [.int .i64 m,.int .i64 m] _) (by omega) (by simp;omega) ?_
    intro v2 w2 h2 k2 g2 b2
    refine stop_here ?_))
   obtain⟨a2,p2,rfl⟩:=h2.shape
   have B2:Hid (Mk w2 (g+1) (.slice a2 (n+2) p2) (n+2) m):=h2
   have B1:Hid (Mk w2 (g+1) (.slice a1 (n+1) p1) (n+1) m):=k2 _ _ (by omega) (World.ownsRow.alloc A1.out _)
   have B0:Hid (Mk w2 (g+1) (.slice ao n cap) n m):=k2 _ _ (by omega) (World.ownsRow.alloc A0.out _)
   have X2:Hid (Chg (fun b=>(Value.slice ao n cap).ownBlock=some b) wr w2):=(X1.out.alloc _).trans (Chg.ofGrown g2) (fun _ _ e=>e)
   have D2:Hid ((Value.slice a2 (n+2) p2).ownBlock=(Value.slice ao n cap).ownBlock\/∀b,(Value.slice a2 (n+2) p2).ownBlock=some b->wr.heap.size<=b):=b2.imp id (fun e b hb=>by rw[e]at hb;have:=X1.out.size;simp at hb;omega)
   have s2:g+1<=w2.heap.size:=Nat.le_trans (Nat.succ_le_of_lt hglt) X2.out.size
   clear h2 k2 g2 b2 A0 A1 X1
   refine hid_in ?_
   go_wp2_with (at_builtin;(
    refine wpList_append_marksN rfl (.tmp 40) (.tmp 44) rfl (g+1) i0 Hi.out (.slice ao n cap) n 3 m rfl (World.ownsRow.alloc B0.out _) _ 3 rfl (cells_new _ [.int .i64 m,.int .i64 m,.int .i64 m] _) (by omega) (by simp;omega) ?_
    intro v3 w3 h3 k3 g3 b3
    refine stop_here ?_))
   obtain⟨a3,p3,rfl⟩:=h3.shape
   have C3:Hid (Mk w3 (g+1) (.slice a3 (n+3) p3) (n+3) m):=h3
   have C2:Hid (Mk w3 (g+1) (.slice a2 (n+2) p2) (n+2) m):=k3 _ _ (by omega) (World.ownsRow.alloc B2.out _)
   have C1:Hid (Mk w3 (g+1) (.slice a1 (n+1) p1) (n+1) m):=k3 _ _ (by omega) (World.ownsRow.alloc B1.out _)
   have C0:Hid (Mk w3 (g+1) (.slice ao n cap) n m):=k3 _ _ (by omega) (World.ownsRow.alloc B0.out _)
   have X3:Hid (Chg (fun b=>(Value.slice ao n cap).ownBlock=some b) wr w3):=(X2.out.alloc _).trans (Chg.ofGrown g3) (fun _ _ e=>e)
   have D3:Hid ((Value.slice a3 (n+3) p3).ownBlock=(Value.slice ao n cap).ownBlock\/∀b,(Value.slice a3 (n+3) p3).ownBlock=some b->wr.heap.size<=b):=b3.imp id (fun e b hb=>by rw[e]at hb;have:=X2.out.size;simp at hb;omega)
   have s3:g+1<=w3.heap.size:=Nat.le_trans (Nat.succ_le_of_lt hglt) X3.out.size
   have BK3:Hid (BkN w3 g ρ tv tk (.slice an NL.length cn) (.slice am NM.length cm) av ak TL TM NL NM AL AM (nx+1)):=HBk.out.chg X3.out HV.out
   have c2:=BK3.out.c2
   clear h3 k3 g3 b3 B0 B1 B2 X2
   refine hid_in ?_
   go_wp2_with (at_builtin;(
    refine wpList_append_own_at _ rfl (.tmp 50) (.tmp 55) 33 rfl (g+1) 34 i2 (.slice none 0 0) 1 24 Tryz.underlying33 Hj.out.1 Hj.out.2.1 Hj.out.2.2.1 Hj.out.2.2.2 rfl (by decide) (.slice an NL.length cn) NL.length NL rfl (World.ownsRow.alloc BK3.out.np.rl _) _ 4 4 [.slice ao n cap,.slice a1 (n+1) p1,.slice a2 (n+2) p2,.slice a3 (n+3) p3] rfl rfl (cells_new _ [.slice ao n cap,.slice a1 (n+1) p1,.slice a2 (n+2) p2,.slice a3 (n+3) p3] _) ?_ ?_ ?_ ?_ ?_
    ·intro u hu
     simp only[List.mem_cons,List.not_mem_nil,or_false]at hu
     rcases hu with rfl|rfl|rfl|rfl<;>rfl
    ·unfold maxLen;omega
    ·omega
    ·simp;omega
    intro v4 w4 h4 g4 _ b4
    refine stop_here ?_))
   obtain⟨a4,p4,rfl⟩:=row_shape h4
   have H4:Hid (w4.ownsRow (g+1) 34 1 (.slice a4 (NL.length+4) p4) (NL.length+4) (NL++[.slice ao n cap,.slice a1 (n+1) p1,.slice a2 (n+2) p2,.slice a3 (n+3) p3])):=h4
   have X4:Hid (Chg (fun b=>(Value.slice an NL.length cn).ownBlock=some b) w3 w4):=((Chg.refl _ _).alloc _).trans (Chg.ofGrown g4) (fun _ _ e=>e)
   have D4:Hid ((Value.slice a4 (NL.length+4) p4).ownBlock=(Value.slice an NL.length cn).ownBlock\/∀b,(Value.slice a4 (NL.length+4) p4).ownBlock=some b->w3.heap.size<=b):=b4.imp id (fun e b hb=>by rw[e]at hb;simp at hb;omega)
   have hng:¬(Value.slice an NL.length cn).ownBlock=some g:=fun e=>by have:=(BK3.out.np.rl.lt g e).1;omega
   have d2:=X4.out.cell BK3.out.c2 hng
   have d3:=X4.out.cell BK3.out.c3 hng
   have f4:∀o,w4.frozen? ⟨g,o,none⟩=false:=fun o=>(X4.out.frozen (p:=⟨g,o,none⟩) (show g<w3.heap.size by omega) hng).trans (BK3.out.fz o)
   have s4:g+1<=w4.heap.size:=Nat.le_trans s3 X4.out.size
   have RM:Hid ((w4.setCell ⟨g,2,none⟩ (.slice a4 (NL.length+4) p4)).ownsRow (g+1) 3 1 (.slice am NM.length cm) NM.length NM):=ownsRow_setCell_below (X4.out.row BK3.out.np.rk (fun x hx e=>by have a:=BK3.out.np.fm x hx;have b:=BK3.out.np.fl x e;omega)) (Nat.lt_succ_self g) _
   have hML:NM.length<=1000000000:=by rw[<-BK3.out.np.len];exact hN
   clear h4 g4 b4 hng c2
   refine hid_in ?_
   go_wp2_with (at_builtin;(
    refine wpList_append_own_at _ rfl (.tmp 63) (.tmp 68) 34 rfl (g+1) 3 i0 (.int .i64 0) 1 8 Tryz.underlying34 Hi.out.1 Hi.out.2.1 Hi.out.2.2.1 Hi.out.2.2.2 rfl (by decide) (.slice am NM.length cm) NM.length NM rfl (World.ownsRow.alloc RM.out _) _ 4 4 [.int .i64 m,.int .i64 m,.int .i64 m,.int .i64 m] rfl rfl (cells_newAt _ [.int .i64 m,.int .i64 m,.int .i64 m,.int .i64 m] _ _ (by simp)) ?_ ?_ ?_ ?_ ?_
    ·intro u hu;simp at hu;subst hu;rfl
    ·unfold maxLen;omega
    ·omega
    ·simp;omega
    intro v5 w5 h5 g5 _ b5
    refine stop_here ?_))
   obtain⟨a5,p5,rfl⟩:=row_shape h5
   have H5:Hid (w5.ownsRow (g+1) 3 1 (.slice a5 (NM.length+4) p5) (NM.length+4) (NM++[.int .i64 m,.int .i64 m,.int .i64 m,.int .i64 m])):=h5
   have X5:Hid (Chg (fun b=>(Value.slice am NM.length cm).ownBlock=some b) (w4.setCell ⟨g,2,none⟩ (.slice a4 (NL.length+4) p4)) w5):=((Chg.refl _ _).alloc _).trans (Chg.ofGrown g5) (fun _ _ e=>e)
   have D5:Hid ((Value.slice a5 (NM.length+4) p5).ownBlock=(Value.slice am NM.length cm).ownBlock\/∀b,(Value.slice a5 (NM.length+4) p5).ownBlock=some b->w4.heap.size<=b):=b5.imp id (fun e b hb=>by rw[e]at hb;simp at hb;omega)
   have hmg:¬(Value.slice am NM.length cm).ownBlock=some g:=fun e=>by have:=(BK3.out.np.rk.lt g e).1;omega
   have e3:=X5.out.cell (p:=⟨g,3,none⟩) ((World.cell?_setCell_other _ ⟨g,2,none⟩ ⟨g,3,none⟩ _ (by simp)).trans d3) hmg
   have f5:∀o,w5.frozen? ⟨g,o,none⟩=false:=fun o=>(X5.out.frozen (p:=⟨g,o,none⟩) (by simp;omega) hmg).trans ((World.frozen?_setCell _ _ _ _).trans (f4 o))
   clear h5 g5 b5 hmg
   refine hid_in ?_
   go_wp2
   obtain⟨z1,z2,z3⟩:=takenN HBk.out BK3.out Hhi.out Hgw.out Hchg.out.size X3.out.size HV.out C0.out C1.out C2.out C3.out (by omega) D1.out D2.out D3.out H4.out X4.out D4.out H5.out X5.out D5.out
   refine bodyPost_end (v:=.tuple #[]) (by simp[results,Tryz.results28,go_sem]) rfl ⟨rfl,_,.slice a4 (NL.length+4) p4,.slice a5 (NM.length+4) p5,[.slice ao n cap,.slice a1 (n+1) p1,.slice a2 (n+2) p2,.slice a3 (n+3) p3],rfl,?_,z2,z3,?_⟩
   ·rw[<-Hm.out]
    exact z1
   ·refine(((Hchg.out.trans X3.out ?_).trans X4.out ?_).setCell ⟨g,2,none⟩ (.inl (.inl rfl)) _ |>.trans X5.out ?_).setCell ⟨g,3,none⟩ (.inl (.inl rfl)) _
    ·exact fun _ _ e=>.inr (.inr (.inr e))
    ·exact fun _ _ e=>.inr (.inl e)
    ·exact fun _ _ e=>.inr (.inr (.inl e))
end Go.Proofs.YtdjhhnolcafkiaaGreat
namespace Go.Proofs.YtdjhhnolcafkiaaGreat
open Go.RowKit
namespace Pk
theorem wp_append_at {w:World}{o:Oper}{a:Act}{K:Act->World->Prop}{Q:Exit->Act->World->Prop}(s x:Operand) (t:TypeId)
  (ho:o.op = .call { callee:=.builtin .append,args:=#[s,x],argTypes:=#[t,t] })
  (base:Nat) (e:TypeId) (i:TypeInfo) (z:Value) (size bytes:Nat) (ht:Tryz.prog.underlying t=some (.slice e)) (hi:Tryz.prog.info? e=some i) (hz:i.zero=some z)
  (hsize:i.size=size) (hby:i.bytes=bytes) (hzs:z.cells.size=size) (hsz:0<size)
  (v:Value) (n:Nat) (xs:List Value) (hs:a.eval s=v) (hown:w.ownsRow base e size v n xs)
  (ad:Addr) (m c:Nat) (news:List Value) (hx:a.eval x = .slice (some ad) m c) (hl:news.length=m*size) (hnews:∀j u,news[j]? = some u->w.cell? (ad.add j)=some u) (h1:∀u∈news,u.oneCell'=true)
  (h63:n+m<=maxLen) (hbytes:(n+m)*bytes<=140737488355328) (hbase:base<=w.heap.size)
  (h:∀v' w',w'.ownsRow base e size v' (n+m) (xs++news)->w.grownBy w' v.ownBlock->(v'.ownBlock=v.ownBlock\/v'.ownBlock=some w.heap.size)->K (a.put o.dst v') w'):o.wp Tryz.prog a w K Q:=by
 obtain⟨v',w',hr,h2,h3,_,h5⟩:=run_append_own_at (P:=Tryz.prog) w base t o.type e i z size bytes ht hi hz hsize hby hzs hsz v n xs hown ad m c news hl hnews h1 h63 hbytes hbase
 unfold Oper.wp execOp
 simp only[ho,resolve,invoke,builtin,Sem.run_bind,Sem.run_pure,Result.andThen_ok,List.map_toArray,List.map_cons,List.map_nil,hs,hx,hr]
 exact h v' w' h2 h3 h5
end Pk
open Pk
end Go.Proofs.YtdjhhnolcafkiaaGreat
