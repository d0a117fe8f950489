/-
  Whatever configuration and whatever script it is given, menderlaw.Passes returns true and leaves its arguments as they were: of senders, wants and packets the program's mender answers what the document's answers, on two menders in turn, and the lists that come out are their owner's. Where what it reads is of bulk at most 1048576.
-/
import Derived.Test.YtdjhhnolcafkiaaGreatG11
set_option linter.unusedVariables false
set_option linter.unusedSimpArgs false
set_option maxHeartbeats 40000000
set_option maxRecDepth 20000
namespace Go.Proofs.YtdjhhnolcafkiaaGreat
open Go.ChangeShapes Go.WideShapes Go.ChangeAt Go.RowKit Go.Deep
namespace Pas
open Up Pk Rl Oi
theorem passes_walk (c:Cfg) (L:List OpD) (sv:Value) (w:World) (hsv:IsOps w.heap.size w sv L) (hL:L.length<=1048576) (hok:∀o∈L,OpOk w.heap.size w o) :
  Calls Tryz.prog 3 #[.agg #[.int .i64 c.ring,.int .i64 c.window,.int .i64 c.delay,.int .i64 c.rate,.int .i64 c.burst,.int .i64 c.retry,.int .i64 c.tries],sv] w fun e w'=>e = .returned (.bool true)/\Below w.heap.size w w':=by
 have Hsv:=hyd hsv
 have Hok:=hyd hok
 obtain⟨ao,cap,rfl,-⟩:=hsv
 clear hok
 have HB:Hid (∀bk,Below w.heap.size w (w.alloc bk)):=fun bk=>(Below.refl _ _).alloc (Nat.le_refl _) bk
 go_enter Tryz.func3,Tryz.ntmps3
 go_wp2_with fail
 have HB1:Hid (Below w.heap.size w (w.alloc (.cells #[.int .i64 c.ring,.int .i64 c.window,.int .i64 c.delay,.int .i64 c.rate,.int .i64 c.burst,.int .i64 c.retry,.int .i64 c.tries] 23))):=HB.out _
 generalize w.alloc (.cells #[.int .i64 c.ring,.int .i64 c.window,.int .i64 c.delay,.int .i64 c.rate,.int .i64 c.burst,.int .i64 c.retry,.int .i64 c.tries] 23)=w1 at *
 have hz:=HB1.out.size
 have HO:Hid (∀o∈L,OpOk w1.heap.size w1 o):=fun o ho=>by
  have h1:=Hok.out o ho
  have h2:=h1.cv.carry HB1.out
  obtain⟨a,b,e,h3⟩:=h2
  exact⟨h1.tx,h1.en,h1.py,h1.cl,⟨a,b,e,fun j hj=>by
   obtain⟨b',o',e1,e2,e3⟩:=h3 j hj
   exact⟨b',o',e1,by omega,e3⟩⟩⟩
 have HS:Hid (IsOps w1.heap.size w1 (.slice ao L.length cap) L):=by
  obtain⟨a,b,e,h3⟩:=Hsv.out
  refine⟨a,b,e,fun j o ho=>?_⟩
  obtain⟨b',o',e1,e2,e3⟩:=h3 j o ho
  exact⟨b',o',e1,by omega,fun i u hu=>(HB1.out.cell (p:=⟨b',o'+j*30+i,none⟩) e2).trans (e3 i u hu)⟩
 refine(plays_any c L _ _ HS.out hL HO.out).mono ?_
 rintro e w2 ⟨rfl,hb⟩
 have HE:Hid (Below w.heap.size w w2):=HB1.out.trans (hb.mono hz)
 clear hb
 go_wp2
 go_ret
 exact⟨rfl,HE.out⟩
set_option maxRecDepth 100000 in
theorem contract (H:Type) (enc:TypeId × Value->H) (W:World) (base:Nat) (args:Array Value) (ds gs:List (DataW H)) (before:List MemPlace)
  (hval:∀(j:Nat) t v,Tryz.f3.params[j]? = some t->args[j]? = some v->Value.okWide Tryz.prog W .any base t v)
  (hW:DataW.Whole enc Tryz.prog Tryz.f3.params.toList Rows.passesSpec.vars false W args.toList ds gs before) (hk:Rows.uptoSmall H (ds++gs)=true) :
  Calls Tryz.prog 3 args W fun e W'=>∃v,e = .returned v/\Rows.passesSpec.post enc Tryz.prog Tryz.f3 false true false false W args v W':=by
 have hW':=hW
 obtain⟨p,q,hA0,hV,rfl,hfz,hnd⟩:=hW
 have hA:DataW.TrodAll enc Tryz.prog W 0 (fun _=>true) true Tryz.f3.params.toList args.toList ds p:=hA0
 rw[Tryz.params3]at hA hval
 obtain⟨v0,vs0,d0,ds0,p0,q0,hargs,rfl,rfl,h0,r0⟩:=trodAll_cons hA
 obtain⟨v1,vs1,d1,ds1,p1,q1,rfl,rfl,rfl,h1,r1⟩:=trodAll_cons r0
 obtain⟨rfl,rfl,rfl⟩:=trodAll_nil r1
 obtain rfl:args=#[v0,v1]:=by cases args;simp_all
 obtain⟨rfl,rfl⟩:=trodVars_none hV
 have hbk:Rows.uptoBulkAll [d0,d1]<=1048576:=of_decide_eq_true hk
 simp only[Rows.uptoBulkAll]at hbk
 have k0:=h0
 have k1:=h1
 have lt0:∀x∈p0,x.block<W.heap.size:=by obtain⟨m,hm⟩:=k0;exact DataW.trod_lt m _ _ _ hm
 have lt1:∀x∈p1,x.block<W.heap.size:=by obtain⟨m,hm⟩:=k1;exact DataW.trod_lt m _ _ _ hm
 obtain⟨c,rfl⟩:=config_in (hval 0 23 v0 rfl rfl) h0
 obtain⟨_,_,_,rfl⟩:=okWide_slice Tryz.underlying24 (hval 1 24 v1 rfl rfl)
 obtain⟨_,f1⟩:=h1
 obtain⟨l,l1,l2,l3⟩:=ops_in f1 (by simp only;omega)
 clear hA0
 refine(passes_walk c l _ W l1 l2 l3).mono fun e W' ⟨he,bel⟩=>?_
 subst he
 exact⟨_,rfl,_,_,_,[],_,[],hW',trodAll_mk1 (shut_bool Tryz.underlying4 _),(trodAll_cons_mk (Below.trod laidOut (by kernel_rfl) (of_decide_eq_true (by kernel_rfl)) k0 bel lt0) (trodAll_cons_mk (Below.trod laidOut (by kernel_rfl) (of_decide_eq_true (by kernel_rfl)) k1 bel lt1) trodAll_mk0)),rfl,bel.frame _,fun h=>by cases h⟩
set_option maxRecDepth 100000 in
theorem lifted (os:Os) (started:os.Started) (H:Type) (enc:TypeId × Value->H) (F:Stop.Interp) :
  ReturnsInHanded {} Tryz.checked os 3 .any ((Rows.OpenSpec.upto Rows.passesSpec).pre6 enc Tryz.prog Tryz.f3 Rows.passesUptoRow.domain false) (((Rows.OpenSpec.upto Rows.passesSpec).at F).post enc Tryz.prog Tryz.f3 false true false false):=by
 refine returnsInHanded_of_cond (C:=Tryz.checked) (s:=Rows.OpenSpec.upto Rows.passesSpec) (k:=Rows.uptoSmall) rfl own started (by kernel_rfl) Tryz.func3
  (OpenSpec.witness (enc:=enc) (C:=Tryz.checked) (s:=Rows.OpenSpec.upto Rows.passesSpec) (k:=Rows.uptoSmall) rfl false ⟨#[],#[.agg #[.int .i64 0,.int .i64 0,.int .i64 0,.int .i64 0,.int .i64 0,.int .i64 0,.int .i64 0],.slice none 0 0],[]⟩ 8 (by kernel_rfl) (by kernel_rfl) (by kernel_rfl)
   (x:=([.agg [.lit (.int .i64 0),.lit (.int .i64 0),.lit (.int .i64 0),.lit (.int .i64 0),.lit (.int .i64 0),.lit (.int .i64 0),.lit (.int .i64 0)],.nil],[],[])) (by kernel_rfl) rfl (by kernel_rfl)) ?_
 intro W base args ds gs before hval hW _ hk _
 exact contract H enc W base args ds gs before hval hW hk
end Pas
theorem passes_upto_holds:Rows.PassesUptoSaid:=
 OpenClaim.holds_of_cond 3 Tryz.f3 rfl rfl rfl rfl rfl rfl rfl ⟨rfl,rfl,rfl,rfl,rfl⟩ rfl rfl rfl rfl rfl (by kernel_rfl) Tryz.func3 (by kernel_rfl)
  (of_decide_eq_true (by kernel_rfl)) (by unfold Func.isWrapper;first|(rw[if_pos (by decide +kernel)];kernel_rfl)|(rw[if_neg (by decide +kernel)];exact⟨rfl,rfl⟩))
  (fun os started H enc _ F=>Pas.lifted os started H enc F)
end Go.Proofs.YtdjhhnolcafkiaaGreat
