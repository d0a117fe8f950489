import Derived.WalkKit
import Derived.Lib.Strings
import Derived.Laws.BitsAllLaws
import Derived.Test.YtdjhhnolcafkiaaGreatRows
import Derived.ProofKit
import Derived.OpenShut
import Derived.ShutString
import Derived.ChangeOld
import Derived.Below
import Derived.JoinedCond
import Derived.Deep.Slices
import Derived.Test.YtdjhhnolcafkiaaGreatChecked
import Derived.WalkSpells
import Derived.WalkLawsBesides
import Derived.Lib.AppendStr
import Derived.Laws.BytesString
import Derived.Maps.AppendAt
import Derived.Laws.OwnMore
import Derived.Lib.SliceRun
import Derived.ArgAppend
import Derived.Test.YtdjhhnolcafkiaaGreatProg
import Derived.Deep.RegionHeld
import Derived.KernelRfl
import Derived.Deep.RegionHeld3
import Derived.Lib.UnsafeStr
import Derived.Lib.BufferWrite
import Derived.ScopeJumps
set_option linter.unusedVariables false
set_option linter.unusedSimpArgs false
set_option maxHeartbeats 40000000
set_option maxRecDepth 20000
namespace Go.Proofs.YtdjhhnolcafkiaaGreat
namespace Pk
theorem ret_int {k:IntKind}{a b:Int}(h:a=b):Ending.returned (.int k a) = .returned (.int k b):=by rw[h]
theorem ret_bool {a b:Bool}(h:a=b):Ending.returned (.bool a) = .returned (.bool b):=by rw[h]
def num (l:List UInt8):Nat:=l.foldl (fun n b=>n*256+b.toNat) 0
theorem num_snoc (l:List UInt8) (b:UInt8):num (l++[b])=num l*256+b.toNat:=by
 simp[num,List.foldl_append]
theorem num_from (l:List UInt8) (a:Nat):l.foldl (fun n b=>n*256+b.toNat) a<(a+1)*256 ^ l.length:=by
 induction l generalizing a with
 | nil=>simp
 | cons b l ih=>
  have h:=ih (a*256+b.toNat)
  have hb:=b.toNat_lt
  rw[List.length_cons,Nat.pow_succ,List.foldl_cons]
  refine Nat.lt_of_lt_of_le h ?_
  rw[Nat.mul_comm (256 ^ l.length) 256,<-Nat.mul_assoc]
  exact Nat.mul_le_mul_right _ (by omega)
theorem num_lt (l:List UInt8):num l<256 ^ l.length:=by
 have:=num_from l 0
 simpa[num]using this
theorem take_snoc (s:ByteArray) (k:Nat) (h:k<s.size):s.data.toList.take (k+1)=s.data.toList.take k++[s[k]]:=by
 rw[List.take_succ_eq_append_getElem (by simpa using h)];rfl
theorem take_all (s:ByteArray) (k:Nat) (h:s.size<=k):s.data.toList.take k=s.data.toList:=List.take_of_length_le (by simpa using h)
theorem ofInt64 (a:Nat) (ha:a<9223372036854775808):(BitVec.ofInt 64 (a:Int)).toNat=a:=by
 rw[BitVec.ofInt_natCast,BitVec.toNat_ofNat];exact Nat.mod_eq_of_lt (by omega)
theorem wrapI64 (n:Int) (h0:0<=n) (h1:n<9223372036854775808):IntKind.i64.wrap n=n:=by
 simp[IntKind.wrap,IntKind.bits,IntKind.signed];omega
theorem or64 (a b:Nat) (ha:a<9223372036854775808) (hb:b<9223372036854775808):bits .or .i64 (a:Int) (b:Int)=((a ||| b:Nat):Int):=by
 have hx:a ||| b<2 ^ 63:=Nat.or_lt_two_pow (by omega) (by omega)
 show IntKind.i64.wrap ((BitVec.ofInt 64 (a:Int) ||| BitVec.ofInt 64 (b:Int)).toNat:Int)=_
 rw[BitVec.toNat_or,ofInt64 a ha,ofInt64 b hb,wrapI64 _ (by omega) (by omega)]
theorem wrap64_id (n:Int) (h0:0<=n) (h1:n<9223372036854775808):Go.RowKit.wrap64 n=n:=by unfold Go.RowKit.wrap64;omega
theorem or_byte (n:Nat) (b:UInt8) (h:n<4294967296):bits .or .i64 (Go.RowKit.wrap64 ((n:Int)*256)) (Go.RowKit.wrap64 (b.toNat:Int))=((n*256+b.toNat:Nat):Int):=by
 have hb:=b.toNat_lt
 rw[wrap64_id _ (by omega) (by omega),wrap64_id _ (by omega) (by omega)]
 have e:((n:Int)*256)=((n*256:Nat):Int):=by omega
 rw[e,or64 _ _ (by omega) (by omega),nat_join 8 (n*256) b.toNat (by omega) (by omega)]
theorem num_byte (s:ByteArray) (k:Nat) (h:k<s.size) (hs:s.size<=4) :
  bits .or .i64 (Go.RowKit.wrap64 ((num (s.data.toList.take k):Int)*256)) (Go.RowKit.wrap64 (s[k].toNat:Int))=(num (s.data.toList.take (k+1)):Int):=by
 rw[take_snoc s k h,num_snoc]
 refine or_byte _ _ ?_
 have h1:=num_lt (s.data.toList.take k)
 have h2:(s.data.toList.take k).length<=4:=by rw[List.length_take];omega
 have h3:256 ^ (s.data.toList.take k).length<=256 ^ 4:=Nat.pow_le_pow_right (by omega) h2
 omega
def noughts (l:List UInt8):Bool:=l.all (· == 0)
theorem noughts_snoc (l:List UInt8) (b:UInt8):noughts (l++[b])=(noughts l && b == 0):=by simp[noughts]
theorem noughts_false (l:List UInt8) (k:Nat) (h:noughts (l.take k)=false):noughts l=false:=by
 cases e:noughts l with
 | false=>rfl
 | true=>
  have:noughts (l.take k)=true:=by
   simp only[noughts,List.all_eq_true]at e ⊢
   exact fun x hx=>e x (List.mem_of_mem_take hx)
  rw[this]at h;cases h
def allIn (l:List Int) (most:Int):Bool:=l.all fun n=>decide (0<=n/\n<=most)
theorem lt_of_cell {w:World}{a:Addr}{v:Value}(h:w.cell? a=some v):a.block<w.heap.size:=by
 rcases Nat.lt_or_ge a.block w.heap.size with h'|h'
 ·exact h'
 ·have e:w.heap[a.block]? = none:=Array.getElem?_eq_none h'
  simp[World.cell?,e]at h
def IsInts (B:Nat) (w:World) (v:Value) (l:List Int):Prop:=
 ∃ao cap,v = .slice ao l.length cap/\∀j,j<l.length->∃b off,ao=some ⟨b,off,none⟩/\b<B/\w.cell? ⟨b,off+j,none⟩=some (.int .i64 (l.getD j 0))
theorem IsInts.carry {B:Nat}{w w':World}{v:Value}{l:List Int}(h:IsInts B w v l) (hb:Go.RowKit.Below B w w'):IsInts B w' v l:=by
 obtain⟨ao,cap,rfl,hc⟩:=h
 refine⟨ao,cap,rfl,fun j hj=>?_⟩
 obtain⟨b,off,e,hlt,hcell⟩:=hc j hj
 exact⟨b,off,e,hlt,(hb.cell hlt).trans hcell⟩
theorem IsInts.mono {B B':Nat}{w:World}{v:Value}{l:List Int}(h:IsInts B w v l) (hB:B<=B'):IsInts B' w v l:=by
 obtain⟨ao,cap,rfl,hc⟩:=h
 refine⟨ao,cap,rfl,fun j hj=>?_⟩
 obtain⟨b,off,e,hlt,hcell⟩:=hc j hj
 exact⟨b,off,e,by omega,hcell⟩
theorem IsInts.alloc {B:Nat}{w:World}{v:Value}{l:List Int}(h:IsInts B w v l) (hB:B<=w.heap.size) (o:Obj):IsInts B (w.alloc o) v l:=
 h.carry ((Go.RowKit.Below.refl _ _).alloc hB _)
theorem IsInts.cases {B:Nat}{w:World}{v:Value}{l:List Int}(h:IsInts B w v l) :
  (∃ao cap,v = .slice ao 0 cap/\l=[])\/∃b off cap,v = .slice (some ⟨b,off,none⟩) l.length cap/\0<l.length/\b<B/\∀j,j<l.length->w.cell? ⟨b,off+j,none⟩=some (.int .i64 (l.getD j 0)):=by
 obtain⟨ao,cap,rfl,hc⟩:=h
 cases l with
 | nil=>exact .inl ⟨ao,cap,rfl,rfl⟩
 | cons x l=>
  obtain⟨b,off,rfl,hlt,hcell⟩:=hc 0 (by simp)
  refine .inr ⟨b,off,cap,rfl,by simp,hlt,fun j hj=>?_⟩
  obtain⟨b',off',e,_,h'⟩:=hc j hj
  simp only[Option.some.injEq,Addr.mk.injEq,and_true]at e
  obtain⟨rfl,rfl⟩:=e
  exact h'
theorem allIn_take_succ (l:List Int) (k:Nat) (m:Int) (h:k<l.length):allIn (l.take (k+1)) m=(allIn (l.take k) m && decide (0<=l.getD k 0/\l.getD k 0<=m)):=by
 rw[List.take_succ_eq_append_getElem h,allIn,allIn,List.all_append]
 simp[h]
theorem allIn_false (l:List Int) (k:Nat) (m:Int) (h:allIn (l.take k) m=false):allIn l m=false:=by
 cases e:allIn l m with
 | false=>rfl
 | true=>
  have:allIn (l.take k) m=true:=by
   simp only[allIn,List.all_eq_true]at e ⊢
   exact fun x hx=>e x (List.mem_of_mem_take hx)
  rw[this]at h;cases h
def headOk (ty nu ti so:Int) (cl:List Int):Bool:=decide (0<=ty/\ty<=127) && decide (0<=nu/\nu<=65535) && decide (0<=ti/\ti<=4294967295) && decide (0<=so/\so<=4294967295) && decide (cl.length<=15) && allIn cl 4294967295
def extOk (ex:Bool) (pr:Int) (en:ByteArray):Bool:=if ex then decide (0<=pr/\pr<=65535) && decide (en.size%4=0)else decide (pr=0) && decide (en.size=0)
theorem extOk_no (pr:Int) (en:ByteArray):extOk false pr en=(decide (pr=0) && decide (en.size=0)):=rfl
theorem isEmpty_size (s:ByteArray):s.toList.isEmpty=decide (s.size=0):=by
 rw[Go.Lib.toList_data,Bool.eq_iff_iff,List.isEmpty_iff,decide_eq_true_iff]
 constructor
 ·intro h;rw[Go.Lib.size_eq,h];rfl
 ·intro h;exact List.eq_nil_of_length_eq_zero (by rw[<-Go.Lib.size_eq,h])
theorem extOk_yes (pr:Int) (en:ByteArray):extOk true pr en=(decide (0<=pr/\pr<=65535) && decide (en.size%4=0)):=rfl
theorem allIn_at (l:List Int) (k:Nat) (m:Int) (h:k<l.length) (hi:allIn l m=true):0<=l.getD k 0/\l.getD k 0<=m:=by
 simp only[allIn,List.all_eq_true,decide_eq_true_eq]at hi
 have e:l.getD k 0=l[k]:=by simp[List.getD,h]
 rw[e]
 exact hi _ (List.getElem_mem h)
def told:Nat->Nat->List UInt8
 | _,0=>[]
 | v,k+1=>told (v/256) k++[UInt8.ofNat (v%256)]
theorem told_length (v k:Nat):(told v k).length=k:=by
 induction k generalizing v with
 | zero=>rfl
 | succ k ih=>simp[told,ih]
theorem told_get (v k i:Nat) (h:i<k):(told v k)[i]? = some (UInt8.ofNat (v/256 ^ (k-1-i)%256)):=by
 induction k generalizing v with
 | zero=>omega
 | succ k ih=>
  rw[told]
  by_cases h':i<k
  ·rw[List.getElem?_append_left (by rw[told_length];exact h'),ih (v/256) h',Nat.div_div_eq_div_mul,<-Nat.pow_succ']
   rw[show(k-1-i).succ=k+1-1-i by omega]
  ·have e:i=k:=by omega
   subst e
   rw[List.getElem?_append_right (by rw[told_length];exact Nat.le_refl _),told_length]
   simp
theorem told_take (v k i:Nat) (h:i<k):(told v k).take (i+1)=(told v k).take i++[UInt8.ofNat (v/256 ^ (k-1-i)%256)]:=by
 have hl:i<(told v k).length:=by rw[told_length];exact h
 have hg:=told_get v k i h
 rw[List.getElem?_eq_getElem hl,Option.some.injEq]at hg
 rw[List.take_succ_eq_append_getElem hl,hg]
theorem byte_at (x m:Nat):((x:Int)/2 ^ (8*m)%256)=((UInt8.ofNat (x/256 ^ m%256)).toNat:Int):=by
 have e:(256:Nat) ^ m=2 ^ (8*m):=by rw[Nat.pow_mul]
 have h2:(UInt8.ofNat (x/256 ^ m%256)).toNat=x/2 ^ (8*m)%256:=by
  rw[UInt8.toNat_ofNat',e];exact Nat.mod_mod _ _
 rw[h2,Int.natCast_emod,Int.natCast_ediv,Int.natCast_pow]
 rfl
def padB (p:Nat):List UInt8:=if p=0 then[]else List.replicate (p-1) 0++[UInt8.ofNat p]
theorem padB_length (p:Nat):(padB p).length=p:=by
 unfold padB
 split
 ·simp;omega
 ·simp;omega
def extB (ex:Bool) (pr:Nat) (en:List UInt8):List UInt8:=if ex then told pr 2++told (en.length/4) 2++en else[]
theorem extB_length (ex:Bool) (pr:Nat) (en:List UInt8):(extB ex pr en).length=if ex then 4+en.length else 0:=by
 cases ex
 ·rfl
 ·simp[extB,told_length];omega
def conB:List Int->List UInt8
 | []=>[]
 | c::l=>told c.toNat 4++conB l
theorem conB_length (l:List Int):(conB l).length=4*l.length:=by
 induction l with
 | nil=>rfl
 | cons c l ih=>simp[conB,told_length,ih];omega
theorem conB_append (a b:List Int):conB (a++b)=conB a++conB b:=by
 induction a with
 | nil=>rfl
 | cons c l ih=>simp[conB,ih]
theorem conB_take (l:List Int) (k:Nat) (h:k<l.length):conB (l.take (k+1))=conB (l.take k)++told (l.getD k 0).toNat 4:=by
 rw[List.take_succ_eq_append_getElem h,conB_append]
 simp[conB,h]
def hdB (n:Nat) (pad ex:Bool):UInt8:=UInt8.ofNat (128+n+(if pad then 32 else 0)+if ex then 16 else 0)
def tyB (ty:Nat) (mk:Bool):UInt8:=UInt8.ofNat (ty+if mk then 128 else 0)
theorem hdB_toNat (n:Nat) (pad ex:Bool) (h:n<=15):(hdB n pad ex).toNat=128+n+(if pad then 32 else 0)+if ex then 16 else 0:=by
 rw[hdB,UInt8.toNat_ofNat']
 exact Nat.mod_eq_of_lt (by cases pad<;>cases ex<;>simp<;>omega)
theorem tyB_toNat (ty:Nat) (mk:Bool) (h:ty<=127):(tyB ty mk).toNat=ty+if mk then 128 else 0:=by
 rw[tyB,UInt8.toNat_ofNat']
 exact Nat.mod_eq_of_lt (by cases mk<;>simp<;>omega)
theorem hd_val {v:Int}{n:Nat}{pad ex:Bool}(hn:n<=15) (h:v=128+n+(if pad then 32 else 0)+if ex then 16 else 0):Value.int .u8 v = .int .u8 ((hdB n pad ex).toNat:Int):=by
 rw[h,hdB_toNat n pad ex hn];cases pad<;>cases ex<;>simp
theorem ty_val {v:Int}{ty:Nat}{mk:Bool}(hn:ty<=127) (h:v=ty+if mk then 128 else 0):Value.int .u8 v = .int .u8 ((tyB ty mk).toNat:Int):=by
 rw[h,tyB_toNat ty mk hn];cases mk<;>simp
theorem or_n (n:Nat) (h:n<=15):bits .or .i64 128 (n:Int)=128+n:=by
 have e:=or64 128 n (by omega) (by omega)
 have d:∀m,m<16->(128 ||| m:Nat)=128+m:=by decide
 rw[d n (by omega)]at e
 exact e
theorem or_32 (n:Nat) (h:n<=15):bits .or .i64 (128+(n:Int)) 32=160+n:=by
 have e:=or64 (128+n) 32 (by omega) (by omega)
 have d:∀m,m<16->((128+m) ||| 32:Nat)=160+m:=by decide
 rw[d n (by omega)]at e
 exact e
theorem or_16 (n:Nat) (h:n<=15):bits .or .i64 (128+(n:Int)) 16=144+n:=by
 have e:=or64 (128+n) 16 (by omega) (by omega)
 have d:∀m,m<16->((128+m) ||| 16:Nat)=144+m:=by decide
 rw[d n (by omega)]at e
 exact e
theorem or_48 (n:Nat) (h:n<=15):bits .or .i64 (160+(n:Int)) 16=176+n:=by
 have e:=or64 (160+n) 16 (by omega) (by omega)
 have d:∀m,m<16->((160+m) ||| 16:Nat)=176+m:=by decide
 rw[d n (by omega)]at e
 exact e
theorem or_128 (n:Nat) (h:n<=127):bits .or .i64 (n:Int) 128=n+128:=by
 have e:=or64 n 128 (by omega) (by omega)
 rw[Nat.or_comm,nat_join 7 128 n (by omega) (by omega),Nat.add_comm]at e
 exact e
def headB (n:Nat) (mk pad ex:Bool) (ty nu ti so:Nat):List UInt8:=[hdB n pad ex,tyB ty mk]++told nu 2++told ti 4++told so 4
theorem headB_length (n:Nat) (mk pad ex:Bool) (ty nu ti so:Nat):(headB n mk pad ex ty nu ti so).length=12:=by simp[headB,told_length]
def plen (ex:Bool) (cl:List Int) (en py:ByteArray) (pa:Int):Int:=12+4*cl.length+py.size+pa+if ex then 4+en.size else 0
def tellB (mk ex:Bool) (ty nu ti so pr pa:Int) (cl:List Int) (en py:ByteArray):List UInt8:=
 headB cl.length mk (decide (0<pa)) ex ty.toNat nu.toNat ti.toNat so.toNat++conB cl++extB ex pr.toNat en.data.toList++py.data.toList++padB pa.toNat
def tellOk (ex:Bool) (ty nu ti so pr pa:Int) (cl:List Int) (en:ByteArray):Bool:=headOk ty nu ti so cl && extOk ex pr en && decide (0<=pa/\pa<=255)
def tellR (mk ex:Bool) (ty nu ti so pr pa:Int) (cl:List Int) (en py:ByteArray):ByteArray × Int:=
 if tellOk ex ty nu ti so pr pa cl en then(if 1500<plen ex cl en py pa then(⟨#[]⟩,1)else(⟨(tellB mk ex ty nu ti so pr pa cl en py).toArray⟩,0))else(⟨#[]⟩,2)
theorem headOk_of {ty nu ti so:Int}{cl:List Int}(h:headOk ty nu ti so cl=true) :
  (0<=ty/\ty<=127)/\(0<=nu/\nu<=65535)/\(0<=ti/\ti<=4294967295)/\(0<=so/\so<=4294967295)/\cl.length<=15/\allIn cl 4294967295=true:=by
 simp only[headOk,Bool.and_eq_true,decide_eq_true_eq]at h
 exact⟨h.1.1.1.1.1,h.1.1.1.1.2,h.1.1.1.2,h.1.1.2,h.1.2,h.2⟩
end Pk
end Go.Proofs.YtdjhhnolcafkiaaGreat
namespace Go.Proofs.YtdjhhnolcafkiaaGreat
open Go.ChangeShapes Go.WideShapes Go.ChangeAt Go.RowKit Go.Deep
namespace Up
theorem own:ownKnob Tryz.prog.godebug=none:=by kernel_rfl
theorem laidOut:laidOutB Tryz.prog=true:=by kernel_rfl
theorem bulk_pos {H:Type}(d:DataW H):0<Rows.uptoBulk d:=by
 cases d with
 | lit l=>cases l<;>simp[Rows.uptoBulk]
 | _=>simp[Rows.uptoBulk]
theorem bulk_len {H:Type}:∀l:List (DataW H),l.length<=Rows.uptoBulkAll l
 | []=>Nat.zero_le _
 | d::r=>by have h1:=bulk_len r;have h2:=bulk_pos d;rw[Rows.uptoBulkAll,List.length_cons];omega
theorem bulk_mem {H:Type}{d:DataW H}:∀{l:List (DataW H)},d∈l->Rows.uptoBulk d<=Rows.uptoBulkAll l
 | x::r,h=>by
  rw[Rows.uptoBulkAll]
  rcases List.mem_cons.1 h with rfl|h
  ·omega
  ·have:=bulk_mem h;omega
theorem bulk_row {H:Type}(a b:List (DataW H)):Rows.uptoBulkAll a+1<=Rows.uptoBulk (.slice a b):=by rw[Rows.uptoBulk];omega
theorem bulk_agg {H:Type}(a:List (DataW H)):Rows.uptoBulkAll a<=Rows.uptoBulk (.agg a):=by rw[Rows.uptoBulk];omega
section
variable {H : Type} {enc : TypeId × Value -> H} {W : World} {base : Nat} {spare : Nat -> Bool} {held : Bool}
theorem text_in {fuel:Nat}{c:Value}{x:DataW H × List MemPlace}(h:DataW.trod enc Tryz.prog W base spare held fuel 9 [c]=some x):∃s:ByteArray,c = .string s/\s.size+1<=Rows.uptoBulk x.1:=by
 obtain⟨s,e,hx,_⟩:=DataW.trod_string Tryz.underlying9 h
 simp only[List.cons.injEq,and_true]at e
 refine⟨s,e,?_⟩
 rw[hx,Rows.uptoBulk,Lib.size_eq]
 exact Nat.le_refl _
theorem ints_in {fuel:Nat}{c:Value}{x:DataW H × List MemPlace}(h:DataW.trod enc Tryz.prog W base spare held fuel 34 [c]=some x) :
  ∃l:List Int,Pk.IsInts W.heap.size W c l/\l.length<=Rows.uptoBulk x.1:=by
 rcases open_ints Tryz.underlying34 Tryz.underlying3 (by kernel_rfl) h with⟨hcs,_⟩|⟨a,len,cap,zs,hcs,_,hl,hm,hz,_,hcell,hwz⟩
 ·simp only[List.cons.injEq,and_true]at hcs
  subst hcs
  exact⟨[],⟨none,0,rfl,fun j hj=>absurd hj (by simp)⟩,Nat.zero_le _⟩
 ·simp only[List.cons.injEq,and_true]at hcs
  subst hcs
  have hlz:len<=zs.length:=by split at hz<;>omega
  have hlen:(zs.take len).length=len:=by rw[List.length_take];omega
  have hbk:len<=Rows.uptoBulk x.1:=by
   rcases open_slice1 Tryz.underlying34 (by kernel_rfl) h with⟨hcs,_⟩|⟨a',len',cap',m,n,V,D,Pl,hcs,_,hl',hm',hmm,rfl,hx⟩
   ·simp at hcs
   ·simp only[List.cons.injEq,and_true,Value.slice.injEq]at hcs
    have hb1:=bulk_row ((List.range len').map D) ((List.range (m-len')).map fun j=>D (len'+j))
    have hb2:=bulk_len ((List.range len').map D)
    rw[List.length_map,List.length_range]at hb2
    have:=hcs.2.1
    simp only
    omega
  refine⟨zs.take len,⟨some a,cap,by rw[hlen],fun j hj=>?_⟩,by rw[hlen];exact hbk⟩
  rw[hlen]at hj
  obtain⟨b,off,rfl,hcells⟩:=ints_at hcell (by omega)
  have h1:=hcells j (by omega)
  refine⟨b,off,rfl,Pk.lt_of_cell h1,?_⟩
  rw[h1]
  simp[List.getD,hj]
end
end Up
end Go.Proofs.YtdjhhnolcafkiaaGreat
namespace Go.Proofs.YtdjhhnolcafkiaaGreat
open Go.RowKit
namespace Pk
def OwnInts (w:World) (base:Nat) (v:Value) (l:List Int):Prop:=w.ownsRow base 3 1 v l.length (l.map (Value.int .i64))
theorem OwnInts.isInts {w:World}{base:Nat}{v:Value}{l:List Int}(h:OwnInts w base v l):IsInts w.heap.size w v l:=by
 obtain⟨h1,h2|⟨g,cap,cur,rfl,hb,hg,hn,hc,hs,ht⟩⟩:=h
 ·obtain⟨rfl,h0⟩:=h2
  refine⟨none,0,by rw[h0],fun j hj=>by omega⟩
 ·have hlt:g<w.heap.size:=by
   rcases Nat.lt_or_ge g w.heap.size with h'|h'
   ·exact h'
   ·rw[Array.getElem?_eq_none h']at hg;cases hg
  refine⟨some ⟨g,0,none⟩,cap,rfl,fun j hj=>⟨g,0,rfl,hlt,?_⟩⟩
  have e:cur.toList[j]? = some (.int .i64 (l.getD j 0)):=by
   have e1:(cur.toList.take (l.length*1))[j]? = some (.int .i64 (l.getD j 0)):=by
    rw[ht];simp[hj]
   rw[List.getElem?_take]at e1
   rwa [if_pos (by omega)]at e1
  simp[World.cell?,hg]
  simpa using e
theorem OwnInts.alloc {w:World}{base:Nat}{v:Value}{l:List Int}(h:OwnInts w base v l) (o:Obj):OwnInts (w.alloc o) base v l:=World.ownsRow.alloc h o
theorem OwnInts.shape {w:World}{base:Nat}{v:Value}{l:List Int}(h:OwnInts w base v l):∃ao cap,v = .slice ao l.length cap:=by
 obtain⟨_,h2|⟨g,cap,cur,rfl,_⟩⟩:=h
 ·exact⟨none,0,by rw[h2.1,h2.2]⟩
 ·exact⟨_,_,rfl⟩
theorem OwnInts.mono {w:World}{base base':Nat}{v:Value}{l:List Int}(h:OwnInts w base v l) (hb:base'<=base):OwnInts w base' v l:=by
 obtain⟨h1,h2|⟨g,cap,cur,e,hg,r⟩⟩:=h
 ·exact⟨h1,.inl h2⟩
 ·exact⟨h1,.inr ⟨g,cap,cur,e,by omega,r⟩⟩
theorem OwnInts.below {w w':World}{base:Nat}{v:Value}{l:List Int}(h:OwnInts w base v l) (hb:Below w.heap.size w w'):OwnInts w' base v l:=by
 obtain⟨h1,h2|⟨g,cap,cur,e,hg,hh,r⟩⟩:=h
 ·exact⟨h1,.inl h2⟩
 ·have hlt:g<w.heap.size:=by
   rcases Nat.lt_or_ge g w.heap.size with h'|h'
   ·exact h'
   ·rw[Array.getElem?_eq_none h']at hh;cases hh
  exact⟨h1,.inr ⟨g,cap,cur,e,hg,(hb.block g hlt).trans hh,r⟩⟩
theorem OwnInts.setCell {w:World}{base:Nat}{v:Value}{l:List Int}(h:OwnInts w base v l){a:Addr}(ha:a.block<base) (u:Value):OwnInts (w.setCell a u) base v l:=
 ownsRow_setCell_below h ha u
structure Chg (T:Nat->Prop) (W W':World):Prop where
 os:W'.os=W.os
 tape:W'.tape=W.tape
 output:W'.output=W.output
 size:W.heap.size<=W'.heap.size
 block:∀k,k<W.heap.size->¬T k->W'.heap[k]? = W.heap[k]?
theorem Chg.refl (T:Nat->Prop) (W:World):Chg T W W:=⟨rfl,rfl,rfl,Nat.le_refl _,fun _ _ _=>rfl⟩
theorem Chg.trans {T T':Nat->Prop}{a b c:World}(h:Chg T a b) (k:Chg T' b c) (hT:∀x,x<a.heap.size->T' x->T x):Chg T a c:=
 ⟨k.os.trans h.os,k.tape.trans h.tape,k.output.trans h.output,Nat.le_trans h.size k.size,fun x hx hn=>(k.block x (Nat.lt_of_lt_of_le hx h.size) (fun e=>hn (hT x hx e))).trans (h.block x hx hn)⟩
theorem Chg.mono {T T':Nat->Prop}{a b:World}(h:Chg T a b) (hT:∀x,x<a.heap.size->T x->T' x):Chg T' a b:=
 ⟨h.os,h.tape,h.output,h.size,fun x hx hn=>h.block x hx (fun e=>hn (hT x hx e))⟩
theorem Chg.ofBelow {T:Nat->Prop}{a b:World}(h:Below a.heap.size a b):Chg T a b:=⟨h.os,h.tape,h.output,h.size,fun x hx _=>h.block x hx⟩
theorem Chg.ofGrown {a b:World}{row:Option Nat}(h:a.grownBy b row):Chg (fun x=>row=some x) a b:=⟨h.os,h.tape,h.output,h.size,fun x hx hn=>h.block x hx (fun e=>hn e.symm)⟩
theorem Chg.below {T:Nat->Prop}{a b:World}{B:Nat}(h:Chg T a b) (hB:B<=a.heap.size) (hT:∀x,T x->B<=x):Below B a b:=
 ⟨h.os,h.tape,h.output,h.size,fun x hx=>h.block x (by omega) (fun e=>by have:=hT x e;omega)⟩
theorem Chg.alloc {T:Nat->Prop}{a b:World}(h:Chg T a b) (o:Obj):Chg T a (b.alloc o):=
 h.trans (Chg.ofBelow (T:=T) ((Below.refl _ _).alloc (Nat.le_refl _) o)) (fun _ _ e=>e)
theorem Chg.setCell {T:Nat->Prop}{a b:World}(h:Chg T a b) (p:Addr) (hp:T p.block\/a.heap.size<=p.block) (u:Value):Chg T a (b.setCell p u):=
 h.trans (T':=fun x=>x=p.block) ⟨rfl,rfl,rfl,by simp,fun x _ hn=>heap_setCell_other b p x u (fun e=>hn e)⟩ (fun x hx e=>by subst e;rcases hp with h|h;exact h;omega)
theorem Chg.drew {T:Nat->Prop}{a b:World}(h:Chg T a b):Chg T a b.drew:=⟨h.os,h.tape,h.output,h.size,h.block⟩
theorem Chg.cell {T:Nat->Prop}{a b:World}(h:Chg T a b){p:Addr}{u:Value}(hp:a.cell? p=some u) (hn:¬T p.block):b.cell? p=some u:=
 (World.cell?_of_block (h.block p.block (lt_of_cell hp) hn)).trans hp
theorem Chg.frozen {T:Nat->Prop}{a b:World}(h:Chg T a b){p:Addr}(hl:p.block<a.heap.size) (hn:¬T p.block):b.frozen? p=a.frozen? p:=
 World.frozen?_of_block (h.block p.block hl hn)
theorem Chg.row {T:Nat->Prop}{a b:World}{base e n:Nat}{v:Value}{xs:List Value}(h:Chg T a b) (ho:a.ownsRow base e 1 v n xs) (hn:∀x,v.ownBlock=some x->¬T x):b.ownsRow base e 1 v n xs:=by
 have hl:=ho.lt
 obtain⟨h1,h2|⟨g,cap,cur,rfl,hb,hh,r⟩⟩:=ho
 ·exact⟨h1,.inl h2⟩
 ·exact⟨h1,.inr ⟨g,cap,cur,rfl,hb,(h.block g (hl g rfl).2 (hn g rfl)).trans hh,r⟩⟩
def Mk (W:World) (base:Nat) (v:Value) (n:Nat) (m:Int):Prop:=W.ownsRow base 3 1 v n (List.replicate n (.int .i64 m))
theorem Mk.chg {T:Nat->Prop}{a b:World}{base n:Nat}{v:Value}{m:Int}(h:Mk a base v n m) (hc:Chg T a b) (hn:∀x,v.ownBlock=some x->¬T x):Mk b base v n m:=hc.row h hn
theorem Mk.shape {W:World}{base n:Nat}{v:Value}{m:Int}(h:Mk W base v n m):∃ao cap,v = .slice ao n cap:=by
 obtain⟨_,h2|⟨g,cap,cur,rfl,_⟩⟩:=h
 ·exact⟨none,0,by rw[h2.1,h2.2]⟩
 ·exact⟨_,_,rfl⟩
theorem Mk.cell {W:World}{base n cap:Nat}{ao:Option Addr}{m:Int}(h:Mk W base (.slice ao n cap) n m) (k:Nat) (hk:k<n):∃b,ao=some ⟨b,0,none⟩/\base<=b/\b<W.heap.size/\W.cell? ⟨b,0+k,none⟩=some (.int .i64 m):=by
 obtain⟨h1,h2|⟨g,cap',cur,e,hb,hg,hn,hc,hs,ht⟩⟩:=h
 ·obtain⟨_,h0⟩:=h2;omega
 ·simp only[Value.slice.injEq]at e
  obtain⟨rfl,_,rfl⟩:=e
  have hM:Mk W base (.slice (some ⟨g,0,none⟩) n cap) n m:=⟨h1,.inr ⟨g,cap,cur,rfl,hb,hg,hn,hc,hs,ht⟩⟩
  have h3:=World.ownsRow.cellAt hM k (by omega)
  refine⟨g,rfl,hb,(World.ownsRow.lt hM g rfl).2,?_⟩
  rw[Nat.zero_add,h3]
  simp[hk]
structure Bk (W:World) (g:Nat) (free:Nat->Prop) (nv mv:Value) (NL:List Value) (ML:List Int) (nx:Int):Prop where
 c0:W.cell? ⟨g,0,none⟩=some (.slice none 0 0)
 c1:W.cell? ⟨g,1,none⟩=some (.slice none 0 0)
 c2:W.cell? ⟨g,2,none⟩=some nv
 c3:W.cell? ⟨g,3,none⟩=some mv
 c4:W.cell? ⟨g,4,none⟩=some (.slice none 0 0)
 c5:W.cell? ⟨g,5,none⟩=some (.slice none 0 0)
 c6:W.cell? ⟨g,6,none⟩=some (.int .i64 nx)
 fz:∀o,W.frozen? ⟨g,o,none⟩=false
 hg:¬free g
 rn:W.ownsRow (g+1) 34 1 nv NL.length NL
 rm:W.ownsRow (g+1) 3 1 mv ML.length (ML.map (Value.int .i64))
 fn:∀b,nv.ownBlock=some b->¬free b/\mv.ownBlock≠some b
 fm:∀b,mv.ownBlock=some b->¬free b
 len:NL.length=ML.length
 ent:∀i u,NL[i]? = some u->∃n ao cap,u = .slice ao n cap/\n<=18/\∀k,k<n->∃b,ao=some ⟨b,0,none⟩/\¬free b/\b≠g/\nv.ownBlock≠some b/\mv.ownBlock≠some b/\W.cell? ⟨b,0+k,none⟩=some (.int .i64 (ML.getD i 0))
theorem Bk.lt {W:World}{g:Nat}{free:Nat->Prop}{nv mv:Value}{NL:List Value}{ML:List Int}{nx:Int}(h:Bk W g free nv mv NL ML nx):g<W.heap.size:=lt_of_cell h.c0
theorem Bk.chg {W W':World}{g:Nat}{free T:Nat->Prop}{nv mv:Value}{NL:List Value}{ML:List Int}{nx:Int}(h:Bk W g free nv mv NL ML nx) (hc:Chg T W W') (hT:∀b,T b->free b):Bk W' g free nv mv NL ML nx:=by
 have hng:¬T g:=fun e=>h.hg (hT g e)
 refine⟨hc.cell h.c0 hng,hc.cell h.c1 hng,hc.cell h.c2 hng,hc.cell h.c3 hng,hc.cell h.c4 hng,hc.cell h.c5 hng,hc.cell h.c6 hng,fun o=>(hc.frozen (p:=⟨g,o,none⟩) h.lt hng).trans (h.fz o),h.hg,hc.row h.rn (fun x hx e=>(h.fn x hx).1 (hT x e)),hc.row h.rm (fun x hx e=>h.fm x hx (hT x e)),h.fn,h.fm,h.len,?_⟩
 intro i u hu
 obtain⟨n,ao,cap,rfl,hn,hk⟩:=h.ent i u hu
 refine⟨n,ao,cap,rfl,hn,fun k hkn=>?_⟩
 obtain⟨b,rfl,b1,b2,b3,b4,b5⟩:=hk k hkn
 exact⟨b,rfl,b1,b2,b3,b4,hc.cell b5 (fun e=>b1 (hT b e))⟩
theorem Bk.set6 {W:World}{g:Nat}{free:Nat->Prop}{nv mv:Value}{NL:List Value}{ML:List Int}{nx:Int}(h:Bk W g free nv mv NL ML nx) (ny:Int):Bk (W.setCell ⟨g,6,none⟩ (.int .i64 ny)) g free nv mv NL ML ny:=by
 have o:∀i u,i≠6->W.cell? ⟨g,i,none⟩=some u->(W.setCell ⟨g,6,none⟩ (.int .i64 ny)).cell? ⟨g,i,none⟩=some u:=fun i u hi hu=>(World.cell?_setCell_other _ ⟨g,6,none⟩ ⟨g,i,none⟩ _ (fun e=>hi (by injection e with _ e2 _;exact e2.symm))).trans hu
 refine⟨o _ _ (by omega) h.c0,o _ _ (by omega) h.c1,o _ _ (by omega) h.c2,o _ _ (by omega) h.c3,o _ _ (by omega) h.c4,o _ _ (by omega) h.c5,World.cell?_setCell_same _ _ _ h.c6,fun o=>by rw[World.frozen?_setCell];exact h.fz o,h.hg,
  ownsRow_setCell_below h.rn (Nat.lt_succ_self g) _,ownsRow_setCell_below h.rm (Nat.lt_succ_self g) _,h.fn,h.fm,h.len,?_⟩
 intro i u hu
 obtain⟨n,ao,cap,rfl,hn,hk⟩:=h.ent i u hu
 refine⟨n,ao,cap,rfl,hn,fun k hkn=>?_⟩
 obtain⟨b,rfl,b1,b2,b3,b4,b5⟩:=hk k hkn
 exact⟨b,rfl,b1,b2,b3,b4,(World.cell?_setCell_other _ ⟨g,6,none⟩ _ _ (fun e=>b2 (by injection e with e1 _ _;exact e1.symm))).trans b5⟩
theorem cells_new (w:World) (xs:List Value) (t:TypeId):∀j u,xs[j]? = some u->(w.alloc (.cells xs.toArray t)).cell? ((⟨w.heap.size,0,none⟩:Addr).add j)=some u:=by
 intro j u hj
 have h:=cell_of_row (w.alloc (.cells xs.toArray t)) w.heap.size j xs.toArray t (0,0) (heap_alloc_new w _)
 rw[show(⟨w.heap.size,0,none⟩:Addr).add j=⟨w.heap.size,j,none⟩ by unfold Addr.add;split<;>simp_all,h]
 simpa using hj
theorem cells_newAt (w:World) (xs:List Value) (t:TypeId) (k:Nat) (hk:w.heap.size=k):∀j u,xs[j]? = some u->(w.alloc (.cells xs.toArray t)).cell? ((⟨k,0,none⟩:Addr).add j)=some u:=by
 subst hk
 exact cells_new w xs t
theorem row_shape {W:World}{base e n:Nat}{v:Value}{xs:List Value}(h:W.ownsRow base e 1 v n xs):∃ao cap,v = .slice ao n cap:=by
 obtain⟨_,h2|⟨g,cap,cur,rfl,_⟩⟩:=h
 ·exact⟨none,0,by rw[h2.1,h2.2]⟩
 ·exact⟨_,_,rfl⟩
theorem stop_here {p:Prop}(h:Hid p):p:=h
theorem hid_in {p:Prop}(h:p):Hid p:=h
end Pk
open Pk
end Go.Proofs.YtdjhhnolcafkiaaGreat
namespace Go.Proofs.YtdjhhnolcafkiaaGreat
open Go.RowKit
namespace Pk
theorem wpList_append_at {ops:Array Oper}{rest:List Oper}{o:Oper}{a:Act}{w:World}{Q:Exit->Act->World->Prop}(hgd:o.guard=none) (s x:Operand) (t:TypeId)
  (ho:o.op = .call { callee:=.builtin .append,args:=#[s,x],argTypes:=#[t,t] })
  (base:Nat) (e:TypeId) (i:TypeInfo) (z:Value) (size bytes:Nat) (ht:Tryz.prog.underlying t=some (.slice e)) (hi:Tryz.prog.info? e=some i/\i.zero=some z/\i.size=size/\i.bytes=bytes) (hzs:z.cells.size=size) (hsz:0<size)
  (v:Value) (n:Nat) (xs:List Value) (hs:a.eval s=v) (hown:w.ownsRow base e size v n xs)
  (ad:Addr) (m c:Nat) (news:List Value) (hx:a.eval x = .slice (some ad) m c) (hl:news.length=m*size) (hnews:∀j u,news[j]? = some u->w.cell? (ad.add j)=some u) (h1:∀u∈news,u.oneCell'=true)
  (h63:n+m<=maxLen) (hbytes:(n+m)*bytes<=140737488355328) (hbase:base<=w.heap.size)
  (h:∀v' w',w'.ownsRow base e size v' (n+m) (xs++news)->w.grownBy w' v.ownBlock->(v'.ownBlock=v.ownBlock\/v'.ownBlock=some w.heap.size)->wpList Tryz.prog ops Q rest (a.put o.dst v') w') :
  wpList Tryz.prog ops Q (o::rest) a w:=by
 refine wpList_plain hgd fun K hK=>?_
 obtain⟨v',w',hr,h2,h3,_,h5⟩:=run_append_own_at (P:=Tryz.prog) w base t o.type e i z size bytes ht hi.1 hi.2.1 hi.2.2.1 hi.2.2.2 hzs hsz v n xs hown ad m c news hl hnews h1 h63 hbytes hbase
 unfold Oper.wp execOp
 simp only[ho,resolve,invoke,builtin,Sem.run_bind,Sem.run_pure,Result.andThen_ok,List.map_toArray,List.map_cons,List.map_nil,hs,hx,hr]
 exact hK _ _ (h v' w' h2 h3 h5)
theorem int_info:(Tryz.prog.info? 3).map (fun i=>(i.zero,i.size,i.bytes))=some (some (.int .i64 0),1,8):=by kernel_rfl
theorem wpList_append_int {ops:Array Oper}{rest:List Oper}{o:Oper}{a:Act}{w:World}{Q:Exit->Act->World->Prop}(hgd:o.guard=none) (s x:Operand)
  (ho:o.op = .call { callee:=.builtin .append,args:=#[s,x],argTypes:=#[34,34] })
  (base:Nat) (v:Value) (l:List Int) (q:Int) (hs:a.eval s=v) (hown:OwnInts w base v l)
  (ad:Addr) (c:Nat) (hx:a.eval x = .slice (some ad) 1 c) (hnews:w.cell? (ad.add 0)=some (.int .i64 q)) (hl:l.length<=1000000) (hbase:base<=w.heap.size)
  (h:∀v' w',OwnInts w' base v' (l++[q])->w.grownBy w' v.ownBlock->(v'.ownBlock=v.ownBlock\/v'.ownBlock=some w.heap.size)->wpList Tryz.prog ops Q rest (a.put o.dst v') w') :
  wpList Tryz.prog ops Q (o::rest) a w:=by
 obtain⟨i0,hi,hz0,hz1,hz2⟩:=info_parts int_info
 refine wpList_append_at hgd s x 34 ho base 3 i0 (.int .i64 0) 1 8 Tryz.underlying34 ⟨hi,hz0,hz1,hz2⟩ rfl (by decide) v l.length (l.map (Value.int .i64)) hs hown ad 1 c [.int .i64 q] hx rfl ?_ ?_ ?_ ?_ hbase ?_
 ·intro j u hj
  rcases j with _|j
  ·simp at hj;subst hj;exact hnews
  ·simp at hj
 ·intro u hu;simp at hu;subst hu;rfl
 ·unfold maxLen;omega
 ·omega
 ·intro v' w' h1 h2 h3
  refine h v' w' ?_ h2 h3
  simpa[OwnInts]using h1
section
variable {α : Type} {f : α -> List Value} {k : Nat}
theorem flat_take (hf:∀x,(f x).length=k):∀(l:List α) (i:Nat),(l.flatMap f).take (i*k)=(l.take i).flatMap f
 | [],i=>by simp
 | x::l,0=>by simp
 | x::l,i+1=>by
  rw[List.flatMap_cons,List.take_succ_cons,List.flatMap_cons,Nat.succ_mul,Nat.add_comm,List.take_append,hf,List.take_of_length_le (by rw[hf];omega),show k+i*k-k=i*k by omega,flat_take hf l i]
theorem flat_drop (hf:∀x,(f x).length=k):∀(l:List α) (i:Nat),(l.flatMap f).drop (i*k)=(l.drop i).flatMap f
 | [],i=>by simp
 | x::l,0=>by simp
 | x::l,i+1=>by
  rw[List.flatMap_cons,List.drop_succ_cons,Nat.succ_mul,Nat.add_comm,List.drop_append,hf,List.drop_of_length_le (by rw[hf];omega),show k+i*k-k=i*k by omega,flat_drop hf l i,List.nil_append]
theorem flat_at (hf:∀x,(f x).length=k):∀(l:List α) (i j:Nat) (h:i<l.length),j<k->(l.flatMap f)[i*k+j]? = (f l[i])[j]?
 | x::l,0,j,_,hj=>by
  rw[List.flatMap_cons,Nat.zero_mul,Nat.zero_add,List.getElem?_append_left (by rw[hf];exact hj)]
  rfl
 | x::l,i+1,j,h,hj=>by
  rw[List.flatMap_cons,List.getElem?_append_right (by rw[hf,Nat.succ_mul];omega),hf,show(i+1)*k+j-k=i*k+j by rw[Nat.succ_mul];omega,flat_at hf l i j (by simpa using h) hj]
  rfl
end
theorem World.grownBy_drewX (w:World) (r:Option Nat):w.grownBy w.drew r:=⟨rfl,rfl,rfl,Nat.le_refl _,fun _ _ _=>rfl⟩
theorem row_writes {base e size n cap g:Nat}:∀(vs:List Value) (o:Nat) (w:World) (xs:List Value),w.ownsRow base e size (.slice (some ⟨g,0,none⟩) n cap) n xs->o+vs.length<=xs.length->
  (w.setCells g o vs).ownsRow base e size (.slice (some ⟨g,0,none⟩) n cap) n (xs.take o++vs++xs.drop (o+vs.length))/\w.grownBy (w.setCells g o vs) (some g):=by
 intro vs
 induction vs with
 | nil=>
  intro o w xs h _
  refine⟨?_,World.grownBy.refl _ _⟩
  simpa[World.setCells]using h
 | cons v r ih=>
  intro o w xs h hl
  obtain⟨h1,h2⟩:=h.stored o v
  obtain⟨h3,h4⟩:=ih (o+1) (w.setCell ⟨g,o,none⟩ v) (xs.set o v) h1 (by simp at hl ⊢;omega)
  refine⟨?_,h2.trans h4⟩
  have e1:(xs.set o v).take (o+1)=xs.take o++[v]:=by
   rw[List.take_succ_eq_append_getElem (by simp at hl ⊢;omega),List.take_set_of_le (Nat.le_refl _)]
   simp
  have e2:(xs.set o v).drop (o+1+r.length)=xs.drop (o+(v::r).length):=by
   rw[List.drop_set_of_lt (by omega),List.length_cons]
   congr 1
   omega
  rw[e1,e2]at h3
  simpa[World.setCells]using h3
theorem row_fewer {base e size n cap m:Nat}{ao:Option Addr}{w:World}{xs:List Value}(h:w.ownsRow base e size (.slice ao n cap) n xs) (hm:m<=n) (hao:ao≠none\/cap=0):w.ownsRow base e size (.slice ao m cap) m (xs.take (m*size)):=by
 have hl:=h.1
 obtain⟨h1,⟨h2,h0⟩|⟨g,cap',cur,e',hb,hg,hn,hc,hs,ht⟩⟩:=h
 ·simp only[Value.slice.injEq]at h2
  obtain⟨rfl,h3,rfl⟩:=h2
  have hm0:m=0:=by omega
  subst hm0
  exact⟨by simp,.inl ⟨rfl,rfl⟩⟩
 ·simp only[Value.slice.injEq]at e'
  obtain⟨rfl,_,rfl⟩:=e'
  have hms:m*size<=n*size:=Nat.mul_le_mul_right _ hm
  refine⟨by rw[List.length_take];omega,.inr ⟨g,cap,cur,rfl,hb,hg,by omega,hc,hs,?_⟩⟩
  rw[<-ht,List.take_take,Nat.min_eq_left hms]
theorem run_clear_row {P:Program}(w:World) (t e ty:TypeId) (z:Value) (ht:P.underlying t=some (.slice e)) (hv:∀w,(zeroValue e).run P w = .ok z w) (h1:∀u∈z.cells.toList,u.oneCell'=true) (hz0:0<z.cells.size) (b o n c:Nat) (hn:0<n)
  (hc:∀j,j<n*z.cells.size->(w.cell? ⟨b,o+j,none⟩).isSome=true) (hf:∀j,j<n*z.cells.size->w.frozen? ⟨b,o+j,none⟩=false) :
  ∃zs:List Value,zs.length=n*z.cells.size/\(Builtin.clear_ #[t] ty #[.slice (some ⟨b,o,none⟩) n c]).run P w = .ok (.tuple #[]) (w.setCells b o zs):=by
 have hl:(Builtin.zeroCells z.cells n).toList.length=n*z.cells.size:=by simp[Builtin.zeroCells]
 have ho:∀u∈(Builtin.zeroCells z.cells n).toList,u.oneCell'=true:=by
  intro u hu
  simp[Builtin.zeroCells]at hu
  obtain⟨i,hi,rfl⟩:=hu
  refine h1 _ ?_
  have hlt:i%z.cells.size<z.cells.size:=Nat.mod_lt _ hz0
  simp[hlt]
 have hst:=run_storeCells_cells (P:=P) b o (Builtin.zeroCells z.cells n).toList 0 w (by rw[hl];simpa using hc) (by rw[hl];simpa using hf) ho
 simp only[Nat.add_zero]at hst
 refine⟨_,hl,?_⟩
 obtain⟨m,rfl⟩:∃m,n=m+1:=⟨n-1,by omega⟩
 simp[Builtin.clear_,run_underlying ht,hv,hst]
end Pk
theorem within_any (a b:Int) (w:World) :
  Calls Tryz.prog 109 #[.int .i64 a,.int .i64 b] w fun e w'=>e = .returned (.bool (decide (0<=a/\a<=b)))/\w'=w:=by
 by_cases h0:0<=a
 ·by_cases h1:a<=b
  ·go_enter Tryz.func109,Tryz.ntmps109
   go_wp2
   go_ret
   exact⟨by simp[h0,h1],rfl⟩
  ·go_enter Tryz.func109,Tryz.ntmps109
   go_wp2
   go_ret
   exact⟨by simp[h1],rfl⟩
 ·have hd:decide (0<=a)=false:=by simpa using h0
  go_enter Tryz.func109,Tryz.ntmps109
  go_wp2
  go_ret
  exact⟨by simp,rfl⟩
theorem readNumber_any (s:ByteArray) (w:World) (hs:s.size<=4) :
  Calls Tryz.prog 87 #[.string s] w fun e w'=>e = .returned (.int .i64 (Pk.num s.data.toList))/\w'=w:=by
 go_enter Tryz.func87,Tryz.ntmps87
 go_wp2
 go_loop [3,7] (fun n i=>∃k:Nat,k<=s.size/\i = .int .i64 k/\n = .int .i64 (Pk.num (s.data.toList.take k))) (fun _ i=>s.size-(intOf i).toNat)
 case atStart=>exact⟨0,Nat.zero_le _,rfl,rfl⟩
 case round=>
  obtain⟨k,hk,rfl,rfl⟩:=hrel
  by_cases hlt:k<s.size
  ·go_wp2
   go_round
   case rel=>exact⟨k+1,by omega,by go_num,by rw[Pk.num_byte s k hlt hs]⟩
   case measure=>simp[intOf];omega
  ·go_wp2
   go_ret
   exact⟨Pk.ret_int (by rw[Pk.take_all s k (by omega)]),rfl⟩
theorem allNoughts_any (s:ByteArray) (w:World) (hs:s.size<=maxLen) :
  Calls Tryz.prog 89 #[.string s] w fun e w'=>e = .returned (.bool (Pk.noughts s.data.toList))/\w'=w:=by
 unfold maxLen at hs
 go_enter Tryz.func89,Tryz.ntmps89
 go_wp2
 go_loop [6] (fun i=>∃k:Nat,k<=s.size/\i = .int .i64 k/\Pk.noughts (s.data.toList.take k)=true) (fun i=>s.size-(intOf i).toNat)
 case atStart=>exact⟨0,Nat.zero_le _,rfl,rfl⟩
 case round=>
  obtain⟨k,hk,rfl,hn⟩:=hrel
  have Hn:Hid (Pk.noughts (s.data.toList.take k)=true):=hn
  clear hn
  by_cases hlt:k<s.size
  ·have Hs:Hid (Pk.noughts (s.data.toList.take (k+1))=(s[k] == 0)):=by
    show _=_
    rw[Pk.take_snoc s k hlt,Pk.noughts_snoc,Hn.out,Bool.true_and]
   by_cases hz:s[k].toNat=0
   ·have Hz:Hid (s[k].toNat=0):=hz
    have hb:((s[k].toNat:Int) != 0)=false:=by simp[hz]
    clear hz
    go_wp2
    go_round
    case rel=>exact⟨k+1,by omega,by go_num,by rw[Hs.out];simpa using UInt8.toNat_inj.1 (Hz.out:s[k].toNat=(0:UInt8).toNat)⟩
    case measure=>simp[intOf];omega
   ·have Hz:Hid (s[k].toNat≠0):=hz
    have hb:((s[k].toNat:Int) != 0)=true:=by simpa using hz
    clear hz
    go_wp2
    go_ret
    refine⟨Pk.ret_bool (Pk.noughts_false _ (k+1) ?_).symm,rfl⟩
    rw[Hs.out]
    exact beq_eq_false_iff_ne.2 fun e=>Hz.out (by rw[e];rfl)
  ·go_wp2
   go_ret
   exact⟨Pk.ret_bool (by rw[<-Pk.take_all s k (by omega),Hn.out]),rfl⟩
theorem allWithin_any (B:Nat) (v:Value) (l:List Int) (m:Int) (w:World) (hv:Pk.IsInts B w v l) (hl:l.length<=17592186044416) :
  Calls Tryz.prog 128 #[v,.int .i64 m] w fun e w'=>e = .returned (.bool (Pk.allIn l m))/\w'=w:=by
 rcases hv.cases with⟨ao,cap,rfl,rfl⟩|⟨b,off,cap,rfl,hpos,hb,hc⟩
 ·go_enter Tryz.func128,Tryz.ntmps128
  go_wp2
  refine wp_loop_rounds 1 ?_;rw[rounds_succ]
  go_wp2
  go_ret
  exact⟨rfl,rfl⟩
 ·clear hv
  generalize hn:l.length=n at *
  have Hn:Hid (l.length=n):=hn
  clear hn
  go_enter Tryz.func128,Tryz.ntmps128
  go_wp2
  go_loop [9] (fun i=>∃k:Nat,k<=n/\i = .int .i64 k/\Pk.allIn (l.take k) m=true) (fun i=>n-(intOf i).toNat)
  case atStart=>exact⟨0,Nat.zero_le _,rfl,rfl⟩
  case round=>
   obtain⟨k,hk,rfl,hok⟩:=hrel
   have Hok:Hid (Pk.allIn (l.take k) m=true):=hok
   clear hok
   by_cases hlt:k<n
   ·have hck:=hc k hlt
    have Hs:Hid (Pk.allIn (l.take (k+1)) m=decide (0<=l.getD k 0/\l.getD k 0<=m)):=by
     show _=_
     rw[Pk.allIn_take_succ l k m (by rw[Hn.out];exact hlt),Hok.out,Bool.true_and]
    clear hc
    generalize l.getD k 0=q at *
    by_cases hq:0<=q/\q<=m
    ·have Hq:Hid (decide (0<=q/\q<=m)=true):=decide_eq_true hq
     clear hq
     go_wp2_with (go_at_call 109;refine(within_any _ _ _).mono ?_;rintro e w' ⟨rfl,rfl⟩;rw[Hq.out])
     go_round
     case rel=>exact⟨k+1,by omega,by go_num,by rw[Hs.out,Hq.out]⟩
     case measure=>simp[intOf];omega
    ·have Hq:Hid (decide (0<=q/\q<=m)=false):=decide_eq_false hq
     clear hq
     go_wp2_with (go_at_call 109;refine(within_any _ _ _).mono ?_;rintro e w' ⟨rfl,rfl⟩;rw[Hq.out])
     go_ret
     exact⟨Pk.ret_bool (Pk.allIn_false _ (k+1) _ (by rw[Hs.out,Hq.out])).symm,rfl⟩
   ·go_wp2
    go_ret
    refine⟨Pk.ret_bool ?_,rfl⟩
    rw[<-Hok.out,List.take_of_length_le (by have:=Hn.out;omega)]
namespace Pk
def words:List UInt8->List Int
 | a::b::c::d::r=>(num [a,b,c,d]:Int)::words r
 | _=>[]
theorem words_step (l:List UInt8) (h:4<=l.length):words l=(num (l.take 4):Int)::words (l.drop 4):=by
 match l,h with
 | a::b::c::d::r,_=>rfl
theorem words_stop (l:List UInt8) (h:l.length<4):words l=[]:=by
 match l,h with
 | [],_=>rfl
 | [_],_=>rfl
 | [_,_],_=>rfl
 | [_,_,_],_=>rfl
theorem words_length (n:Nat):∀l:List UInt8,l.length=4*n->(words l).length=n:=by
 induction n with
 | zero=>intro l h;rw[words_stop l (by omega)];rfl
 | succ n ih=>
  intro l h
  rw[words_step l (by omega),List.length_cons,ih (l.drop 4) (by rw[List.length_drop];omega)]
def strLen:Value->Nat | .string s=>s.size|_=>0
end Pk
open Pk
theorem readWords_any (s:ByteArray) (w:World) (hs:s.size<=1500) :
  Calls Tryz.prog 86 #[.string s] w fun e w'=>∃v,e = .returned v/\OwnInts w' w.heap.size v (words s.data.toList)/\Below w.heap.size w w':=by
 have hinfo:(Tryz.prog.info? 3).map (fun i=>(i.zero,i.size,i.bytes))=some (some (.int .i64 0),1,8):=by kernel_rfl
 obtain⟨i0,hi,hz0,hz1,hz2⟩:=info_parts hinfo
 have Hi:Hid (Tryz.prog.info? 3=some i0/\i0.zero=some (.int .i64 0)/\i0.size=1/\i0.bytes=8):=⟨hi,hz0,hz1,hz2⟩
 clear hi hz0 hz1 hz2 hinfo
 go_enter Tryz.func86,Tryz.ntmps86
 go_wp2
 go_loopw [0,3] (fun tv v wr=>∃(t:ByteArray) (l:List Int),tv = .string t/\l++words t.data.toList=words s.data.toList/\t.size+4*l.length<=s.size/\OwnInts wr w.heap.size v l/\Below w.heap.size w wr) (fun tv _ _=>strLen tv)
 case atStart=>exact⟨s,[],rfl,rfl,by simp,World.ownsRow_nil _ _ _ _,Below.refl _ _⟩
 case round=>
  obtain⟨t,l,rfl,hl,ht,hown,hb⟩:=hrel
  have Hl:Hid (l++words t.data.toList=words s.data.toList):=hl
  clear hl
  by_cases h4:4<=t.size
  ·have Hs:Hid (words t.data.toList=(num (t.extract 0 4).data.toList:Int)::words (t.extract 4 t.size).data.toList):=by
    show _=_
    rw[words_step _ (by rw[<-Lib.size_eq];exact h4),Lib.extract_data,Lib.extract_data,List.drop_zero,List.take_of_length_le (i:=t.size-4) (by rw[List.length_drop,<-Lib.size_eq];exact Nat.le_refl _)]
   have h4i:(4:Int)<=t.size:=by omega
   go_wp2_with fail
   refine(readNumber_any _ _ (by simp only[ByteArray.size_extract];omega)).mono ?_
   rintro e w1 ⟨rfl,rfl⟩
   generalize num (t.extract 0 4).data.toList=q at *
   go_wp2_with (at_builtin;refine wpList_append_own _ rfl (.tmp 9) (.tmp 13) 34 rfl w.heap.size 3 i0 (.int .i64 0) 1 8 Tryz.underlying34 Hi.out.1 Hi.out.2.1 Hi.out.2.2.1 Hi.out.2.2.2 rfl (by decide) _ l.length (l.map (Value.int .i64)) rfl (hown.alloc _) _ 1 1 [.int .i64 q] rfl rfl (cell_one_new _ _ _) ?_ ?_ ?_ ?_ ?_;(intro u hu;simp at hu;subst hu;rfl);(unfold maxLen;omega);omega;(have:=hb.size;simp;omega);intro v' w1 hown' hgrow _)
   have R1:OwnInts w1 w.heap.size v' (l++[(q:Int)]):=by simpa[OwnInts]using hown'
   have R2:Below w.heap.size w w1:=(hb.alloc hb.size _).grown hgrow (by have:=hb.size;simp;omega) (fun k hk=>(World.ownsRow.lt hown k hk).1)
   clear hown hown' hgrow
   go_roundw
   case rel=>exact⟨t.extract 4 t.size,l++[(q:Int)],rfl,by rw[List.append_assoc,<-Hl.out,Hs.out];rfl,by simp only[ByteArray.size_extract,List.length_append,List.length_singleton];omega,R1,R2⟩
   case measure=>simp only[strLen,ByteArray.size_extract];omega
  ·have h4i:¬(4:Int)<=t.size:=by omega
   go_wp2
   go_ret
   refine⟨_,rfl,?_,hb⟩
   have h:=Hl.out
   rw[words_stop t.data.toList (by rw[<-Lib.size_eq];omega),List.append_nil]at h
   rw[<-h]
   exact hown
end Go.Proofs.YtdjhhnolcafkiaaGreat
namespace Go.Proofs.YtdjhhnolcafkiaaGreat
namespace Pk
theorem bit_of (b:UInt8) (k m:Nat) (hm:m=2 ^ k) (h:m<256):(bits .and .u8 (b.toNat:Int) (m:Int) != 0)=decide (b.toNat/m%2=1):=by
 have hb:=b.toNat_lt
 have e:(b.toNat &&& m)=b.toNat/m%2*m:=by subst hm;exact nat_bit k b.toNat
 rw[u8_and_nat b.toNat m (by omega) h,e]
 have h2:b.toNat/m%2<2:=Nat.mod_lt _ (by omega)
 have hm0:0<m:=by subst hm;exact Nat.pos_of_ne_zero (by simp)
 rw[Bool.eq_iff_iff]
 simp only[bne_iff_ne,ne_eq,decide_eq_true_eq]
 constructor
 ·intro h3
  rcases(show b.toNat/m%2=0\/b.toNat/m%2=1 by omega)with h4|h4
  ·rw[h4]at h3;simp at h3
  ·exact h4
 ·intro h3 h4
  rw[h3]at h4
  omega
theorem marker_bit (b:UInt8):(bits .and .u8 (b.toNat:Int) 128 != 0)=decide (128<=b.toNat):=by
 have h:=bit_of b 7 128 (by decide) (by omega)
 have hb:=b.toNat_lt
 refine h.trans ?_
 rw[Bool.eq_iff_iff,decide_eq_true_eq,decide_eq_true_eq]
 omega
theorem ext_bit (b:UInt8):(bits .and .u8 (b.toNat:Int) 16 != 0)=decide (b.toNat/16%2=1):=bit_of b 4 16 (by decide) (by omega)
theorem pad_bit (b:UInt8):(bits .and .u8 (b.toNat:Int) 32 != 0)=decide (b.toNat/32%2=1):=bit_of b 5 32 (by decide) (by omega)
theorem low4 (b:UInt8):bits .and .u8 (b.toNat:Int) 15=((b.toNat%16:Nat):Int):=by
 have hb:=b.toNat_lt
 have h:=u8_and_nat b.toNat 15 (by omega) (by omega)
 rw[nat_mask4]at h
 exact h
theorem low7 (b:UInt8):bits .and .u8 (b.toNat:Int) 127=((b.toNat%128:Nat):Int):=by
 have hb:=b.toNat_lt
 have h:=u8_and_nat b.toNat 127 (by omega) (by omega)
 rw[nat_mask7]at h
 exact h
theorem type_bits (b:UInt8):IntKind.i64.wrap (bits .and .u8 (b.toNat:Int) 127)=((b.toNat%128:Nat):Int):=by
 rw[low7]
 exact wrapI64 _ (by omega) (by omega)
structure PP where
 mrk:Bool
 ex:Bool
 ty:Int
 nu:Int
 ti:Int
 so:Int
 pr:Int
 pa:Int
 cl:List Int
 en:ByteArray
 py:ByteArray
def B0 (s:ByteArray):UInt8:=s.data.toList.getD 0 0
def B1 (s:ByteArray):UInt8:=s.data.toList.getD 1 0
def Bl (s:ByteArray):UInt8:=s.data.toList.getD (s.size-1) 0
def bad1 (s:ByteArray):Bool:=decide (s.size<12\/1500<s.size\/(B0 s).toNat/64≠2)
def at0 (s:ByteArray):Nat:=12+4*((B0 s).toNat%16)
def extLen (s:ByteArray):Nat:=4*num (s.extract (at0 s+2) (at0 s+4)).data.toList
def extPart (s:ByteArray):Option (Nat × ByteArray × Nat):=
 if(B0 s).toNat/16%2=1 then
  if s.size-at0 s<4 then none
  else if s.size-(at0 s+4)<extLen s then none
  else some (num (s.extract (at0 s) (at0 s+2)).data.toList,s.extract (at0 s+4) (at0 s+4+extLen s),at0 s+4+extLen s)
 else some (0,⟨#[]⟩,at0 s)
def padPart (s:ByteArray) (a:Nat):Option (Nat × Nat):=
 if(B0 s).toNat/32%2=1 then
  if(Bl s).toNat=0\/s.size-a<(Bl s).toNat then none
  else if noughts (s.extract (s.size-(Bl s).toNat) (s.size-1)).data.toList=true then some ((Bl s).toNat,s.size-(Bl s).toNat)else none
 else some (0,s.size)
def mkP (s:ByteArray) (x:Nat × ByteArray × Nat) (y:Nat × Nat):PP:=
 { mrk:=decide (128<=(B1 s).toNat),ex:=decide ((B0 s).toNat/16%2=1),ty:=((B1 s).toNat%128:Nat),nu:=num ((s.data.toList.drop 2).take 2),ti:=num ((s.data.toList.drop 4).take 4),so:=num ((s.data.toList.drop 8).take 4),pr:=x.1,pa:=y.1,cl:=words (s.extract 12 (at0 s)).data.toList,en:=x.2.1,py:=s.extract x.2.2 y.2 }
def readP (s:ByteArray):Option PP:=
 if bad1 s=true then none else if s.size<at0 s then none else(extPart s).bind fun x=>(padPart s x.2.2).map fun y=>mkP s x y
theorem readP_bad (s:ByteArray) (h:bad1 s=true):readP s=none:=by unfold readP;rw[if_pos h]
theorem readP_at (s:ByteArray) (h:bad1 s=false) (h2:s.size<at0 s):readP s=none:=by unfold readP;rw[if_neg (by rw[h];simp),if_pos h2]
theorem readP_of (s:ByteArray) (h:bad1 s=false) (h2:at0 s<=s.size):readP s=(extPart s).bind fun x=>(padPart s x.2.2).map fun y=>mkP s x y:=by
 unfold readP;rw[if_neg (by rw[h];simp),if_neg (by omega)]
theorem get0 (s:ByteArray) (h:0<s.size):s[0]=B0 s:=by
 unfold B0
 rw[List.getD_eq_getElem?_getD,List.getElem?_eq_getElem (by simpa using h)]
 rfl
theorem get1 (s:ByteArray) (h:1<s.size):s[1]=B1 s:=by
 unfold B1
 rw[List.getD_eq_getElem?_getD,List.getElem?_eq_getElem (by simpa using h)]
 rfl
theorem getl (s:ByteArray) (h:s.size-1<s.size):s[s.size-1]=Bl s:=by
 unfold Bl
 rw[List.getD_eq_getElem?_getD,List.getElem?_eq_getElem (by simpa using h)]
 rfl
end Pk
end Go.Proofs.YtdjhhnolcafkiaaGreat
namespace Go.Proofs.YtdjhhnolcafkiaaGreat
open Go.RowKit
namespace Pk
structure Gp where
 n:Nat
 last:Int
 tries:Int
structure Kp where
 n:Nat
 x:PP
 cv:Value
 rests:Int
def cellsG (x:Gp):List Value:=[.int .u16 x.n,.int .i64 x.last,.int .i64 x.tries]
def cellsP (x:PP) (cv:Value):List Value:=[.bool x.mrk,.int .i64 x.ty,.int .i64 x.nu,.int .i64 x.ti,.int .i64 x.so,cv,.bool x.ex,.int .i64 x.pr,.string x.en,.string x.py,.int .i64 x.pa]
def cellsK (x:Kp):List Value:=[.int .u16 x.n,.bool x.x.mrk,.int .i64 x.x.ty,.int .i64 x.x.nu,.int .i64 x.x.ti,.int .i64 x.x.so,x.cv,.bool x.x.ex,.int .i64 x.x.pr,.string x.x.en,.string x.x.py,.int .i64 x.x.pa,.int .i64 x.rests]
theorem cellsG_len (x:Gp):(cellsG x).length=3:=rfl
theorem cellsK_len (x:Kp):(cellsK x).length=13:=rfl
def posF (x:Nat):List Nat->Int
 | []=>-1
 | y::r=>if y=x then 0 else if posF x r<0 then -1 else posF x r+1
theorem posF_no (x:Nat):∀l:List Nat,(∀y∈l,y≠x)->posF x l = -1
 | [],_=>rfl
 | y::r,h=>by rw[posF,if_neg (h y (by simp)),posF_no x r (fun z hz=>h z (by simp[hz]))];rfl
theorem posF_at (x:Nat):∀(l:List Nat) (k:Nat) (h:k<l.length),(∀m (hm:m<k),l[m]≠x)->l[k]=x->posF x l=k
 | y::r,0,_,_,h2=>by rw[posF,if_pos (show y=x from h2)];rfl
 | y::r,k+1,h,h1,h2=>by
  have e:=posF_at x r k (by simpa using h) (fun m hm=>h1 (m+1) (by omega)) h2
  rw[posF,if_neg (show ¬y=x from h1 0 (by omega)),e,if_neg (by omega)]
  omega
theorem posF_cases (x:Nat):∀l:List Nat,(posF x l = -1/\∀y∈l,y≠x)\/∃k,∃h:k<l.length,posF x l=k/\l[k]=x/\∀m (hm:m<k),l[m]≠x
 | []=>.inl ⟨rfl,fun y hy=>by simp at hy⟩
 | y::r=>by
  by_cases e:y=x
  ·exact .inr ⟨0,by simp,by rw[posF,if_pos e];rfl,e,fun m hm=>by omega⟩
  ·rcases posF_cases x r with⟨h1,h2⟩|⟨k,hk,h1,h2,h3⟩
   ·refine .inl ⟨by rw[posF,if_neg e,h1];rfl,fun z hz=>?_⟩
    rcases List.mem_cons.1 hz with rfl|hz
    ·exact e
    ·exact h2 z hz
   ·refine .inr ⟨k+1,by simpa using hk,by rw[posF,if_neg e,h1,if_neg (by omega)];omega,by simpa using h2,fun m hm=>?_⟩
    cases m with
    | zero=>exact e
    | succ m=>simpa using h3 m (by omega)
structure Upd (w w':World) (sb:Nat) (v v':Value):Prop where
 chg:Chg (fun b=>b=sb\/v.ownBlock=some b) w w'
 oth:∀o,o≠2->w'.cell? ⟨sb,o,none⟩=w.cell? ⟨sb,o,none⟩
 fz:∀o,w'.frozen? ⟨sb,o,none⟩=w.frozen? ⟨sb,o,none⟩
 c2:w'.cell? ⟨sb,2,none⟩=some v'
 own:∀b,v'.ownBlock=some b->v.ownBlock=some b\/w.heap.size<=b
theorem Upd.refl {w:World}{sb:Nat}{v:Value}(h:w.cell? ⟨sb,2,none⟩=some v):Upd w w sb v v:=⟨Chg.refl _ _,fun _ _=>rfl,fun _=>rfl,h,fun _ h=>.inl h⟩
theorem Upd.trans {a b c:World}{sb:Nat}{v v1 v2:Value}(h:Upd a b sb v v1) (k:Upd b c sb v1 v2):Upd a c sb v v2:=
 ⟨h.chg.trans k.chg (fun x hx e=>by
   rcases e with e|e
   ·exact .inl e
   ·rcases h.own x e with e|e
    ·exact .inr e
    ·omega),fun o ho=>(k.oth o ho).trans (h.oth o ho),fun o=>(k.fz o).trans (h.fz o),k.c2,fun x hx=>by
   rcases k.own x hx with e|e
   ·exact h.own x e
   ·exact .inr (Nat.le_trans h.chg.size e)⟩
theorem Upd.before {a b c:World}{sb:Nat}{v v1:Value}(h:Below a.heap.size a b) (hs:sb<a.heap.size) (k:Upd b c sb v v1):Upd a c sb v v1:=
 ⟨(Chg.ofBelow h).trans k.chg (fun _ _ e=>e),fun o ho=>(k.oth o ho).trans (h.cell (p:=⟨sb,o,none⟩) hs),fun o=>(k.fz o).trans (h.frozen (p:=⟨sb,o,none⟩) hs),k.c2,fun x hx=>(k.own x hx).imp id (fun e=>Nat.le_trans h.size e)⟩
theorem Upd.stored {a b:World}{sb:Nat}{v v1:Value}(hs:sb<a.heap.size) (h2:a.cell? ⟨sb,2,none⟩=some v) (hne:v.ownBlock≠some sb) (hg:a.grownBy b v.ownBlock) (ho:∀x,v1.ownBlock=some x->v.ownBlock=some x\/a.heap.size<=x):Upd a (b.setCell ⟨sb,2,none⟩ v1) sb v v1:=by
 have hc:Chg (fun x=>v.ownBlock=some x) a b:=Chg.ofGrown hg
 refine⟨((hc.mono (fun _ _ e=>.inr e)).setCell ⟨sb,2,none⟩ (.inl (.inl rfl)) _),fun o h=>?_,fun o=>?_,World.cell?_setCell_same _ _ _ (hc.cell h2 hne),ho⟩
 ·rw[World.cell?_setCell_other _ _ _ _ (fun e=>by injection e with _ e _;omega)]
  exact World.cell?_of_block (hc.block sb hs hne)
 ·rw[World.frozen?_setCell]
  exact World.frozen?_of_block (hc.block sb hs hne)
def rmF {α:Type}(nf:α->Nat) (num:Nat) (l:List α):List α:=if posF num (l.map nf)<0 then l else l.take (posF num (l.map nf)).toNat++l.drop ((posF num (l.map nf)).toNat+1)
theorem rmF_length {α:Type}(nf:α->Nat) (num:Nat) (l:List α):(rmF nf num l).length<=l.length:=by
 unfold rmF
 split
 ·exact Nat.le_refl _
 ·rw[List.length_append,List.length_take,List.length_drop]
  omega
theorem cellsG_one (l:List Gp):∀u∈l.flatMap cellsG,u.oneCell'=true:=by
 intro u hu
 obtain⟨x,_,hx⟩:=List.mem_flatMap.1 hu
 simp[cellsG]at hx
 rcases hx with rfl|rfl|rfl<;>rfl
def OneK (l:List Kp):Prop:=∀x∈l,x.cv.oneCell'=true
theorem cellsK_one (l:List Kp) (h:OneK l):∀u∈l.flatMap cellsK,u.oneCell'=true:=by
 intro u hu
 obtain⟨x,hx1,hx⟩:=List.mem_flatMap.1 hu
 simp[cellsK]at hx
 rcases hx with rfl|rfl|rfl|rfl|rfl|rfl|rfl|rfl|rfl|rfl|rfl|rfl|rfl<;>first|rfl|exact h x hx1
structure Ask1 where
 a:Int
 b:Int
 v:Value
 l:List Int
def flatA (xs:List Ask1):List Value:=xs.flatMap fun x=>[.int .i64 x.a,.int .i64 x.b,x.v]
structure OwnAsks (W:World) (base:Nat) (lv:Value) (xs:List Ask1):Prop where
 row:W.ownsRow base 43 3 lv xs.length (flatA xs)
 each:∀(i:Nat) (x:Ask1),xs[i]? = some x->OwnInts W base x.v x.l/\x.l.length<=6400
 apart:∀(i j:Nat) (x y:Ask1),i≠j->xs[i]? = some x->xs[j]? = some y->∀b,x.v.ownBlock=some b->y.v.ownBlock≠some b
 out:∀(i:Nat) (x:Ask1),xs[i]? = some x->∀b,x.v.ownBlock=some b->lv.ownBlock≠some b
theorem rowA_chg {T:Nat->Prop}{a b:World}{base e size n:Nat}{v:Value}{xs:List Value}(h:Chg T a b) (ho:a.ownsRow base e size v n xs) (hn:∀x,v.ownBlock=some x->¬T x):b.ownsRow base e size v n xs:=by
 have hl:=ho.lt
 obtain⟨h1,h2|⟨g,cap,cur,rfl,hb,hh,r⟩⟩:=ho
 ·exact⟨h1,.inl h2⟩
 ·exact⟨h1,.inr ⟨g,cap,cur,rfl,hb,(h.block g (hl g rfl).2 (hn g rfl)).trans hh,r⟩⟩
theorem rowA_some {W:World}{base e size n cap:Nat}{ao:Option Addr}{xs:List Value}(h:W.ownsRow base e size (.slice ao n cap) n xs) (hn:0<n):∃g,ao=some ⟨g,0,none⟩:=by
 obtain⟨_,h2|⟨g,cap',cur,e',_⟩⟩:=h
 ·omega
 ·simp only[Value.slice.injEq]at e'
  exact⟨g,e'.1⟩
theorem rowA_shape {W:World}{base e size n:Nat}{v:Value}{xs:List Value}(h:W.ownsRow base e size v n xs):∃ao cap,v = .slice ao n cap:=by
 obtain⟨_,h2|⟨g,cap,cur,rfl,_⟩⟩:=h
 ·exact⟨none,0,by rw[h2.1,h2.2]⟩
 ·exact⟨_,_,rfl⟩
theorem OwnAsks.nil (W:World) (base:Nat):OwnAsks W base (.slice none 0 0) []:=
 ⟨World.ownsRow_nil _ _ _ _,fun i x h=>by simp at h,fun i j x y _ h=>by simp at h,fun i x h=>by simp at h⟩
def bc (l:List UInt8):List Value:=l.map fun b=>Value.int .u8 b.toNat
theorem ret_slice {ao:Option Addr}{n m c:Nat}(h:n=m):Ending.returned (.slice ao n c) = .returned (.slice ao m c):=by rw[h]
theorem bc_length (l:List UInt8):(bc l).length=l.length:=by simp[bc]
theorem bc_append (a b:List UInt8):bc (a++b)=bc a++bc b:=by simp[bc]
theorem bc_one (l:List UInt8):∀u∈bc l,u.oneCell'=true:=by
 intro u hu
 simp only[bc,List.mem_map]at hu
 obtain⟨b,_,rfl⟩:=hu
 rfl
theorem grown_trans {w w1 w2:World}{row:Option Nat}(h:w.grownBy w1 row) (k:w1.grownBy w2 row):w.grownBy w2 row:=
 ⟨k.os.trans h.os,k.tape.trans h.tape,k.output.trans h.output,Nat.le_trans h.size k.size,
  fun j hj hr=>(k.block j (Nat.lt_of_lt_of_le hj h.size) hr).trans (h.block j hj hr)⟩
def Buf (w:World) (base g n cap:Nat) (l:List UInt8):Prop:=
 l.length=n/\w.ownsRow base 5 1 (.slice (some ⟨g,0,none⟩) n cap) n (bc l)
theorem Buf.at {w:World}{base g n cap:Nat}{l:List UInt8}(h:Buf w base g n cap l) :
  l.length=n/\base<=g/\n<=cap/\cap<=maxLen/\∃cur,w.heap[g]? = some (.cells cur 5 (0,0))/\cur.size=cap/\cur.toList.take n=bc l:=by
 obtain⟨hl,hx,h|⟨g',cap',cur,h,hbg,hg,hnc,hcm,hcs,ht⟩⟩:=h
 ·simp at h
 ·simp only[Value.slice.injEq,Option.some.injEq,Addr.mk.injEq,and_true,true_and]at h
  obtain⟨rfl,rfl⟩:=h
  exact⟨hl,hbg,hnc,hcm,cur,hg,by simpa using hcs,by simpa using ht⟩
theorem Buf.mk' {w:World}{base g n cap:Nat}{l:List UInt8}{cur:Array Value}(hl:l.length=n) (hb:base<=g) (hn:n<=cap) (hc:cap<=maxLen)
  (hg:w.heap[g]? = some (.cells cur 5 (0,0))) (hs:cur.size=cap) (ht:cur.toList.take n=bc l):Buf w base g n cap l:=
 ⟨hl,by rw[bc_length];omega,.inr ⟨g,cap,cur,rfl,hb,hg,hn,hc,by omega,by simpa using ht⟩⟩
theorem Buf.lt {w:World}{base g n cap:Nat}{l:List UInt8}(h:Buf w base g n cap l):g<w.heap.size:=by
 obtain⟨_,_,_,_,cur,hg,_⟩:=h.at
 rcases Nat.lt_or_ge g w.heap.size with h'|h'
 ·exact h'
 ·rw[Array.getElem?_eq_none h']at hg;cases hg
theorem Buf.alloc {w:World}{base g n cap:Nat}{l:List UInt8}(h:Buf w base g n cap l) (o:Obj):Buf (w.alloc o) base g n cap l:=⟨h.1,h.2.alloc o⟩
theorem Buf.drew {w:World}{base g n cap:Nat}{l:List UInt8}(h:Buf w base g n cap l):Buf w.drew base g n cap l:=h
theorem Buf.carry {w w':World}{base g n cap:Nat}{l:List UInt8}(h:Buf w base g n cap l) (hb:Below w.heap.size w w'):Buf w' base g n cap l:=by
 have hlt:=h.lt
 obtain⟨h1,h2,h3,h4,cur,hg,h5,h6⟩:=h.at
 exact Buf.mk' h1 h2 h3 h4 ((hb.block g hlt).trans hg) h5 h6
section
variable {w : World} {ops : Array Oper} {rest : List Oper} {o : Oper} {a : Act} {Q : Exit -> Act -> World -> Prop}
theorem wl_bytes (hgd:o.guard=none) (s x:Operand) (ho:o.op=Op.call { callee:=Callee.builtin Builtin.append,args:=#[s,x],argTypes:=#[166,166] })
  {base g n cap:Nat}{l:List UInt8}(hs:a.eval s = .slice (some ⟨g,0,none⟩) n cap) (hB:Buf w base g n cap l)
  (ad:Addr) (m c:Nat) (nb:List UInt8) (hx:a.eval x = .slice (some ad) m c) (hm:nb.length=m) (hc:∀j u,(bc nb)[j]? = some u->w.cell? (ad.add j)=some u) (hroom:n+m<=cap)
  (hK:∀w',Buf w' base g (n+m) cap (l++nb)->w.grownBy w' (some g)->wpList Tryz.prog ops Q rest (a.put o.dst (.slice (some ⟨g,0,none⟩) (n+m) cap)) w') :
  wpList Tryz.prog ops Q (o::rest) a w:=by
 have hinfo:(Tryz.prog.info? 5).map (fun i=>(i.zero,i.size,i.bytes))=some (some (.int .u8 0),1,1):=by kernel_rfl
 obtain⟨i0,hi,hz0,hz1,hz2⟩:=info_parts hinfo
 refine wpList_append_fits w hgd s x 166 ho base 5 i0 1 Tryz.underlying166 hi hz1 g n cap (bc l) hs hB.2 ad m c (bc nb) hx (by rw[bc_length];omega) hc (bc_one nb) hroom ?_
 intro w' h1 h2
 refine hK w' ⟨by rw[List.length_append,hB.1,hm],?_⟩ h2
 rw[bc_append]
 exact h1
theorem wl_string (hgd:o.guard=none) (s x:Operand) (ho:o.op=Op.call { callee:=Callee.builtin Builtin.append,args:=#[s,x],argTypes:=#[166,9] })
  {base g n cap:Nat}{l:List UInt8}(hs:a.eval s = .slice (some ⟨g,0,none⟩) n cap) (hB:Buf w base g n cap l)
  (t:ByteArray) (hx:a.eval x = .string t) (hroom:n+t.size<=cap)
  (hK:∀w',Buf w' base g (n+t.size) cap (l++t.data.toList)->w.grownBy w' (some g)->wpList Tryz.prog ops Q rest (a.put o.dst (.slice (some ⟨g,0,none⟩) (n+t.size) cap)) w') :
  wpList Tryz.prog ops Q (o::rest) a w:=by
 have hinfo:(Tryz.prog.info? 5).map (fun i=>(i.zero,i.size,i.bytes))=some (some (.int .u8 0),1,1):=by kernel_rfl
 obtain⟨i0,hi,hz0,hz1,hz2⟩:=info_parts hinfo
 obtain⟨h1,h2,h3,h4,cur,hg,h5,h6⟩:=hB.at
 have hr:=Lib.run_append_room_string (P:=Tryz.prog) w 166 9 o.type 5 i0 Tryz.underlying166 Tryz.underlying9 hi hz1 g n cap cur hg t hroom (by omega)
 refine wpList_plain hgd fun K hK'=>?_
 unfold Oper.wp
 simp[execOp,ho,resolve,invoke,builtin,hs,hx,hr,Result.andThen]
 refine hK' _ _ (hK _ (Buf.mk' (by rw[List.length_append,h1,<-Lib.size_eq]) h2 hroom h4 (setRow_heap w g cur _ 5 _ hg) ?_ ?_) ⟨rfl,rfl,rfl,by simp,fun k _ hk=>setRow_other w g k _ (fun e=>hk (by simp[e]))⟩)
 ·simp only[List.size_toArray,List.length_append,List.length_take,List.length_drop,Array.length_toList,Lib.strCells_length]
  omega
 ·rw[h6,bc_append]
  have e:Lib.strCells t=bc t.data.toList:=rfl
  rw[e,List.toList_toArray,<-List.append_assoc]
  exact List.take_left' (by rw[List.length_append,bc_length,bc_length,h1,<-Lib.size_eq])
theorem wl_zeros (hgd:o.guard=none) (s x:Operand) (ho:o.op=Op.call { callee:=Callee.builtin Builtin.append,args:=#[s,x],argTypes:=#[166,3] })
  {base g n cap:Nat}{l:List UInt8}(hs:a.eval s = .slice (some ⟨g,0,none⟩) n cap) (hB:Buf w base g n cap l)
  (z:Int) (m:Nat) (hz:z=(m:Int)) (hm:m<=1000000) (hx:a.eval x = .int .i64 z) (hroom:n+m<=cap)
  (hK:∀w',Buf w' base g (n+m) cap (l++List.replicate m 0)->w.grownBy w' (some g)->wpList Tryz.prog ops Q rest (a.put o.dst (.slice (some ⟨g,0,none⟩) (n+m) cap)) w') :
  wpList Tryz.prog ops Q (o::rest) a w:=by
 subst hz
 have hinfo:(Tryz.prog.info? 5).map (fun i=>(i.zero,i.size,i.bytes))=some (some (.int .u8 0),1,1):=by kernel_rfl
 obtain⟨i0,hi,hz0,hz1,hz2⟩:=info_parts hinfo
 obtain⟨h1,h2,h3,h4,cur,hg,h5,h6⟩:=hB.at
 have hzc:Builtin.zeroCells (Value.int .u8 0).cells m=(bc (List.replicate m 0)).toArray:=by
  apply Array.ext'
  simp[Builtin.zeroCells,bc,Value.cells]
  apply List.ext_getElem
  ·simp
  ·intro j hj1 hj2
   simp[Nat.mod_one]
 have hst:=run_storeCells_at Tryz.prog g n 5 (bc (List.replicate m 0)) 0 cur w hg (by rw[bc_length,List.length_replicate];omega) (bc_one _)
 simp only[Nat.add_zero,bc_length,List.length_replicate]at hst
 have hw:IntKind.i64.wrap (m:Int)=m:=wrapI64 _ (by omega) (by omega)
 have hneg:¬((m:Int)<0):=by omega
 have h48:¬(281474976710656<(m:Int)):=by omega
 by_cases h0:m=0
 ·subst h0
  have hr:(Builtin.append_ #[166,3] o.type #[.slice (some ⟨g,0,none⟩) n cap,.int .i64 0]).run Tryz.prog w = .ok (.slice (some ⟨g,0,none⟩) n cap) w:=by
   have hw0:IntKind.i64.wrap 0=0:=wrapI64 _ (by omega) (by omega)
   simp[Builtin.append_,run_underlying Tryz.underlying166,run_underlying Tryz.underlying3,sizeOf,typeInfo,hi,asInt,asIntOf,hw0,h3,Addr.add_lit,storeCells]
  refine wpList_plain hgd fun K hK'=>?_
  unfold Oper.wp
  simp[execOp,ho,resolve,invoke,builtin,hs,hx,hr,Result.andThen]
  exact hK' _ _ (hK w (by simpa using hB) (World.grownBy.refl _ _))
 have hr:(Builtin.append_ #[166,3] o.type #[.slice (some ⟨g,0,none⟩) n cap,.int .i64 m]).run Tryz.prog w =
   .ok (.slice (some ⟨g,0,none⟩) (n+m) cap) (w.setRow g (cur.toList.take n++bc (List.replicate m 0)++cur.toList.drop (n+m)).toArray):=by
  simp[Builtin.append_,run_underlying Tryz.underlying166,run_underlying Tryz.underlying3,sizeOf,typeInfo,zeroValue,hi,hz0,hz1,hz2,asInt,asIntOf,hw,hneg,h48,h0,hroom,hzc,Addr.add_lit,hst]
 refine wpList_plain hgd fun K hK'=>?_
 unfold Oper.wp
 simp[execOp,ho,resolve,invoke,builtin,hs,hx,hr,Result.andThen]
 refine hK' _ _ (hK _ (Buf.mk' (by rw[List.length_append,h1,List.length_replicate]) h2 hroom h4 (setRow_heap w g cur _ 5 _ hg) ?_ ?_) ⟨rfl,rfl,rfl,by simp,fun k _ hk=>setRow_other w g k _ (fun e=>hk (by simp[e]))⟩)
 ·simp only[List.size_toArray,List.length_append,List.length_take,List.length_drop,Array.length_toList,bc_length,List.length_replicate]
  omega
 ·rw[h6,bc_append,List.toList_toArray,<-List.append_assoc]
  exact List.take_left' (by rw[List.length_append,bc_length,bc_length,h1,List.length_replicate])
end
theorem new_one (B:Nat) (w:World) (hB:B=w.heap.size) (v:Value) (t:TypeId) (b:UInt8) (h:v = .int .u8 b.toNat) :
  ∀j u,(bc [b])[j]? = some u->(w.alloc (.cells #[v] t)).cell? ((⟨B,0,none⟩:Addr).add j)=some u:=by
 subst h hB
 intro j u hj
 match j,hj with
 | 0,hj=>simp[bc]at hj;subst hj;simp[Addr.add]
theorem new_two (B:Nat) (w:World) (hB:B=w.heap.size) (v v':Value) (t:TypeId) (b b':UInt8) (h:v = .int .u8 b.toNat) (h':v' = .int .u8 b'.toNat) :
  ∀j u,(bc [b,b'])[j]? = some u->(w.alloc (.cells #[v,v'] t)).cell? ((⟨B,0,none⟩:Addr).add j)=some u:=by
 subst h h' hB
 intro j u hj
 match j,hj with
 | 0,hj=>simp[bc]at hj;subst hj;simp[Addr.add]
 | 1,hj=>simp[bc]at hj;subst hj;simp[Addr.add]
theorem push_fold (ns:List Int):∀s:ByteArray,(ns.foldl (fun r n=>r.push (UInt8.ofNat n.toNat)) s).data.toList=s.data.toList++ns.map fun n=>UInt8.ofNat n.toNat:=by
 induction ns with
 | nil=>intro s;simp
 | cons n ns ih=>intro s;rw[List.foldl_cons,ih];simp[ByteArray.push]
theorem run_text {w:World}{base g n cap:Nat}{l:List UInt8}(hB:Buf w base g n cap l) :
  (convert 166 9 (.slice (some ⟨g,0,none⟩) n cap)).run Tryz.prog w = .ok (.string ⟨l.toArray⟩) w:=by
 rw[run_convert_bytes_string w 166 9 5 _ _ _ Tryz.underlying166 Tryz.underlying5 Tryz.underlying9]
 obtain⟨h1,h2,h3,h4,cur,hg,h5,h6⟩:=hB.at
 have hl:=run_loadCells_list (P:=Tryz.prog) w ⟨g,0,none⟩ (bc l) (hB.2.cells (g:=g) rfl)
 rw[bc_length,h1]at hl
 have e:bc l=(l.map fun b=>(b.toNat:Int)).map (Value.int .u8):=by simp[bc]
 rw[e]at hl
 rw[run_bytesToString w ⟨g,0,none⟩ n cap (l.map fun b=>(b.toNat:Int)) hl]
 congr 2
 apply ByteArray.ext
 apply Array.ext'
 rw[push_fold]
 simp only[List.map_map]
 exact(List.map_congr_left (g:=id) fun b _=>by simp).trans (List.map_id _)
end Pk
end Go.Proofs.YtdjhhnolcafkiaaGreat
namespace Go.Proofs.YtdjhhnolcafkiaaGreat
open Go.RowKit Pk
namespace Pk
def stepsTo (n f:Nat):Nat:=(n+65536-f)%65536
theorem steps_wrap (n f:Nat) (hf:f<65536) (hn:n<65536):IntKind.u16.wrap ((n:Int)-(f:Int))=(stepsTo n f:Int):=by
 unfold stepsTo
 simp[IntKind.wrap,IntKind.signed,IntKind.bits]
 omega
theorem steps_lt (n f:Nat):stepsTo n f<65536:=Nat.mod_lt _ (by decide)
theorem pow_lt:∀e,e<16->2 ^ e<65536:=by decide
end Pk
end Go.Proofs.YtdjhhnolcafkiaaGreat
namespace Go.Proofs.YtdjhhnolcafkiaaGreat
open Go.RowKit
namespace Pk
theorem tkH {P:Program}{md:Region.Mode}{ops:Array Oper}{Q:Exit->Act->World->Prop}{S:World->Prop}{fuel:Nat}{listed l':Array Bool}{a a':Act}{w:World}(i:Nat){oi:Oper}(v:Value) (hS:S w)
  (hy:∀W,S W->(execOp a.eval oi).run P W = .ok (.value v) W)
  (h:wpAnyH P md ops Q S fuel l' a' w)
  (hi:ops[i]? = some oi:=by rfl) (hs:Region.noSelect ops=true:=by kernel_rfl) (hf:Region.free md ops listed i=true:=by kernel_rfl) (hr:(Region.ready md ops listed).contains i=true:=by kernel_rfl)
  (hw:Region.wanted oi (yielded ops a.tmps)=true:=by rfl)
  (ha:a.put oi.dst v=a':=by((try simp only[Act.put]);(try simp only[List.getElem_toArray]);(try simp only[List.getElem_cons_succ]);(try simp only[List.getElem_cons_zero]);(try simp only[List.setIfInBounds_toArray]);(try simp only[List.set_cons_succ]);(try simp only[List.set_cons_zero]);first|done|rfl))
  (hl:listed.setIfInBounds i true=l':=by((try simp only[List.setIfInBounds_toArray]);(try simp only[List.set_cons_succ]);(try simp only[List.set_cons_zero]);first|done|rfl))
  (hQ:∀c a w,Q (.panic c) (a.put oi.dst v) w->Q (.panic c) a w:=by exact fun _ _ _ h=>h):wpAnyH P md ops Q S (fuel+1) listed a w:=by
 subst ha hl
 exact wpAnyH_take hi hs hf hr hQ (Or.inl ⟨hw,hy⟩) hS h
end Pk
theorem hyd {p:Prop}(h:p):Hid p:=h
theorem tka {P:Program}{md:Region.Mode}{ops:Array Oper}{Q:Exit->Act->World->Prop}{S:World->Prop}{fuel:Nat}{listed l':Array Bool}{a a':Act}{w:World}{oi:Oper}{v:Value}(i:Nat) (h:wpAnyH P md ops Q S fuel l' a' w)
  (hS:S w:=by exact zH)
  (hi:ops[i]? = some oi:=by rfl)
  (hy:∀W,S W->(execOp a.eval oi).run P W = .ok (.value v) W:=by((intro W hSw;(try cases hSw);(repeat(rename_i r;have q:_/\_:=r;clear r;cases q));go_simp)<;>with_reducible rfl))
  (hs:Region.noSelect ops=true:=by kernel_rfl) (hf:Region.free md ops listed i=true:=by kernel_rfl) (hr:(Region.ready md ops listed).contains i=true:=by kernel_rfl)
  (hw:Region.wanted oi (yielded ops a.tmps)=true:=by rfl)
  (ha:a.put oi.dst v=a':=by((try simp only[Act.put]);(try simp only[List.getElem_toArray]);(try simp only[List.getElem_cons_succ]);(try simp only[List.getElem_cons_zero]);(try simp only[List.setIfInBounds_toArray]);(try simp only[List.set_cons_succ]);(try simp only[List.set_cons_zero]);first|done|rfl))
  (hl:listed.setIfInBounds i true=l':=by((try simp only[List.setIfInBounds_toArray]);(try simp only[List.set_cons_succ]);(try simp only[List.set_cons_zero]);first|done|rfl))
  (hQ:∀c a w,Q (.panic c) (a.put oi.dst v) w->Q (.panic c) a w:=by exact fun _ _ _ h=>h):wpAnyH P md ops Q S (fuel+1) listed a w:=
 Pk.tkH i v hS hy h hi hs hf hr hw ha hl hQ
theorem rd1 {P:Program}{md:Region.Mode}{ops:Array Oper}{Q:Exit->Act->World->Prop}{S:World->Prop}{fuel:Nat}{listed:Array Bool}{a:Act}{w:World}{oi:Oper}(i:Nat) (h:∀K':Act->World->Prop,Shut (∀a w,S w->(S w->wpAnyH P md ops Q S fuel (listed.setIfInBounds i true) a w)->K' a w)->if Region.wanted oi (yielded ops a.tmps)=true then Oper.wp P oi a w K' Q else K' (a.put oi.dst undef) w)
  (ho:ops[i]? = some oi:=by rfl) (hr:Region.ready md ops listed=[i]:=by kernel_rfl):wpAnyH P md ops Q S (fuel+1) listed a w:=
 wpAnyH_ready hr (by simp) (AllReadyH.cons ho h AllReadyH.nil)
theorem doN {P:Program}{md:Region.Mode}{ops:Array Oper}{Q:Exit->Act->World->Prop}{S:World->Prop}{fuel:Nat}{listed:Array Bool}{a:Act}{w:World}(h:Q .normal a w) (hr:Region.ready md ops listed=[]:=by kernel_rfl):wpAnyH P md ops (NoPanic Q) S fuel listed a w:=
 wpAnyH_done hr (NoPanic.normal h) _
end Go.Proofs.YtdjhhnolcafkiaaGreat
namespace Go.Proofs.YtdjhhnolcafkiaaGreat
open Go.RowKit Pk
theorem readHead_any (s:ByteArray) (w:World) (hs:12<=s.size) (hs2:s.size<=1500) :
  Calls Tryz.prog 85 #[.string s] w fun e w'=>e = .returned (.agg #[.bool (decide (128<=(s[1]'(by omega)).toNat)),.int .i64 (((s[1]'(by omega)).toNat%128:Nat):Int),.int .i64 (num ((s.data.toList.drop 2).take 2)),.int .i64 (num ((s.data.toList.drop 4).take 4)),.int .i64 (num ((s.data.toList.drop 8).take 4)),.slice none 0 0,.bool (decide ((s[0]'(by omega)).toNat/16%2=1)),.int .i64 0,.string ⟨#[]⟩,.string ⟨#[]⟩,.int .i64 0])/\Below w.heap.size w w':=by
 have h0:0<s.size:=by omega
 have h1:1<s.size:=by omega
 have i0:(0:Int)<s.size:=by omega
 have i1:(1:Int)<s.size:=by omega
 have i4:(4:Int)<=s.size:=by omega
 have i8:(8:Int)<=s.size:=by omega
 have i12:(12:Int)<=s.size:=by omega
 have j0:∀W:World,(Instr.index 9 (.string s) (.int .i64 0)).run Tryz.prog W = .ok (.int .u8 (s[0].toNat:Int)) W:=fun W=>by
  rw[run_index_string W 9 s .i64 0 Tryz.underlying9];rw[dif_pos ⟨by omega,i0⟩];rfl
 have j1:∀W:World,(Instr.index 9 (.string s) (.int .i64 1)).run Tryz.prog W = .ok (.int .u8 (s[1].toNat:Int)) W:=fun W=>by
  rw[run_index_string W 9 s .i64 1 Tryz.underlying9];rw[dif_pos ⟨by omega,i1⟩];rfl
 generalize s[0]=b0 at *
 generalize s[1]=b1 at *
 go_enter Tryz.func85,Tryz.ntmps85
 go_wp2
 refine wp_region_noPanic ?_
 refine wp_region_held_drew (S:=fun _=>True) (by kernel_rfl) trivial (fun zH=>?_)
 refine tkH 0 ?_ zH ?_ ?_;rotate_left
 ·((intro W _;go_simp)<;>with_reducible rfl)
 refine tkH 1 ?_ zH ?_ ?_;rotate_left
 ·((intro W _;go_simp)<;>with_reducible rfl)
 refine tkH 2 ?_ zH ?_ ?_;rotate_left
 ·((intro W _;go_simp)<;>with_reducible rfl)
 refine tkH 3 ?_ zH ?_ ?_;rotate_left
 ·((intro W _;go_simp)<;>with_reducible rfl)
 refine tkH 4 ?_ zH ?_ ?_;rotate_left
 ·((intro W _;go_simp)<;>with_reducible rfl)
 refine tkH 5 ?_ zH ?_ ?_;rotate_left
 ·((intro W _;go_simp)<;>with_reducible rfl)
 refine tkH 6 ?_ zH ?_ ?_;rotate_left
 ·((intro W _;go_simp)<;>with_reducible rfl)
 refine tkH 7 ?_ zH ?_ ?_;rotate_left
 ·((intro W _;go_simp)<;>with_reducible rfl)
 refine tkH 8 ?_ zH ?_ ?_;rotate_left
 ·((intro W _;go_simp)<;>with_reducible rfl)
 refine tkH 9 ?_ zH ?_ ?_;rotate_left
 ·((intro W _;go_simp)<;>with_reducible rfl)
 refine tkH 10 ?_ zH ?_ ?_;rotate_left
 ·((intro W _;go_simp)<;>with_reducible rfl)
 refine tkH 11 ?_ zH ?_ ?_;rotate_left
 ·((intro W _;go_simp)<;>with_reducible rfl)
 refine tkH 12 ?_ zH ?_ ?_;rotate_left
 ·((intro W _;go_simp)<;>with_reducible rfl)
 refine tkH 13 ?_ zH ?_ ?_;rotate_left
 ·((intro W _;go_simp)<;>with_reducible rfl)
 refine tkH 15 ?_ zH ?_ ?_;rotate_left
 ·((intro W _;go_simp)<;>with_reducible rfl)
 refine tkH 16 ?_ zH ?_ ?_;rotate_left
 ·((intro W _;go_simp)<;>with_reducible rfl)
 refine tkH 18 ?_ zH ?_ ?_;rotate_left
 ·((intro W _;go_simp)<;>with_reducible rfl)
 refine tkH 19 ?_ zH ?_ ?_;rotate_left
 ·((intro W _;go_simp)<;>with_reducible rfl)
 refine rd1 14 fun K hK=>?_
 go_simp
 refine(readNumber_any _ _ (by simp only[ByteArray.size_extract];omega)).mono ?_
 rintro e w1 ⟨rfl,rfl⟩
 go_wp2_with fail
 refine hK.out _ _ trivial (fun zH=>?_)
 clear hK K
 refine rd1 17 fun K hK=>?_
 go_simp
 refine(readNumber_any _ _ (by simp only[ByteArray.size_extract];omega)).mono ?_
 rintro e w1 ⟨rfl,rfl⟩
 go_wp2_with fail
 refine hK.out _ _ trivial (fun zH=>?_)
 clear hK K
 refine rd1 20 fun K hK=>?_
 go_simp
 refine(readNumber_any _ _ (by simp only[ByteArray.size_extract];omega)).mono ?_
 rintro e w1 ⟨rfl,rfl⟩
 go_wp2_with fail
 refine hK.out _ _ trivial (fun zH=>?_)
 clear hK K
 refine tkH 21 ?_ zH ?_ ?_;rotate_left
 ·((intro W _;go_simp)<;>with_reducible rfl)
 refine rd1 22 fun K hK=>?_
 go_simp
 refine hK.out _ _ trivial (fun zH=>?_)
 clear hK K
 refine doN ?_
 go_wp2
 refine bodyPost_ret (v:=.agg #[.bool (bits .and .u8 (b1.toNat:Int) 128 != 0),.int .i64 (IntKind.i64.wrap (bits .and .u8 (b1.toNat:Int) 127)),.int .i64 (num ((s.data.toList.drop 2).take 2)),.int .i64 (num ((s.data.toList.drop 4).take 4)),.int .i64 (num ((s.data.toList.drop 8).take 4)),.slice none 0 0,.bool (bits .and .u8 (b0.toNat:Int) 16 != 0),.int .i64 0,.string ⟨#[]⟩,.string ⟨#[]⟩,.int .i64 0]) (by simp[results,Tryz.results85,go_sem]) rfl ⟨?_,?_⟩
 ·rw[marker_bit,type_bits,ext_bit]
 ·exact((Below.refl _ _).alloc (Nat.le_refl _) _).drew
theorem slClone_any (s:ByteArray) (w:World) (hs:s.size<=100000) :
  Calls Tryz.prog 103 #[.string s] w fun e w'=>e = .returned (.string s)/\Below w.heap.size w w':=by
 by_cases h0:s.size=0
 ·have he:s=⟨#[]⟩:=by
   apply ByteArray.ext
   exact Array.eq_empty_of_size_eq_zero h0
  subst he
  go_enter Tryz.func103,Tryz.ntmps103
  go_wp2
  go_ret
  exact⟨rfl,Below.refl _ _⟩
 ·have hinfo:(Tryz.prog.info? 5).map (fun i=>(i.zero,i.size,i.bytes))=some (some (.int .u8 0),1,1):=by kernel_rfl
  have hsz:(Tryz.prog.info? 5).map (·.size)=some 1:=by kernel_rfl
  have hco:Tryz.prog.cellsOf 5=1:=by kernel_rfl
  obtain⟨i0,hi,hz0,hz1,hz2⟩:=info_parts hinfo
  obtain⟨M,hM⟩:∃M,M=madeCells (Value.int .u8 0).cells s.size:=⟨_,rfl⟩
  have hMs:M.size=s.size:=by rw[hM,size_madeCells]
  have hmk:∀W:World,(Instr.makeSlice 166 (.int .i64 (s.size:Int)) (.int .i64 (s.size:Int))).run Tryz.prog W = .ok (.slice (some ⟨W.heap.size,0,none⟩) s.size s.size) (W.alloc (.cells M 5)):=fun W=>by
   have h:=run_make (P:=Tryz.prog) W 166 5 i0 (.int .u8 0) Tryz.underlying166 hi hz0 .i64 .i64 (s.size:Int) (s.size:Int) (by omega) (by omega) (by rw[hz2];omega) (by omega)
   rw[hz1,Int.toNat_natCast,Nat.mul_one,<-hM]at h
   simpa using h
  clear hM hinfo hi hz0 hz1 hz2
  have hcp:=Lib.run_copy_row_string (P:=Tryz.prog) (w.alloc (.cells M 5)) 166 9 3 5 w.heap.size 0 s.size s.size s M 5 Tryz.underlying166 hsz (heap_alloc_new w _) (Nat.le_refl _) (by omega)
  obtain⟨Y,hY⟩:∃Y,Y=(M.toList.take 0++Lib.byteCells s.data.toList++M.toList.drop (0+s.size)).toArray:=⟨_,rfl⟩
  rw[<-hY]at hcp
  have hYl:Y.toList=Lib.byteCells s.data.toList:=by
   rw[hY,List.toList_toArray,List.take_zero,List.nil_append,List.drop_of_length_le (by rw[Array.length_toList];omega),List.append_nil]
  have hYs:Y.size=s.size:=by rw[<-Array.length_toList,hYl,Lib.byteCells_length,<-Lib.size_eq]
  have hgY:((w.alloc (.cells M 5)).setRow w.heap.size Y).heap[w.heap.size]? = some (.cells Y 5 (0,0)):=setRow_heap _ _ M _ 5 (0,0) (heap_alloc_new w _)
  have hne:s.data.toList≠[]:=fun e=>h0 (by rw[Lib.size_eq,e];rfl)
  have hUS:=Lib.run_unsafeString_row (P:=Tryz.prog) ((w.alloc (.cells M 5)).setRow w.heap.size Y) 206 3 9 5 Tryz.underlying206 hco w.heap.size Y.size (by unfold World.shape?;rw[hgY]) s.data.toList hne (by rw[<-Lib.size_eq];omega) (by rw[<-Lib.size_eq];omega)
   (fun j x hx=>Lib.cells_of_row hgY Y.size j _ (by rw[List.take_of_length_le (by rw[Array.length_toList];exact Nat.le_refl _),hYl];simp[Lib.byteCells,hx]))
  rw[<-Lib.size_eq]at hUS
  clear hY hsz hco
  go_enter Tryz.func103,Tryz.ntmps103
  go_wp2
  go_ret
  have hb1:Below w.heap.size w (w.alloc (.cells M 5)):=(Below.refl _ w).alloc (Nat.le_refl _) _
  have hb2:Below w.heap.size (w.alloc (.cells M 5)) ((w.alloc (.cells M 5)).setRow w.heap.size Y):=⟨rfl,rfl,rfl,by simp,fun k hk=>setRow_other _ _ _ _ (by omega)⟩
  exact⟨rfl,Lib.below_freeze (hb1.trans hb2) (p:=⟨w.heap.size,0,none⟩) (Nat.le_refl _) _⟩
theorem clone_any (s:ByteArray) (w:World) (hs:s.size<=100000) :
  Calls Tryz.prog 88 #[.string s] w fun e w'=>e = .returned (.string s)/\Below w.heap.size w w':=by
 go_enter Tryz.func88,Tryz.ntmps88
 go_wp2_with fail
 refine(slClone_any s _ hs).mono ?_
 rintro e w1 ⟨rfl,hb1⟩
 go_wp2
 go_ret
 exact⟨rfl,hb1⟩
end Go.Proofs.YtdjhhnolcafkiaaGreat
namespace Go.Proofs.YtdjhhnolcafkiaaGreat
namespace Pk
theorem wp_scope_fwd {P:Program}{a:Act}{w:World}{Q:Exit->Act->World->Prop}{c rest:Code}(l:Nat) (hf:findLabel c l=some rest)
  (first:c.wp P (Exit.jump l (fun a w=>rest.wp P (Exit.noGoto Q) a w) Q) a w):(Code.scope c).wp P Q a w:=
 wp_scope_jumps l _ (fun _ _=>0) hf first fun _ _ hJ=>Code.wp_mono (fun e a w h=>by cases e<;>first|exact h|exact(h:False).elim) hJ
theorem jump_here {P:Program}{a:Act}{w:World}{Q:Exit->Act->World->Prop}{rest:Code}(l:Nat) (h:rest.wp P (Exit.noGoto Q) a w) :
  (Exit.jump l (fun a w=>rest.wp P (Exit.noGoto Q) a w) Q) (.goto l) a w:=⟨rfl,h⟩
end Pk
end Go.Proofs.YtdjhhnolcafkiaaGreat
namespace Go.Proofs.YtdjhhnolcafkiaaGreat
open Go.RowKit Pk
namespace Pk
def wrongV:Value:=.tuple #[.agg #[.bool false,.int .i64 0,.int .i64 0,.int .i64 0,.int .i64 0,.slice none 0 0,.bool false,.int .i64 0,.string ⟨#[]⟩,.string ⟨#[]⟩,.int .i64 0],.int .i64 1]
def okV (x:PP) (v:Value):Value:=.tuple #[.agg #[.bool x.mrk,.int .i64 x.ty,.int .i64 x.nu,.int .i64 x.ti,.int .i64 x.so,v,.bool x.ex,.int .i64 x.pr,.string x.en,.string x.py,.int .i64 x.pa],.int .i64 0]
def ReadAs (r:Option PP) (B:Nat) (e:Ending) (w:World):Prop:=
 match r with
 | some x=>∃v,e = .returned (okV x v)/\OwnInts w B v x.cl
 | none=>e = .returned wrongV
end Pk
theorem read_short (s:ByteArray) (w:World) (hs:s.size<12) :
  Calls Tryz.prog 72 #[.string s] w fun e w'=>Below w.heap.size w w'/\ReadAs (readP s) w.heap.size e w':=by
 have hi:(s.size:Int)<12:=by omega
 have HR:Hid (readP s=none):=readP_bad s (by unfold bad1;exact decide_eq_true (.inl hs))
 go_enter Tryz.func72,Tryz.ntmps72
 go_wp2
 refine wp_scope_fwd 0 rfl ?_
 go_wp2
 go_step3
 refine jump_here 0 ?_
 go_wp2
 rw[Exit.noGoto_ret]
 refine bodyPost_ret (v:=wrongV) (by simp[results,Tryz.results72,wrongV,go_sem]) rfl ⟨?_,?_⟩
 ·exact((Below.refl _ _).alloc (Nat.le_refl _) _).alloc (by simp) _
 ·rw[HR.out]
  rfl
theorem read_long (s:ByteArray) (w:World) (hs:1500<s.size) (hs2:s.size<=maxLen) :
  Calls Tryz.prog 72 #[.string s] w fun e w'=>Below w.heap.size w w'/\ReadAs (readP s) w.heap.size e w':=by
 unfold maxLen at hs2
 have hi:(1500:Int)<s.size:=by omega
 have HR:Hid (readP s=none):=readP_bad s (by unfold bad1;exact decide_eq_true (.inr (.inl hs)))
 go_enter Tryz.func72,Tryz.ntmps72
 go_wp2
 refine wp_scope_fwd 0 rfl ?_
 go_wp2
 go_step3
 refine jump_here 0 ?_
 go_wp2
 rw[Exit.noGoto_ret]
 refine bodyPost_ret (v:=wrongV) (by simp[results,Tryz.results72,wrongV,go_sem]) rfl ⟨?_,?_⟩
 ·exact((Below.refl _ _).alloc (Nat.le_refl _) _).alloc (by simp) _
 ·rw[HR.out]
  rfl
theorem read_mark (s:ByteArray) (w:World) (hs:12<=s.size) (hs2:s.size<=1500) (hm:(B0 s).toNat/64≠2) :
  Calls Tryz.prog 72 #[.string s] w fun e w'=>Below w.heap.size w w'/\ReadAs (readP s) w.heap.size e w':=by
 have hi:(12:Int)<=s.size:=by omega
 have hi2:(s.size:Int)<=1500:=by omega
 have i0:(0:Int)<s.size:=by omega
 have HR:Hid (readP s=none):=readP_bad s (by unfold bad1;exact decide_eq_true (.inr (.inr hm)))
 have j0:∀W:World,(Instr.index 9 (.string s) (.int .i64 0)).run Tryz.prog W = .ok (.int .u8 ((B0 s).toNat:Int)) W:=fun W=>by
  rw[run_index_string W 9 s .i64 0 Tryz.underlying9,dif_pos ⟨by omega,i0⟩,<-get0 s (by omega)];rfl
 have hb:=(B0 s).toNat_lt
 have Hm:=hyd hm
 clear hm
 have hne:(((B0 s).toNat:Int)/64 != 2)=true:=by have:=Hm.out;rw[bne_iff_ne];omega
 go_enter Tryz.func72,Tryz.ntmps72
 go_wp2
 refine wp_scope_fwd 0 rfl ?_
 go_wp2
 go_step3
 refine jump_here 0 ?_
 go_wp2
 rw[Exit.noGoto_ret]
 refine bodyPost_ret (v:=wrongV) (by simp[results,Tryz.results72,wrongV,go_sem]) rfl ⟨?_,?_⟩
 ·exact((Below.refl _ _).alloc (Nat.le_refl _) _).alloc (by simp) _
 ·rw[HR.out]
  rfl
end Go.Proofs.YtdjhhnolcafkiaaGreat
namespace Go.Proofs.YtdjhhnolcafkiaaGreat
open Go.RowKit
namespace Pk
theorem kept_below {w w':World}{B:Nat}(h:Below B w w') (b:Nat) (hb:b<B):(∀o,w'.cell? ⟨b,o,none⟩=w.cell? ⟨b,o,none⟩)/\∀o,w'.frozen? ⟨b,o,none⟩=w.frozen? ⟨b,o,none⟩:=
 ⟨fun o=>h.cell (p:=⟨b,o,none⟩) hb,fun o=>h.frozen (p:=⟨b,o,none⟩) hb⟩
theorem cso {W:World}{a b:Addr}{v x:Value}(h:W.cell? b=some x) (e:a≠b:=by simp<;>omega):(W.setCell a v).cell? b=some x:=
 (World.cell?_setCell_other _ _ _ _ e).trans h
theorem cfo {W:World}{a b:Addr}{v:Value}(h:W.frozen? b=false):(W.setCell a v).frozen? b=false:=by
 rw[World.frozen?_setCell];exact h
structure St (w W:World) (x0 x1 x2 x3 x4 x5 x6 x7 x8 x9 x10:Value):Prop where
 bel:Below w.heap.size w W
 siz:w.heap.size+1<W.heap.size
 r0:W.cell? ⟨w.heap.size,0,none⟩=some (.bool false)
 r1:W.cell? ⟨w.heap.size,1,none⟩=some (.int .i64 0)
 r2:W.cell? ⟨w.heap.size,2,none⟩=some (.int .i64 0)
 r3:W.cell? ⟨w.heap.size,3,none⟩=some (.int .i64 0)
 r4:W.cell? ⟨w.heap.size,4,none⟩=some (.int .i64 0)
 r5:W.cell? ⟨w.heap.size,5,none⟩=some (.slice none 0 0)
 r6:W.cell? ⟨w.heap.size,6,none⟩=some (.bool false)
 r7:W.cell? ⟨w.heap.size,7,none⟩=some (.int .i64 0)
 r8:W.cell? ⟨w.heap.size,8,none⟩=some (.string ⟨#[]⟩)
 r9:W.cell? ⟨w.heap.size,9,none⟩=some (.string ⟨#[]⟩)
 r10:W.cell? ⟨w.heap.size,10,none⟩=some (.int .i64 0)
 y0:W.cell? ⟨w.heap.size+1,0,none⟩=some x0
 y1:W.cell? ⟨w.heap.size+1,1,none⟩=some x1
 y2:W.cell? ⟨w.heap.size+1,2,none⟩=some x2
 y3:W.cell? ⟨w.heap.size+1,3,none⟩=some x3
 y4:W.cell? ⟨w.heap.size+1,4,none⟩=some x4
 y5:W.cell? ⟨w.heap.size+1,5,none⟩=some x5
 y6:W.cell? ⟨w.heap.size+1,6,none⟩=some x6
 y7:W.cell? ⟨w.heap.size+1,7,none⟩=some x7
 y8:W.cell? ⟨w.heap.size+1,8,none⟩=some x8
 y9:W.cell? ⟨w.heap.size+1,9,none⟩=some x9
 y10:W.cell? ⟨w.heap.size+1,10,none⟩=some x10
 fr:∀o,W.frozen? ⟨w.heap.size,o,none⟩=false
 fy:∀o,W.frozen? ⟨w.heap.size+1,o,none⟩=false
theorem St.below {w W W':World}{x0 x1 x2 x3 x4 x5 x6 x7 x8 x9 x10:Value}(h:St w W x0 x1 x2 x3 x4 x5 x6 x7 x8 x9 x10) (hb:Below W.heap.size W W'):St w W' x0 x1 x2 x3 x4 x5 x6 x7 x8 x9 x10:=by
 have hs:=h.siz
 obtain⟨a1,a2⟩:=kept_below hb w.heap.size (by omega)
 obtain⟨b1,b2⟩:=kept_below hb (w.heap.size+1) hs
 exact⟨h.bel.trans (hb.mono (by omega)),by have:=hb.size;omega,(a1 0).trans h.r0,(a1 1).trans h.r1,(a1 2).trans h.r2,(a1 3).trans h.r3,(a1 4).trans h.r4,(a1 5).trans h.r5,(a1 6).trans h.r6,(a1 7).trans h.r7,(a1 8).trans h.r8,(a1 9).trans h.r9,(a1 10).trans h.r10,(b1 0).trans h.y0,(b1 1).trans h.y1,(b1 2).trans h.y2,(b1 3).trans h.y3,(b1 4).trans h.y4,(b1 5).trans h.y5,(b1 6).trans h.y6,(b1 7).trans h.y7,(b1 8).trans h.y8,(b1 9).trans h.y9,(b1 10).trans h.y10,fun o=>(a2 o).trans (h.fr o),fun o=>(b2 o).trans (h.fy o)⟩
theorem St.set0 {w W:World}{x0 x1 x2 x3 x4 x5 x6 x7 x8 x9 x10:Value}(h:St w W x0 x1 x2 x3 x4 x5 x6 x7 x8 x9 x10) (v:Value):St w (W.setCell ⟨w.heap.size+1,0,none⟩ v) v x1 x2 x3 x4 x5 x6 x7 x8 x9 x10:=
 ⟨h.bel.setCell (by simp) _,by have:=h.siz;simpa using this,cso h.r0,cso h.r1,cso h.r2,cso h.r3,cso h.r4,cso h.r5,cso h.r6,cso h.r7,cso h.r8,cso h.r9,cso h.r10,World.cell?_setCell_same _ _ _ h.y0,cso h.y1,cso h.y2,cso h.y3,cso h.y4,cso h.y5,cso h.y6,cso h.y7,cso h.y8,cso h.y9,cso h.y10,fun o=>cfo (h.fr o),fun o=>cfo (h.fy o)⟩
theorem St.set1 {w W:World}{x0 x1 x2 x3 x4 x5 x6 x7 x8 x9 x10:Value}(h:St w W x0 x1 x2 x3 x4 x5 x6 x7 x8 x9 x10) (v:Value):St w (W.setCell ⟨w.heap.size+1,1,none⟩ v) x0 v x2 x3 x4 x5 x6 x7 x8 x9 x10:=
 ⟨h.bel.setCell (by simp) _,by have:=h.siz;simpa using this,cso h.r0,cso h.r1,cso h.r2,cso h.r3,cso h.r4,cso h.r5,cso h.r6,cso h.r7,cso h.r8,cso h.r9,cso h.r10,cso h.y0,World.cell?_setCell_same _ _ _ h.y1,cso h.y2,cso h.y3,cso h.y4,cso h.y5,cso h.y6,cso h.y7,cso h.y8,cso h.y9,cso h.y10,fun o=>cfo (h.fr o),fun o=>cfo (h.fy o)⟩
theorem St.set2 {w W:World}{x0 x1 x2 x3 x4 x5 x6 x7 x8 x9 x10:Value}(h:St w W x0 x1 x2 x3 x4 x5 x6 x7 x8 x9 x10) (v:Value):St w (W.setCell ⟨w.heap.size+1,2,none⟩ v) x0 x1 v x3 x4 x5 x6 x7 x8 x9 x10:=
 ⟨h.bel.setCell (by simp) _,by have:=h.siz;simpa using this,cso h.r0,cso h.r1,cso h.r2,cso h.r3,cso h.r4,cso h.r5,cso h.r6,cso h.r7,cso h.r8,cso h.r9,cso h.r10,cso h.y0,cso h.y1,World.cell?_setCell_same _ _ _ h.y2,cso h.y3,cso h.y4,cso h.y5,cso h.y6,cso h.y7,cso h.y8,cso h.y9,cso h.y10,fun o=>cfo (h.fr o),fun o=>cfo (h.fy o)⟩
theorem St.set3 {w W:World}{x0 x1 x2 x3 x4 x5 x6 x7 x8 x9 x10:Value}(h:St w W x0 x1 x2 x3 x4 x5 x6 x7 x8 x9 x10) (v:Value):St w (W.setCell ⟨w.heap.size+1,3,none⟩ v) x0 x1 x2 v x4 x5 x6 x7 x8 x9 x10:=
 ⟨h.bel.setCell (by simp) _,by have:=h.siz;simpa using this,cso h.r0,cso h.r1,cso h.r2,cso h.r3,cso h.r4,cso h.r5,cso h.r6,cso h.r7,cso h.r8,cso h.r9,cso h.r10,cso h.y0,cso h.y1,cso h.y2,World.cell?_setCell_same _ _ _ h.y3,cso h.y4,cso h.y5,cso h.y6,cso h.y7,cso h.y8,cso h.y9,cso h.y10,fun o=>cfo (h.fr o),fun o=>cfo (h.fy o)⟩
theorem St.set4 {w W:World}{x0 x1 x2 x3 x4 x5 x6 x7 x8 x9 x10:Value}(h:St w W x0 x1 x2 x3 x4 x5 x6 x7 x8 x9 x10) (v:Value):St w (W.setCell ⟨w.heap.size+1,4,none⟩ v) x0 x1 x2 x3 v x5 x6 x7 x8 x9 x10:=
 ⟨h.bel.setCell (by simp) _,by have:=h.siz;simpa using this,cso h.r0,cso h.r1,cso h.r2,cso h.r3,cso h.r4,cso h.r5,cso h.r6,cso h.r7,cso h.r8,cso h.r9,cso h.r10,cso h.y0,cso h.y1,cso h.y2,cso h.y3,World.cell?_setCell_same _ _ _ h.y4,cso h.y5,cso h.y6,cso h.y7,cso h.y8,cso h.y9,cso h.y10,fun o=>cfo (h.fr o),fun o=>cfo (h.fy o)⟩
theorem St.set5 {w W:World}{x0 x1 x2 x3 x4 x5 x6 x7 x8 x9 x10:Value}(h:St w W x0 x1 x2 x3 x4 x5 x6 x7 x8 x9 x10) (v:Value):St w (W.setCell ⟨w.heap.size+1,5,none⟩ v) x0 x1 x2 x3 x4 v x6 x7 x8 x9 x10:=
 ⟨h.bel.setCell (by simp) _,by have:=h.siz;simpa using this,cso h.r0,cso h.r1,cso h.r2,cso h.r3,cso h.r4,cso h.r5,cso h.r6,cso h.r7,cso h.r8,cso h.r9,cso h.r10,cso h.y0,cso h.y1,cso h.y2,cso h.y3,cso h.y4,World.cell?_setCell_same _ _ _ h.y5,cso h.y6,cso h.y7,cso h.y8,cso h.y9,cso h.y10,fun o=>cfo (h.fr o),fun o=>cfo (h.fy o)⟩
theorem St.set6 {w W:World}{x0 x1 x2 x3 x4 x5 x6 x7 x8 x9 x10:Value}(h:St w W x0 x1 x2 x3 x4 x5 x6 x7 x8 x9 x10) (v:Value):St w (W.setCell ⟨w.heap.size+1,6,none⟩ v) x0 x1 x2 x3 x4 x5 v x7 x8 x9 x10:=
 ⟨h.bel.setCell (by simp) _,by have:=h.siz;simpa using this,cso h.r0,cso h.r1,cso h.r2,cso h.r3,cso h.r4,cso h.r5,cso h.r6,cso h.r7,cso h.r8,cso h.r9,cso h.r10,cso h.y0,cso h.y1,cso h.y2,cso h.y3,cso h.y4,cso h.y5,World.cell?_setCell_same _ _ _ h.y6,cso h.y7,cso h.y8,cso h.y9,cso h.y10,fun o=>cfo (h.fr o),fun o=>cfo (h.fy o)⟩
theorem St.set7 {w W:World}{x0 x1 x2 x3 x4 x5 x6 x7 x8 x9 x10:Value}(h:St w W x0 x1 x2 x3 x4 x5 x6 x7 x8 x9 x10) (v:Value):St w (W.setCell ⟨w.heap.size+1,7,none⟩ v) x0 x1 x2 x3 x4 x5 x6 v x8 x9 x10:=
 ⟨h.bel.setCell (by simp) _,by have:=h.siz;simpa using this,cso h.r0,cso h.r1,cso h.r2,cso h.r3,cso h.r4,cso h.r5,cso h.r6,cso h.r7,cso h.r8,cso h.r9,cso h.r10,cso h.y0,cso h.y1,cso h.y2,cso h.y3,cso h.y4,cso h.y5,cso h.y6,World.cell?_setCell_same _ _ _ h.y7,cso h.y8,cso h.y9,cso h.y10,fun o=>cfo (h.fr o),fun o=>cfo (h.fy o)⟩
theorem St.set8 {w W:World}{x0 x1 x2 x3 x4 x5 x6 x7 x8 x9 x10:Value}(h:St w W x0 x1 x2 x3 x4 x5 x6 x7 x8 x9 x10) (v:Value):St w (W.setCell ⟨w.heap.size+1,8,none⟩ v) x0 x1 x2 x3 x4 x5 x6 x7 v x9 x10:=
 ⟨h.bel.setCell (by simp) _,by have:=h.siz;simpa using this,cso h.r0,cso h.r1,cso h.r2,cso h.r3,cso h.r4,cso h.r5,cso h.r6,cso h.r7,cso h.r8,cso h.r9,cso h.r10,cso h.y0,cso h.y1,cso h.y2,cso h.y3,cso h.y4,cso h.y5,cso h.y6,cso h.y7,World.cell?_setCell_same _ _ _ h.y8,cso h.y9,cso h.y10,fun o=>cfo (h.fr o),fun o=>cfo (h.fy o)⟩
theorem St.set9 {w W:World}{x0 x1 x2 x3 x4 x5 x6 x7 x8 x9 x10:Value}(h:St w W x0 x1 x2 x3 x4 x5 x6 x7 x8 x9 x10) (v:Value):St w (W.setCell ⟨w.heap.size+1,9,none⟩ v) x0 x1 x2 x3 x4 x5 x6 x7 x8 v x10:=
 ⟨h.bel.setCell (by simp) _,by have:=h.siz;simpa using this,cso h.r0,cso h.r1,cso h.r2,cso h.r3,cso h.r4,cso h.r5,cso h.r6,cso h.r7,cso h.r8,cso h.r9,cso h.r10,cso h.y0,cso h.y1,cso h.y2,cso h.y3,cso h.y4,cso h.y5,cso h.y6,cso h.y7,cso h.y8,World.cell?_setCell_same _ _ _ h.y9,cso h.y10,fun o=>cfo (h.fr o),fun o=>cfo (h.fy o)⟩
theorem St.set10 {w W:World}{x0 x1 x2 x3 x4 x5 x6 x7 x8 x9 x10:Value}(h:St w W x0 x1 x2 x3 x4 x5 x6 x7 x8 x9 x10) (v:Value):St w (W.setCell ⟨w.heap.size+1,10,none⟩ v) x0 x1 x2 x3 x4 x5 x6 x7 x8 x9 v:=
 ⟨h.bel.setCell (by simp) _,by have:=h.siz;simpa using this,cso h.r0,cso h.r1,cso h.r2,cso h.r3,cso h.r4,cso h.r5,cso h.r6,cso h.r7,cso h.r8,cso h.r9,cso h.r10,cso h.y0,cso h.y1,cso h.y2,cso h.y3,cso h.y4,cso h.y5,cso h.y6,cso h.y7,cso h.y8,cso h.y9,World.cell?_setCell_same _ _ _ h.y10,fun o=>cfo (h.fr o),fun o=>cfo (h.fy o)⟩
theorem St.init (w:World) (t:TypeId):St w ((w.alloc (.cells #[.bool false,.int .i64 0,.int .i64 0,.int .i64 0,.int .i64 0,.slice none 0 0,.bool false,.int .i64 0,.string ⟨#[]⟩,.string ⟨#[]⟩,.int .i64 0] t)).alloc (.cells #[.bool false,.int .i64 0,.int .i64 0,.int .i64 0,.int .i64 0,.slice none 0 0,.bool false,.int .i64 0,.string ⟨#[]⟩,.string ⟨#[]⟩,.int .i64 0] t)) (.bool false) (.int .i64 0) (.int .i64 0) (.int .i64 0) (.int .i64 0) (.slice none 0 0) (.bool false) (.int .i64 0) (.string ⟨#[]⟩) (.string ⟨#[]⟩) (.int .i64 0):=by
 refine⟨((Below.refl _ _).alloc (Nat.le_refl _) _).alloc (by simp) _,by simp,?_,?_,?_,?_,?_,?_,?_,?_,?_,?_,?_,?_,?_,?_,?_,?_,?_,?_,?_,?_,?_,?_,?_,?_⟩
 all_goals first|(intro o;simp[go_sem];done)|(simp[go_sem];done)|go_simp
end Pk
end Go.Proofs.YtdjhhnolcafkiaaGreat
namespace Go.Proofs.YtdjhhnolcafkiaaGreat
open Go.RowKit Pk
namespace Pk
theorem below_fin {w W:World}{c0 c1 c2 c3 c4 c5 c6 c7 c8 c9 c10:Value}(hb:Below w.heap.size w W):Below w.heap.size w (((((((((((W.setCell ⟨w.heap.size,0,none⟩ c0).setCell ⟨w.heap.size,1,none⟩ c1).setCell ⟨w.heap.size,2,none⟩ c2).setCell ⟨w.heap.size,3,none⟩ c3).setCell ⟨w.heap.size,4,none⟩ c4).setCell ⟨w.heap.size,5,none⟩ c5).setCell ⟨w.heap.size,6,none⟩ c6).setCell ⟨w.heap.size,7,none⟩ c7).setCell ⟨w.heap.size,8,none⟩ c8).setCell ⟨w.heap.size,9,none⟩ c9).setCell ⟨w.heap.size,10,none⟩ c10):=(((((((((((hb.setCell (p:=⟨w.heap.size,0,none⟩) (Nat.le_refl _) _).setCell (p:=⟨w.heap.size,1,none⟩) (Nat.le_refl _) _).setCell (p:=⟨w.heap.size,2,none⟩) (Nat.le_refl _) _).setCell (p:=⟨w.heap.size,3,none⟩) (Nat.le_refl _) _).setCell (p:=⟨w.heap.size,4,none⟩) (Nat.le_refl _) _).setCell (p:=⟨w.heap.size,5,none⟩) (Nat.le_refl _) _).setCell (p:=⟨w.heap.size,6,none⟩) (Nat.le_refl _) _).setCell (p:=⟨w.heap.size,7,none⟩) (Nat.le_refl _) _).setCell (p:=⟨w.heap.size,8,none⟩) (Nat.le_refl _) _).setCell (p:=⟨w.heap.size,9,none⟩) (Nat.le_refl _) _).setCell (p:=⟨w.heap.size,10,none⟩) (Nat.le_refl _) _)
theorem told_fin {w W:World}{v:Value}{l:List Int}{c0 c1 c2 c3 c4 c5 c6 c7 c8 c9 c10:Value}(hb:Below w.heap.size w W) (ho:OwnInts W (w.heap.size+2) v l) :
  Below w.heap.size w (((((((((((W.setCell ⟨w.heap.size,0,none⟩ c0).setCell ⟨w.heap.size,1,none⟩ c1).setCell ⟨w.heap.size,2,none⟩ c2).setCell ⟨w.heap.size,3,none⟩ c3).setCell ⟨w.heap.size,4,none⟩ c4).setCell ⟨w.heap.size,5,none⟩ c5).setCell ⟨w.heap.size,6,none⟩ c6).setCell ⟨w.heap.size,7,none⟩ c7).setCell ⟨w.heap.size,8,none⟩ c8).setCell ⟨w.heap.size,9,none⟩ c9).setCell ⟨w.heap.size,10,none⟩ c10)/\OwnInts (((((((((((W.setCell ⟨w.heap.size,0,none⟩ c0).setCell ⟨w.heap.size,1,none⟩ c1).setCell ⟨w.heap.size,2,none⟩ c2).setCell ⟨w.heap.size,3,none⟩ c3).setCell ⟨w.heap.size,4,none⟩ c4).setCell ⟨w.heap.size,5,none⟩ c5).setCell ⟨w.heap.size,6,none⟩ c6).setCell ⟨w.heap.size,7,none⟩ c7).setCell ⟨w.heap.size,8,none⟩ c8).setCell ⟨w.heap.size,9,none⟩ c9).setCell ⟨w.heap.size,10,none⟩ c10) (w.heap.size+2) v l:=
 ⟨(((((((((((hb.setCell (p:=⟨w.heap.size,0,none⟩) (Nat.le_refl _) _).setCell (p:=⟨w.heap.size,1,none⟩) (Nat.le_refl _) _).setCell (p:=⟨w.heap.size,2,none⟩) (Nat.le_refl _) _).setCell (p:=⟨w.heap.size,3,none⟩) (Nat.le_refl _) _).setCell (p:=⟨w.heap.size,4,none⟩) (Nat.le_refl _) _).setCell (p:=⟨w.heap.size,5,none⟩) (Nat.le_refl _) _).setCell (p:=⟨w.heap.size,6,none⟩) (Nat.le_refl _) _).setCell (p:=⟨w.heap.size,7,none⟩) (Nat.le_refl _) _).setCell (p:=⟨w.heap.size,8,none⟩) (Nat.le_refl _) _).setCell (p:=⟨w.heap.size,9,none⟩) (Nat.le_refl _) _).setCell (p:=⟨w.heap.size,10,none⟩) (Nat.le_refl _) _),(((((((((((ho.setCell (a:=⟨w.heap.size,0,none⟩) (by simp) _).setCell (a:=⟨w.heap.size,1,none⟩) (by simp) _).setCell (a:=⟨w.heap.size,2,none⟩) (by simp) _).setCell (a:=⟨w.heap.size,3,none⟩) (by simp) _).setCell (a:=⟨w.heap.size,4,none⟩) (by simp) _).setCell (a:=⟨w.heap.size,5,none⟩) (by simp) _).setCell (a:=⟨w.heap.size,6,none⟩) (by simp) _).setCell (a:=⟨w.heap.size,7,none⟩) (by simp) _).setCell (a:=⟨w.heap.size,8,none⟩) (by simp) _).setCell (a:=⟨w.heap.size,9,none⟩) (by simp) _).setCell (a:=⟨w.heap.size,10,none⟩) (by simp) _)⟩
end Pk
theorem num_two (s:ByteArray) (a:Nat):num (s.extract a (a+2)).data.toList<65536:=by
 have h1:=num_lt (s.extract a (a+2)).data.toList
 have h2:(s.extract a (a+2)).data.toList.length<=2:=by rw[<-Lib.size_eq,ByteArray.size_extract];omega
 have h3:256 ^ (s.extract a (a+2)).data.toList.length<=256 ^ 2:=Nat.pow_le_pow_right (by omega) h2
 omega
theorem run_last (W:World) (s:ByteArray) (h:0<s.size):(Instr.index 9 (.string s) (.int .i64 ((s.size:Int)-1))).run Tryz.prog W = .ok (.int .u8 ((Bl s).toNat:Int)) W:=by
 rw[run_index_string W 9 s .i64 _ Tryz.underlying9,dif_pos ⟨by omega,by omega⟩,<-getl s (by omega)]
 have e:((s.size:Int)-1).toNat=s.size-1:=by omega
 simp only[e]
theorem read_plain (s:ByteArray) (w:World) (hs:12<=s.size) (hs2:s.size<=1500) (hm:(B0 s).toNat/64=2) (hat:at0 s<=s.size) (hx:¬(B0 s).toNat/16%2=1) :
  Calls Tryz.prog 72 #[.string s] w fun e w'=>Below w.heap.size w w'/\ReadAs (readP s) w.heap.size e w':=by
 have hi:(12:Int)<=s.size:=by omega
 have hi2:(s.size:Int)<=1500:=by omega
 have i0:(0:Int)<s.size:=by omega
 have hbad:bad1 s=false:=by unfold bad1;exact decide_eq_false (by omega)
 have HP:Hid (readP s=(extPart s).bind fun x=>(padPart s x.2.2).map fun y=>mkP s x y):=readP_of s hbad hat
 clear hbad
 have j0:∀W:World,(Instr.index 9 (.string s) (.int .i64 0)).run Tryz.prog W = .ok (.int .u8 ((B0 s).toNat:Int)) W:=fun W=>by
  rw[run_index_string W 9 s .i64 0 Tryz.underlying9,dif_pos ⟨by omega,i0⟩,<-get0 s (by omega)];rfl
 have hb:=(B0 s).toNat_lt
 have hne:(((B0 s).toNat:Int)/64 != 2)=false:=by rw[bne_eq_false_iff_eq];omega
 have e15:IntKind.i64.wrap (bits .and .u8 ((B0 s).toNat:Int) 15)=((B0 s).toNat:Int)%16:=by rw[low4];exact(wrapI64 _ (by omega) (by omega)).trans (by omega)
 obtain⟨A,hA⟩:∃A,A=at0 s:=⟨_,rfl⟩
 have HA:=hyd hA
 have hA1:(12+4*(((B0 s).toNat:Int)%16))=(A:Int):=by rw[hA];unfold at0;omega
 have hA2:A<=s.size:=by rw[hA];exact hat
 have hA3:12<=A:=by rw[hA];unfold at0;omega
 clear hm hat hA
 go_enter Tryz.func72,Tryz.ntmps72
 go_wp2
 refine wp_scope_fwd 0 rfl ?_
 go_wp2_with fail
 refine(readHead_any s _ hs hs2).mono ?_
 rintro e w1 ⟨rfl,hb1⟩
 rw[get0 s (by omega),get1 s (by omega)]
 have hSt0:=St.init w 41
 have hSt1:=hSt0.below hb1
 have hSt:=hSt1
 obtain⟨bel,siz,r0,r1,r2,r3,r4,r5,r6,r7,r8,r9,r10,y0,y1,y2,y3,y4,y5,y6,y7,y8,y9,y10,fr,fy⟩:=hSt1
 clear hb1 hSt0
 go_wp2_with fail
 clear bel siz r0 r1 r2 r3 r4 r5 r6 r7 r8 r9 r10 y0 y1 y2 y3 y4 y5 y6 y7 y8 y9 y10 fr fy
 refine(readWords_any _ _ (by simp only[ByteArray.size_extract];omega)).mono ?_
 rintro e w2 ⟨v,rfl,hown,hb2⟩
 have hSt2:=(((((((((((hSt.set0 _).set1 _).set2 _).set3 _).set4 _).set5 _).set6 _).set7 _).set8 _).set9 _).set10 _).below hb2
 have hown2:=hown.mono (base':=w.heap.size+2) (by have:=hSt.siz;simp;omega)
 clear hown hb2 hSt
 obtain⟨ao,cap,rfl⟩:=hown2.shape
 have Hown:=hyd hown2
 clear hown2
 generalize hcl:words (s.extract 12 A).data.toList=cl at *
 have Hcl:=hyd hcl
 clear hcl
 have hSt:=hSt2
 obtain⟨bel,siz,r0,r1,r2,r3,r4,r5,r6,r7,r8,r9,r10,y0,y1,y2,y3,y4,y5,y6,y7,y8,y9,y10,fr,fy⟩:=hSt2
 clear w1
 have hxd:decide ((B0 s).toNat/16%2=1)=false:=decide_eq_false hx
 have HX:Hid (extPart s=some (0,⟨#[]⟩,A)):=by show _=_;unfold extPart;rw[if_neg hx,HA.out]
 clear hx
 by_cases hp:(B0 s).toNat/32%2=1
 ·have hpd:(bits .and .u8 ((B0 s).toNat:Int) 32 != 0)=true:=by rw[pad_bit];exact decide_eq_true hp
  have hq:=(Bl s).toNat_lt
  have jl:∀W:World,(Instr.index 9 (.string s) (.int .i64 ((s.size:Int)-1))).run Tryz.prog W = .ok (.int .u8 ((Bl s).toNat:Int)) W:=fun W=>run_last W s (by omega)
  have HPd:Hid (padPart s A=if(Bl s).toNat=0\/s.size-A<(Bl s).toNat then none else if noughts (s.extract (s.size-(Bl s).toNat) (s.size-1)).data.toList=true then some ((Bl s).toNat,s.size-(Bl s).toNat)else none):=by show _=_;unfold padPart;rw[if_pos hp]
  clear hp
  generalize hqq:(Bl s).toNat=q at *
  have Hqq:=hyd hqq
  clear hqq
  by_cases hq0:q=0
  ·subst hq0
   have HR:Hid (readP s=none):=by
    show _=_
    rw[HP.out,HX.out]
    simp only[Option.bind_some]
    rw[HPd.out,if_pos (.inl rfl)]
    rfl
   go_wp2
   go_step3
   refine jump_here 0 ?_
   go_wp2
   rw[Exit.noGoto_ret]
   refine bodyPost_ret (v:=wrongV) (by simp[results,Tryz.results72,wrongV,go_sem,r0,r1,r2,r3,r4,r5,r6,r7,r8,r9,r10]) rfl ⟨?_,?_⟩
   ·exact below_fin (((bel.setCell (p:=⟨w.heap.size+1,5,none⟩) (by simp) _).setCell (p:=⟨w.heap.size+1,10,none⟩) (by simp) _))
   ·rw[HR.out]
    rfl
  ·have hq0':((q:Int) == 0)=false:=by simpa using hq0
   by_cases hq1:s.size-A<q
   ·have hq1':(s.size:Int)-(A:Nat)<q:=by omega
    have HR:Hid (readP s=none):=by
     show _=_
     rw[HP.out,HX.out]
     simp only[Option.bind_some]
     rw[HPd.out,if_pos (.inr hq1)]
     rfl
    clear hq0
    go_wp2
    go_step3
    refine jump_here 0 ?_
    go_wp2
    rw[Exit.noGoto_ret]
    refine bodyPost_ret (v:=wrongV) (by simp[results,Tryz.results72,wrongV,go_sem,r0,r1,r2,r3,r4,r5,r6,r7,r8,r9,r10]) rfl ⟨?_,?_⟩
    ·exact below_fin (((bel.setCell (p:=⟨w.heap.size+1,5,none⟩) (by simp) _).setCell (p:=⟨w.heap.size+1,10,none⟩) (by simp) _))
    ·rw[HR.out]
     rfl
   ·have hq1':¬((s.size:Int)-(A:Nat)<q):=by omega
    have hq2:(1:Int)<=q:=by omega
    have hq3:(q:Int)<=s.size:=by omega
    have HPd2:Hid (padPart s A=if noughts (s.extract (s.size-q) (s.size-1)).data.toList=true then some (q,s.size-q)else none):=by show _=_;rw[HPd.out,if_neg (by omega)]
    clear hq0 HPd
    have hz1:s.size-q<=s.size-1:=by omega
    have hz2:A<=s.size-q:=by omega
    have hz3:s.size-q<=s.size:=by omega
    go_wp2_with fail
    refine(allNoughts_any _ _ (by simp only[ByteArray.size_extract];unfold maxLen;omega)).mono ?_
    rintro e w4 ⟨rfl,rfl⟩
    cases hN:noughts (s.extract (s.size-q) (s.size-1)).data.toList with
    | false=>
     have HR:Hid (readP s=none):=by
      show _=_
      rw[HP.out,HX.out]
      simp only[Option.bind_some]
      rw[HPd2.out,hN]
      rfl
     clear hN
     go_wp2
     go_step3
     refine jump_here 0 ?_
     go_wp2
     rw[Exit.noGoto_ret]
     refine bodyPost_ret (v:=wrongV) (by simp[results,Tryz.results72,wrongV,go_sem,r0,r1,r2,r3,r4,r5,r6,r7,r8,r9,r10]) rfl ⟨?_,?_⟩
     ·exact below_fin (((bel.setCell (p:=⟨w.heap.size+1,5,none⟩) (by simp) _).setCell (p:=⟨w.heap.size+1,10,none⟩) (by simp) _))
     ·rw[HR.out]
      rfl
    | true=>
     have HR:Hid (readP s=some (mkP s (0,⟨#[]⟩,A) (q,s.size-q))):=by
      show _=_
      rw[HP.out,HX.out]
      simp only[Option.bind_some]
      rw[HPd2.out,hN]
      rfl
     clear hN
     go_wp2_with fail
     clear bel siz r0 r1 r2 r3 r4 r5 r6 r7 r8 r9 r10 y0 y1 y2 y3 y4 y5 y6 y7 y8 y9 y10 fr fy
     refine(clone_any _ _ (by simp only[ByteArray.size_extract];omega)).mono ?_
     rintro e w9 ⟨rfl,hb9⟩
     have hStn:=((hSt.set5 _).set10 _).below hb9
     have hownn:=((Hown.out.setCell (a:=⟨w.heap.size+1,5,none⟩) (by simp) _).setCell (a:=⟨w.heap.size+1,10,none⟩) (by simp) _).below hb9
     clear hb9 hSt Hown
     have Hown:=hyd hownn
     clear hownn
     have hSt:=hStn
     obtain⟨bel,siz,r0,r1,r2,r3,r4,r5,r6,r7,r8,r9,r10,y0,y1,y2,y3,y4,y5,y6,y7,y8,y9,y10,fr,fy⟩:=hStn
     go_wp2
     simp only[Exit.jump]
     obtain⟨q1,q2⟩:=told_fin (bel.setCell (p:=⟨w.heap.size+1,9,none⟩) (by simp) _) (Hown.out.setCell (a:=⟨w.heap.size+1,9,none⟩) (by simp) _)
     refine bodyPost_ret (v:=.tuple #[.agg #[.bool (decide (128<=(B1 s).toNat)),.int .i64 ((B1 s).toNat%128),.int .i64 (num ((s.data.toList.drop 2).take 2)),.int .i64 (num ((s.data.toList.drop 4).take 4)),.int .i64 (num ((s.data.toList.drop 8).take 4)),.slice ao cl.length cap,.bool false,.int .i64 0,.string ⟨#[]⟩,.string (s.extract A (s.size-q)),.int .i64 q],.int .i64 0]) (by simp[results,Tryz.results72,go_sem,r0,r1,r2,r3,r4,r5,r6,r7,r8,r9,r10]) rfl ⟨?_,?_⟩
     ·exact q1
     ·rw[HR.out]
      refine⟨.slice ao cl.length cap,?_,?_⟩
      ·simp[okV,mkP,hxd]
      ·have e:(mkP s (0,⟨#[]⟩,A) (q,s.size-q)).cl=cl:=by rw[<-Hcl.out,HA.out];rfl
       rw[e]
       exact q2.mono (by omega)
 ·have hpd:(bits .and .u8 ((B0 s).toNat:Int) 32 != 0)=false:=by rw[pad_bit];exact decide_eq_false hp
  have HR:Hid (readP s=some (mkP s (0,⟨#[]⟩,A) (0,s.size))):=by
   show _=_
   rw[HP.out,HX.out]
   simp[padPart,hp]
  clear hp
  go_wp2_with fail
  clear bel siz r0 r1 r2 r3 r4 r5 r6 r7 r8 r9 r10 y0 y1 y2 y3 y4 y5 y6 y7 y8 y9 y10 fr fy
  refine(clone_any _ _ (by simp only[ByteArray.size_extract];omega)).mono ?_
  rintro e w9 ⟨rfl,hb9⟩
  have hStn:=(hSt.set5 _).below hb9
  have hownn:=(Hown.out.setCell (a:=⟨w.heap.size+1,5,none⟩) (by simp) _).below hb9
  clear hb9 hSt Hown
  have Hown:=hyd hownn
  clear hownn
  have hSt:=hStn
  obtain⟨bel,siz,r0,r1,r2,r3,r4,r5,r6,r7,r8,r9,r10,y0,y1,y2,y3,y4,y5,y6,y7,y8,y9,y10,fr,fy⟩:=hStn
  go_wp2
  simp only[Exit.jump]
  obtain⟨q1,q2⟩:=told_fin (bel.setCell (p:=⟨w.heap.size+1,9,none⟩) (by simp) _) (Hown.out.setCell (a:=⟨w.heap.size+1,9,none⟩) (by simp) _)
  refine bodyPost_ret (v:=.tuple #[.agg #[.bool (decide (128<=(B1 s).toNat)),.int .i64 ((B1 s).toNat%128),.int .i64 (num ((s.data.toList.drop 2).take 2)),.int .i64 (num ((s.data.toList.drop 4).take 4)),.int .i64 (num ((s.data.toList.drop 8).take 4)),.slice ao cl.length cap,.bool false,.int .i64 0,.string ⟨#[]⟩,.string (s.extract A s.size),.int .i64 0],.int .i64 0]) (by simp[results,Tryz.results72,go_sem,r0,r1,r2,r3,r4,r5,r6,r7,r8,r9,r10]) rfl ⟨?_,?_⟩
  ·exact q1
  ·rw[HR.out]
   refine⟨.slice ao cl.length cap,?_,?_⟩
   ·simp[okV,mkP,hxd]
   ·have e:(mkP s (0,⟨#[]⟩,A) (0,s.size)).cl=cl:=by rw[<-Hcl.out,HA.out];rfl
    rw[e]
    exact q2.mono (by omega)
end Go.Proofs.YtdjhhnolcafkiaaGreat
namespace Go.Proofs.YtdjhhnolcafkiaaGreat
open Go.RowKit
namespace Pk
def pushE (E:List (Nat × Nat)) (n:Nat):List (Nat × Nat):=
 match E.getLast? with
 | some (f,a)=>if 1<=stepsTo n f/\stepsTo n f<=16 then E.dropLast++[(f,a ||| 2 ^ (stepsTo n f-1))]else E++[(n,0)]
 | none=>[(n,0)]
theorem pushE_yes (E:List (Nat × Nat)) (f a n:Nat) (h1:1<=stepsTo n f) (h2:stepsTo n f<=16):pushE (E++[(f,a)]) n=E++[(f,a ||| 2 ^ (stepsTo n f-1))]:=by
 unfold pushE
 rw[List.getLast?_concat]
 simp only
 rw[if_pos ⟨h1,h2⟩,List.dropLast_concat]
theorem pushE_no (E:List (Nat × Nat)) (f a n:Nat) (h:¬(1<=stepsTo n f/\stepsTo n f<=16)):pushE (E++[(f,a)]) n=E++[(f,a)]++[(n,0)]:=by
 unfold pushE
 rw[List.getLast?_concat]
 simp only
 rw[if_neg h]
theorem pushE_nil (n:Nat):pushE [] n=[]++[(n,0)]:=rfl
theorem snoc_cases {α:Type}(E:List α):E=[]\/∃I p,E=I++[p]:=by
 rcases List.eq_nil_or_concat E with h|⟨I,p,h⟩
 ·exact .inl h
 ·exact .inr ⟨I,p,by simpa using h⟩
def OkE (E:List (Nat × Nat)):Prop:=∀p∈E,p.1<65536/\p.2<65536
theorem or_lt (a d:Nat) (ha:a<65536) (h2:d<=16) (h1:1<=d):a ||| 2 ^ (d-1)<65536:=by
 have h:=pow_lt (d-1) (by omega)
 exact Nat.or_lt_two_pow (n:=16) (by omega) (by omega)
theorem OkE.push {E:List (Nat × Nat)}(h:OkE E) (n:Nat) (hn:n<65536):OkE (pushE E n):=by
 rcases snoc_cases E with rfl|⟨I,⟨f,a⟩,rfl⟩
 ·intro p hp
  simp[pushE_nil]at hp
  subst hp
  exact⟨hn,show 0<65536 by omega⟩
 ·have hl:=h (f,a) (by simp)
  by_cases hc:1<=stepsTo n f/\stepsTo n f<=16
  ·rw[pushE_yes I f a n hc.1 hc.2]
   intro p hp
   rcases List.mem_append.1 hp with hp|hp
   ·exact h p (by simp[hp])
   ·simp at hp
    subst hp
    exact⟨hl.1,or_lt a _ hl.2 hc.2 hc.1⟩
  ·rw[pushE_no I f a n hc]
   intro p hp
   rcases List.mem_append.1 hp with hp|hp
   ·exact h p hp
   ·simp at hp
    subst hp
    exact⟨hn,show 0<65536 by omega⟩
end Pk
open Pk
end Go.Proofs.YtdjhhnolcafkiaaGreat
namespace Go.Proofs.YtdjhhnolcafkiaaGreat
open Go.RowKit
theorem headFits_any (mk ex:Bool) (ty nu ti so pr pa:Int) (cv:Value) (cl:List Int) (en py:ByteArray) (w:World) (B:Nat) (hBw:B<=w.heap.size) (hv:Pk.IsInts B w cv cl) (hl:cl.length<=17592186044416) :
  Calls Tryz.prog 107 #[.agg #[.bool mk,.int .i64 ty,.int .i64 nu,.int .i64 ti,.int .i64 so,cv,.bool ex,.int .i64 pr,.string en,.string py,.int .i64 pa]] w
   fun e w'=>e = .returned (.bool (Pk.headOk ty nu ti so cl))/\Below w.heap.size w w':=by
 have hvo:∀o,Pk.IsInts B (w.alloc o) cv cl:=fun o=>hv.alloc hBw o
 have Hv:Hid (∀o,Pk.IsInts B (w.alloc o) cv cl):=hvo
 clear hvo
 obtain⟨ao,cap,rfl,_⟩:=hv
 go_enter Tryz.func107,Tryz.ntmps107
 go_wp2_with (first
  | (go_at_call 109;refine(within_any _ _ _).mono ?_;rintro e w' ⟨rfl,rfl⟩)
  | (go_at_call 128;refine(allWithin_any B _ cl _ _ ?_ hl).mono ?_;exact Hv.out _;rintro e w' ⟨rfl,rfl⟩))
 all_goals go_ret
 all_goals refine⟨Pk.ret_bool ?_,?_⟩
 all_goals first|exact(Below.refl _ _).alloc (Nat.le_refl _) _|skip
 all_goals unfold Pk.headOk
 all_goals first
  | (rw[decide_eq_false ‹¬(0<=ty/\ty<=127)›];simp)
  | (rw[decide_eq_false ‹¬(0<=nu/\nu<=65535)›];simp)
  | (rw[decide_eq_false ‹¬(0<=ti/\ti<=4294967295)›];simp)
  | (rw[decide_eq_false ‹¬(0<=so/\so<=4294967295)›];simp)
  | (rw[decide_eq_false (p:=cl.length<=15) (by omega)];simp)
  | (rw[decide_eq_true ‹0<=ty/\ty<=127›,decide_eq_true ‹0<=nu/\nu<=65535›,decide_eq_true ‹0<=ti/\ti<=4294967295›,decide_eq_true ‹0<=so/\so<=4294967295›,decide_eq_true (p:=cl.length<=15) (by omega)];simp)
theorem extensionFits_any (mk ex:Bool) (ty nu ti so pr pa:Int) (cv:Value) (en py:ByteArray) (w:World) (hen:en.size<=maxLen) :
  Calls Tryz.prog 108 #[.agg #[.bool mk,.int .i64 ty,.int .i64 nu,.int .i64 ti,.int .i64 so,cv,.bool ex,.int .i64 pr,.string en,.string py,.int .i64 pa]] w
   fun e w'=>e = .returned (.bool (Pk.extOk ex pr en))/\Below w.heap.size w w':=by
 unfold maxLen at hen
 cases ex
 all_goals
  go_enter Tryz.func108,Tryz.ntmps108
  go_wp2_with (first
   | (go_at_call 109;refine(within_any _ _ _).mono ?_;rintro e w' ⟨rfl,rfl⟩))
 all_goals go_ret
 all_goals refine⟨Pk.ret_bool ?_,(Below.refl _ _).alloc (Nat.le_refl _) _⟩
 all_goals first|rw[Pk.extOk_no]|rw[Pk.extOk_yes]
 all_goals first
  | (rw[decide_eq_false ‹¬pr=0›];rfl)
  | (rw[decide_eq_false ‹¬(0<=pr/\pr<=65535)›];rfl)
  | (rw[decide_eq_true ‹pr=0›,Bool.true_and];exact Pk.isEmpty_size en)
  | (rw[decide_eq_true ‹0<=pr/\pr<=65535›,Bool.true_and,Bool.eq_iff_iff];simp;omega)
theorem packetLength_any (mk ex:Bool) (ty nu ti so pr pa:Int) (ao:Option Addr) (n cap:Nat) (en py:ByteArray) (w:World) (hen:en.size<=140737488355328) (hpy:py.size<=140737488355328) (hn:n<=15) (hp0:0<=pa) (hp1:pa<=255) :
  Calls Tryz.prog 110 #[.agg #[.bool mk,.int .i64 ty,.int .i64 nu,.int .i64 ti,.int .i64 so,.slice ao n cap,.bool ex,.int .i64 pr,.string en,.string py,.int .i64 pa]] w
   fun e w'=>e = .returned (.int .i64 (12+4*n+py.size+pa+if ex then 4+en.size else 0))/\Below w.heap.size w w':=by
 cases ex
 all_goals
  go_enter Tryz.func110,Tryz.ntmps110
  go_wp2
  go_ret
  refine⟨Pk.ret_int ?_,(Below.refl _ _).alloc (Nat.le_refl _) _⟩
  simp<;>omega
end Go.Proofs.YtdjhhnolcafkiaaGreat
