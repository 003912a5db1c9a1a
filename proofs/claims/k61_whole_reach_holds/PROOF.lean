import PyProof.Rows.All
import Wide.All
import OpenK.AllK
import Wide.FinOn
import Lean
import PySem.Syntax
import KE.KSortTup
import PySem.Builtin.Str.Common
import PyProof.StrBlock
import PyProof.ExcInit
import PyProof.ExcClass2
import OpenK.KGet
import OpenK.KMake
import PyProof.InstStoreFacts
import PyProof.EqAt
import PyProof.EqKinds
import PyProof.TupleCall
import PyProof.DictRoadsH
import PyProof.NeKinds
import PyProof.StationsW
import PyProof.Cells
import KE.KDictSum
import KE.KItemsList
import PyProof.TupleKey
import PyProof.DictValues
import PyProof.ForAny
import PyProof.TupleIter
import PyProof.Draws
import PyProof.DictWalks
import PyProof.WalksMore
import PyProof.Comp
import PyProof.Raises
import KE.KItem
import PyProof.WalkInts
import PyProof.ConsumeWalk
import PyProof.ListCopy
import PyProof.TupleOfSeq
import PyProof.ExcArgs
import PyProof.NsDelKeeps
import PyProof.RulesAs
import KE.KTryMore
import PyProof.Rows.TupDisplay
import PyProof.IsiH_list
import PyProof.AttrMiss
import PyProof.SetRoads
import PyProof.Rows.SetFrom
import PySem.Eval
import PyProof.CompFree
import PyProof.CompMap
import PyProof.CompUse
import PyProof.EnumMake
import PyProof.EnumFor
import PyProof.ZipIter
import PyProof.ExcBaseAll.ValueError
import PyProof.RulesAssignMore
import PySem.Challenge.RW_dealtables_k61_whole_reach_holds
set_option Elab.async false
set_option linter.all false
set_option genSizeOf false
set_option bootstrap.genMatcherCode false
set_option maxRecDepth 100000
set_option maxHeartbeats 8000000
noncomputable section
abbrev a7.{u}(x:Type u):=Option x
section
theorem obs{α β:Type}{o:a7 α}{f:α->a7 β}{b:β}:o.bind f=some b->∃a,o=some a/\f a=some b:=Option.bind_eq_some_iff.mp
theorem oms{α β:Type}{o:a7 α}{f:α->β}{b:β}:o.map f=some b->∃a,o=some a/\f a=b:=Option.map_eq_some_iff.mp
theorem omc{α:Type}{a b:α}{l:List α}:a∈b::l->a=b\/a∈l:=List.mem_cons.mp
theorem oma{α:Type}{a:α}{s t:List α}:a∈s++t->a∈s\/a∈t:=List.mem_append.mp
theorem omm{α β:Type}{f:α->β}{l:List α}{b:β}:b∈l.map f->∃a,a∈l/\f a=b:=List.mem_map.mp
theorem omg{α:Type}{a b:α}:a∈[b]->a=b:=List.mem_singleton.mp
theorem oml{α:Type}{p:α->Bool}{l:List α}:l.all p=true->∀x,x∈l->p x=true:=List.all_eq_true.mp
theorem ome{α:Type}{l:List α}{i:Nat}{a:α}:l[i]?=some a->∃h:i<l.length,l[i]=a:=List.getElem?_eq_some_iff.mp
open PySem Spec PyProof.Rows
def ua0:=@List.mem_map
def ua1:=@List.mem_cons
def ua2:=@eq_of_beq
def ua3:=@List.size_toArray
def ua4:=@List.getElem?_set_self
def ua5:=@List.getElem_mem
def ua6:=@List.flatMap_cons
def ua7:=@List.nodup_cons
def ua8:=@List.map_congr_left
def ua9:=@beq_self_eq_true
def ub0:=@List.filter_cons
def ub1:=@List.length_set
def ub2:=@Array.getElem?_eq_getElem
def ub3:=@Heap.SameBut.update
def ub4:=@wpAny_field
def ub5:=@sizeLine_eq
def ub6:=@List.mem_of_mem_take
def ub7:=@List.any_cons
def ub8:=@wpAny_pyIter_tuple
def ub9:=@List.mem_filter
def uc0:=@Int.emod_lt_of_pos
def uc1:=@List.all_eq_true
def uc2:=@wpAny_holding
def uc3:=@List.getElem?_append_right
def uc4:=@List.getElem?_append_left
def uc5:=@Int.emod_nonneg
def uc6:=@wpAny_dictEntries
def uc7:=@Heap.get?_update_ne
def uc8:=@wpAny_typeNameOfWhole_keyiter
def uc9:=@wpAny_seqItems
def ud0:=@wpAny_fieldsOf
def ud1:=@List.nodup_nil
def ud2:=@List.pairwise_cons
def ud3:=@wpAny_setField_rec
def ud4:=@Obj.data_mapFields
def ud5:=@List.mem_filterMap
def ud6:=@List.length_filter_le
def ud7:=@List.getElem?_eq_none
def ud8:=@Option.bind_eq_some_iff
def ud9:=@List.mem_append
def ue0:=@List.length_drop
def ue1:=@List.mem_singleton
def ue2:=@List.mem_flatMap
def ue3:=@beq_iff_eq
def zxq:=@wpAny_bind
def zxr:=@Heap.get?_push_of_some
def zxs:=@wpAny_pure
def zxt:=@List.length_map
def zxu:=@List.getElem?_eq_getElem
def zxv:=@Option.bind_some
def zxw:=@Bool.and_eq_true
def zxx:=@Heap.get?_push_size
def zxy:=@List.length_append
def zxz:=@List.map_cons
def zx0:=@List.getElem?_map
def zx1:=@Array.length_toList
def zx2:=@congrArg
def zx3:=@Nat.le_refl
def zx4:=@List.mem_of_getElem?
def zx5:=@Heap.lt_size
def zx6:=@List.getD_eq_getElem?_getD
def zx7:=@List.map_append
def zx8:=@decide_eq_true
def zx9:=@Array.getElem?_toList
def zya:=@List.length_cons
def zyb:=@Heap.size_push
def zyc:=@Nat.le_trans
def zyd:=@wpAny_call_entry
def zye:=@Nat.ne_of_lt
def zyf:=@wpAny_callSpecial?_slot
def zyg:=@Nat.zero_le
def zyh:=@List.mem_cons_of_mem
def zyi:=@List.map_map
def zyj:=@wpAny_newObj_type
def zyk:=@of_decide_eq_true
def zyl:=@List.size_toArray
def zym:=@List.mem_append_right
def zyn:=@decide_eq_true_eq
def zyo:=@List.mem_cons_self
def zyp:=@List.lookup_cons
def zyq:=@Int.toNat_natCast
def zyr:=@Option.some.inj
def zys:=@Bool.false_ne_true
def zyt:=@wpAny_mono
def zyu:=@List.length_singleton
def zyv:=@List.filterMap_cons
def zyw:=@List.getElem?_set_ne
def zyx:=@Bool.false_eq_true
def zyy:=@List.not_mem_nil
def zyz:=@List.append_assoc
def zy0:=@List.append_nil
def zy1:=@wpAny_attempt
def zy2:=@List.length_range
def zy3:=@List.length_take
def zy4:=@decide_eq_false
def zy5:=@Nat.lt_irrefl
def zy6:=@List.getElem?_append_right
def zy7:=@List.getElem?_append_left
def zy8:=@Nat.lt_succ_self
def zy9:=@Nat.lt_of_lt_of_le
theorem xgz{α:Type _}{a:α}{l:List α}:(a::l)[0]?=some a:=rfl
theorem xgs{α:Type _}{a:α}{l:List α}{i:Nat}:(a::l)[i+1]?=l[i]?:=rfl
theorem xbs{α β:Type _}{a:α}{f:α->a7 β}:(some a).bind f=f a:=rfl
theorem xjs{α:Type _}{a:a7 α}:(some a).join=a:=rfl
theorem xmc{α β:Type _}{a:α}{l:List α}{f:α->β}:(a::l).map f=f a::l.map f:=rfl
theorem xmn{α β:Type _}{f:α->β}:[].map f=[]:=rfl
theorem xms{α β:Type _}{a:α}{f:α->β}:(some a).map f=some (f a):=rfl
theorem xss{α:Type _}{a b:α}{l:List α}{n:Nat}:(a::l).set (n+1) b=a::l.set n b:=rfl
theorem xsz{α:Type _}{a b:α}{l:List α}:(a::l).set 0 b=b::l:=rfl
end
theorem Nb.lw_ok:PySem.Challenge.rw_dealtables_k61_whole_reach_holds.wellSaid=true:=by kernel_rfl
namespace Ev
open PySem
inductive T where
 |non|bl (b:Bool)|int (i:Int)|str (x:Str)|tup (xs:List T)|lst (xs:List T)|dic (ks vs:List T)|adr (a:Nat)
 deriving Inhabited
inductive Bo where
 |add|sub|mul|fdiv|mod
 deriving DecidableEq
inductive Co where
 |eq|ne|lt|gt|isin|notin|isN|notN|notF
 deriving DecidableEq
inductive Ik where
 |plain|range|enum|zip|vals
 deriving DecidableEq
inductive Ty where
 |tint|tbool
 deriving DecidableEq
inductive Bn where
 |len|toInt|toList|toTuple|any|least|most|sorted|dict|sset
 deriving DecidableEq
inductive Mt where
 |index|count
 deriving DecidableEq
inductive E where
 |var (i:Nat)|cst (t:T)
 |bin (o:Bo) (a b:E)|cmp (o:Co) (a b:E)
 |land (a b:E)|lor (a b:E)|lnot (a:E)|neg (a:E)|tru (a:E)
 |tup (es:List E)|lst (es:List E)
 |idx (a b:E)|sli (a:E) (lo hi:Option E)
 |call (f:Str) (es:List E)|blt (f:Bn) (a:E)|isi (a:E) (k:Ty)|mth (m:Mt) (a b:E)|dget (a b c:E)|ife (c a b:E)|told (f:Str) (es:List E)
 |comp (elt:E) (n:Nat) (k:Ik) (src:List E) (cond:Option E)
 deriving Inhabited
inductive S where
 |asg (i:Nat) (e:E)
 |asgs (is:List Nat) (e:E)
 |app (i:Nat) (e:E)
 |ext (i:Nat) (e:E)
 |dnew (i:Nat)
 |dnew1 (i:Nat) (k v:E)
 |put (i:Nat) (k v:E)
 |dapp (i:Nat) (k v:E)
 |dfill (j i:Nat) (k:E) (c:Nat) (src:E)
 |wloop (c:E) (body:List S)
 |lpop (j i:Nat)
 |pop (i:Nat)
 |nw (i:Nat) (e:E)
 |ret (e:E)
 |exp (e:E)
 |asgx (i:Nat) (f:Str) (es:List E)
 |retx (f:Str) (es:List E)
 |expx (f:Str) (es:List E)
 |fail (x:Str) (es:List E)
 |ite (c:E) (a b:List S)
 |loop (is:List Nat) (k:Ik) (src:List E) (body:List S)
 deriving Inhabited
abbrev SZ:Nat:=16777216
abbrev Env:=List (a7 T)
structure Glo where
 call:Str->List T->Option T
 exc:Str->List T->Option (Str×Int)
noncomputable def ybu(i:Int):Bool:=decide (-18446744073709551616<i)&&decide (i<18446744073709551616)
def yd8:T->T->a7 T
 |.int a,y=>(match y with
  |.int b=>some (.int (a+b))
  |_=>none)
 |.lst a,y=>(match y with
  |.lst b=>if a.length+b.length<=SZ then some (.lst (a++b))else none
  |_=>none)
 |.tup a,y=>(match y with
  |.tup b=>if a.length+b.length<=SZ then some (.tup (a++b))else none
  |_=>none)
 |_,_=>none
def subT:T->T->a7 T
 |.int a,.int b=>some (.int (a-b))
 |_,_=>none
def mulT:T->T->a7 T
 |.int a,.int b=>if ybu a||ybu b then some (.int (a*b))else none
 |.lst xs,.int n=>if 0<=n/\n<=1000/\xs.length<=1000 then some (.lst (List.replicate n.toNat xs).flatten)else none
 |_,_=>none
def yei:T->T->a7 T
 |.int a,.int b=>if 0<b/\b<1073741824 then some (.int (a/b))else none
 |_,_=>none
def modT:T->T->a7 T
 |.int a,.int b=>if 0<b then some (.int (a%b))else none
 |_,_=>none
def yc5:Bo->T->T->a7 T
 |.add=>yd8|.sub=>subT|.mul=>mulT|.fdiv=>yei|.mod=>modT
mutual
noncomputable def eqT:T->T->Bool
 |.non,y=>(match y with
  |.non=>true
  |_=>false)
 |.bl a,y=>(match y with
  |.bl b=>a==b
  |.int b=>(if a then 1 else 0)==b
  |_=>false)
 |.int a,y=>(match y with
  |.bl b=>a==(if b then 1 else 0)
  |.int b=>a==b
  |_=>false)
 |.str a,y=>(match y with
  |.str b=>a==b
  |_=>false)
 |.tup a,y=>(match y with
  |.tup b=>eqTs a b
  |_=>false)
 |.lst a,y=>(match y with
  |.lst b=>eqTs a b
  |_=>false)
 |_,_=>false
noncomputable def eqTs:List T->List T->Bool
 |[],[]=>true
 |x::xs,y::ys=>eqT x y&&eqTs xs ys
 |_,_=>false
end
mutual
noncomputable def dpP:T->T->Nat
 |.tup a,y=>(match y with
  |.tup b=>ya9 a b+1
  |.dic _ _=>20000
  |.adr _=>20000
  |_=>0)
 |.lst a,y=>(match y with
  |.lst b=>ya9 a b+1
  |.dic _ _=>20000
  |.adr _=>20000
  |_=>0)
 |.dic _ _,_=>20000
 |.adr _,_=>20000
 |_,y=>(match y with
  |.dic _ _=>20000
  |.adr _=>20000
  |_=>0)
noncomputable def ya9:List T->List T->Nat
 |x::xs,y::ys=>max (dpP x y) (ya9 xs ys)
 |_,_=>0
end
noncomputable def ycu:T->Bool
 |.tup _=>false
 |.lst _=>false
 |.dic _ _=>false
 |.adr _=>false
 |_=>true
noncomputable def yao:Nat->T->Bool
 |_,.int _=>true
 |_,.str _=>true
 |n+1,.tup xs=>xs.all (yao n)
 |_,_=>false
noncomputable def isS:T->Bool
 |.str _=>true
 |_=>false
def isK:T->Bool
 |.tup xs=>xs.all (yao 3)
 |_=>false
def yac(ks:List T)(k:T):Bool:=(isS k&&ks.all isS)||(isK k&&ks.all isK)
section
variable {β:Type}
def yae:List T->List β->T->a7 β
 |k::ks,v::vs,q=>if eqT k q=true then some v else yae ks vs q
 |_,_,_=>none
def ybv(ks:List T)(q:T):Bool:=ks.any fun k=>eqT k q
def yap:List T->List β->T->β->List β
 |k::ks,v::vs,q,x=>if eqT k q=true then x::vs else v::yap ks vs q x
 |_,_,_,x=>[x]
def yad(ks:List T)(q:T):List T:=if ybv ks q=true then ks else ks++[q]
end
def eqC(x y:T):a7 T:=if dpP x y<=30 then some (.bl (eqT x y))else none
def neC(x y:T):a7 T:=if dpP x y<=30 then some (.bl (!eqT x y))else none
def ltC:T->T->a7 T
 |.int a,.int b=>some (.bl (decide (a<b)))
 |.str a,.str b=>some (.bl (decide (a.cps.toList<b.cps.toList)))
 |_,_=>none
noncomputable def yby:T->a7 (List T)
 |.tup xs=>some xs
 |.lst xs=>some xs
 |_=>none
def dpI(x:T)(xs:List T):Bool:=xs.all fun z=>decide (dpP z x<=30)
def inC(x y:T):a7 Bool :=
 match y with
 |.tup xs=>if dpI x xs then some (xs.any fun z=>eqT z x)else none
 |.lst xs=>if dpI x xs then some (xs.any fun z=>eqT z x)else none
 |.dic ks _=>if yac ks x=true then some (ybv ks x)else none
 |_=>none
def yaw:Co->T->T->a7 T
 |.eq,x,y=>eqC x y
 |.ne,x,y=>neC x y
 |.lt,x,y=>ltC x y
 |.gt,x,y=>(match x,y with
  |.int a,.int b=>some (.bl (decide (b<a)))
  |_,_=>none)
 |.isin,x,y=>(inC x y).map .bl
 |.notin,x,y=>(inC x y).map fun b=>.bl (!b)
 |.isN,x,y=>(match x,y with
  |.non,.non=>some (.bl true)
  |_,.non=>some (.bl false)
  |_,_=>none)
 |.notN,x,y=>(match x,y with
  |.non,.non=>some (.bl false)
  |_,.non=>some (.bl true)
  |_,_=>none)
 |.notF,x,y=>(match x,y with
  |.bl b,.bl false=>some (.bl b)
  |.non,.bl false=>some (.bl true)
  |_,_=>none)
noncomputable def ixI(n:Nat)(i:Int):a7 Nat:=if 0<=i then(if i<n then some i.toNat else none)else if -(n:Int)<=i then some (i+n).toNat else none
def yb3(xs:List T)(i:Int):a7 T:=(ixI xs.length i).bind fun j=>xs[j]?
def ya6:T->T->a7 T
 |.tup xs,.int i=>yb3 xs i
 |.lst xs,.int i=>yb3 xs i
 |.dic ks vs,k=>if yac ks k=true then yae ks vs k else none
 |_,_=>none
noncomputable def yam(n d:Nat):a7 Int->Nat
 |none=>d
 |some v=>if v<0 then(v+(n:Int)).toNat else min v.toNat n
def cut(xs:List T)(lo hi:a7 Int):List T:=(xs.drop (yam xs.length 0 lo)).take (yam xs.length xs.length hi-yam xs.length 0 lo)
def yfy:T->a7 Int->a7 Int->a7 T
 |.tup xs,lo,hi=>some (.tup (cut xs lo hi))
 |.lst xs,lo,hi=>some (.lst (cut xs lo hi))
 |_,_,_=>none
def yft:T->a7 Bool
 |.non=>some false
 |.bl b=>some b
 |.int i=>some (i != 0)
 |.tup xs=>some (!xs.isEmpty)
 |.lst xs=>some (!xs.isEmpty)
 |_=>none
noncomputable def yee(x:T):Ty->Bool
 |.tint=>(match x with
  |.int _=>true
  |.bl _=>true
  |_=>false)
 |.tbool=>(match x with
  |.bl _=>true
  |_=>false)
def yec(x:T)(k:Ty):a7 T:=match x with
 |.adr _=>none
 |_=>some (.bl (yee x k))
noncomputable def ycn:List T->a7 (List Int)
 |[]=>some []
 |.int i::r=>(ycn r).map (i::·)
 |_=>none
noncomputable def yds(l:List Int):a7 T:=l.min?.map .int
noncomputable def yey(l:List Int):a7 T:=l.max?.map .int
def yfm(g:List Int->a7 T):T->a7 T
 |.lst xs=>(ycn xs).bind g
 |_=>none
def zdm:List T->a7 (List Bool)
 |[]=>some []
 |.bl b::r=>(zdm r).map (b::·)
 |_=>none
mutual
noncomputable def ltD:T->T->a7 Bool
 |.int a,y=>(match y with
  |.int b=>some (decide (a<b))
  |_=>none)
 |.str a,y=>(match y with
  |.str b=>some (decide (a.cps.toList<b.cps.toList))
  |_=>none)
 |.tup a,y=>(match y with
  |.tup b=>yaz a b
  |_=>none)
 |_,_=>none
noncomputable def yaz:List T->List T->a7 Bool
 |[],y=>some (!y.isEmpty)
 |x::xs,y=>(match y with
  |[]=>some false
  |b::ys=>if eqT x b=true then yaz xs ys else ltD x b)
end
def cD(x y:T):Bool:=ltD x y==some true
noncomputable def kdN:T->a7 Nat
 |.int _=>some 0
 |.str _=>some 1
 |.tup _=>some 2
 |_=>none
structure OkN(l:List T):Prop where
 len:l.length<=60
 dp:∀x∈l,∀y∈l,dpP x y<=20
 lt:∀x∈l,∀y∈l,∃b,ltD x y=some b
 kd:(∃n,∀x∈l,∃a r,x=.tup (a::r)/\kdN a=some n)\/∀x∈l,isS x=true
 tot:l.Pairwise fun x y=>cD y x=!cD x y
 tr:∀x∈l,∀y∈l,∀z∈l,cD x y=true->cD y z=true->cD x z=true
def yed(x:T):List T->List T
 |[]=>[x]
 |y::r=>if cD x y=true then x::y::r else y::yed x r
def ycy:List T->List T
 |[]=>[]
 |x::r=>yed x (ycy r)
open Classical in
def ya5(l:List T):a7 T:=if OkN l then some (.lst (ycy l))else none
def ya7:List T->List T->List T->a7 T
 |[],ks,vs=>some (.dic ks vs)
 |.tup [k,v]::r,ks,vs=>if yac ks k=true then ya7 r (yad ks k) (yap ks vs k v)else none
 |_,_,_=>none
def yb8(xs:List T):List T:=xs.foldl yad []
def yb2:Bn->T->a7 T
 |.len,x=>(match x with
  |.tup xs=>some (.int xs.length)
  |.lst xs=>some (.int xs.length)
  |_=>none)
 |.toInt,x=>(match x with
  |.int i=>some (.int i)
  |.bl b=>some (.int (if b then 1 else 0))
  |_=>none)
 |.toList,x=>(match x with
  |.tup xs=>some (.lst xs)
  |.lst xs=>some (.lst xs)
  |_=>none)
 |.toTuple,x=>(match x with
  |.tup xs=>some (.tup xs)
  |.lst xs=>some (.tup xs)
  |_=>none)
 |.least,x=>yfm yds x
 |.most,x=>yfm yey x
 |.any,x=>(match x with
  |.lst xs=>(zdm xs).map fun bs=>.bl (bs.any id)
  |_=>none)
 |.sorted,x=>(match x with
  |.dic ks _=>ya5 ks
  |.lst xs=>ya5 xs
  |_=>none)
 |.dict,x=>(match x with
  |.lst xs=>if xs.length<=1000 then ya7 xs [] []else none
  |_=>none)
 |.sset,x=>(match x with
  |.lst xs=>if xs.length<=1000/\xs.all isS=true/\(yb8 xs).length<=4 then ya5 (yb8 xs)else none
  |_=>none)
def zbv(x:T):List T->a7 Nat
 |[]=>none
 |y::r=>if eqT y x then some 0 else(zbv x r).map (·+1)
def yb7:Mt->T->T->a7 T
 |.count,.lst xs,y=>if dpI y xs then some (.int ((xs.filter fun z=>eqT z y).length:Nat))else none
 |.index,.lst xs,y=>if(ycu y&&xs.all ycu)||dpI y xs then(zbv y xs).map fun(i:Nat)=>T.int (i:Int)else none
 |_,_,_=>none
noncomputable def ya3:List T->Nat->List T
 |[],_=>[]
 |x::r,i=>.tup [.int i,x]::ya3 r (i+1)
noncomputable def ybj:List T->List T->List T
 |x::xs,y::ys=>.tup [x,y]::ybj xs ys
 |_,_=>[]
noncomputable def rangeT(n:Nat):List T:=(List.range n).map fun(i:Nat)=>T.int (i:Int)
noncomputable def ascii(x:Str):Bool:=x.cps.all (·<128)
def items:Ik->List T->a7 (List T)
 |.plain,l=>(match l with
  |[.tup xs]=>some xs
  |[.lst xs]=>some xs
  |[.dic ks _]=>some ks
  |_=>none)
 |.vals,l=>(match l with
  |[.dic _ vs]=>some vs
  |_=>none)
 |.range,l=>(match l with
  |[.int n]=>if -4611686018427387904<=n/\n<4611686018427387904 then some (rangeT n.toNat)else none
  |_=>none)
 |.enum,l=>(match l with
  |[.tup xs]=>some (ya3 xs 0)
  |[.lst xs]=>some (ya3 xs 0)
  |_=>none)
 |.zip,l=>(match l with
  |[x,y]=>(match x with
   |.tup xs=>(yby y).bind fun ys=>some (ybj xs ys)
   |_=>none)
  |_=>none)
def yas(k:Ik)(xs:List T):a7 (List T):=(items k xs).bind fun qc=>if qc.length<=SZ then some qc else none
noncomputable def bnd(n:Nat)(x:T)(ρ:Env):a7 Env :=
 if n=1 then some (some x::ρ)else
  match x with
  |.tup xs=>if xs.length=n then some (xs.map some++ρ)else none
  |_=>none
noncomputable def ya4(f:T->a7 (a7 T)):List T->a7 (List T)
 |[]=>some []
 |x::xs=>(f x).bind fun r=>(ya4 f xs).bind fun rs=>match r with
  |none=>some rs
  |some y=>some (y::rs)
noncomputable def asI:a7 T->a7 (a7 Int)
 |none=>some none
 |some (.int i)=>some (some i)
 |some _=>none
noncomputable def yc2:List Str:=["NoText", "NoRow", "Twice", "BadCheck", "NoRef", "Held", "NoMark", "BadLog", "Clash"]
noncomputable def ydt(x:Str):List Str->Nat->a7 Nat
 |[],_=>none
 |y::r,i=>if y=x then some i else ydt x r (i+1)
def ybf(G:Glo)(f:Str)(ts:List T):a7 T:=match G.call f ts with
 |some t=>some (.tup [.str "told",t])
 |none=>(G.exc f ts).bind fun x=>(ydt x.1 yc2 0).map fun(j:Nat)=>T.tup [.str "refused",.int (j:Int),.int x.2]
mutual
noncomputable def evE(G:Glo):E->Env->a7 T
 |.var i,ρ=>(ρ[i]?).join
 |.cst t,_=>some t
 |.bin o a b,ρ=>(evE G a ρ).bind fun x=>(evE G b ρ).bind fun y=>yc5 o x y
 |.cmp o a b,ρ=>(evE G a ρ).bind fun x=>(evE G b ρ).bind fun y=>yaw o x y
 |.land a b,ρ=>(evE G a ρ).bind fun x=>match x with
  |.bl true=>evE G b ρ
  |.bl false=>some (.bl false)
  |_=>none
 |.lor a b,ρ=>(evE G a ρ).bind fun x=>match x with
  |.bl true=>some (.bl true)
  |.bl false=>evE G b ρ
  |_=>none
 |.lnot a,ρ=>(evE G a ρ).bind fun x=>match x with
  |.bl b=>some (.bl (!b))
  |_=>none
 |.neg a,ρ=>(evE G a ρ).bind fun x=>match x with
  |.int i=>some (.int (-i))
  |_=>none
 |.tru a,ρ=>(evE G a ρ).bind fun x=>(yft x).map .bl
 |.tup es,ρ=>if es.length<=1000 then(yal G es ρ).map .tup else none
 |.lst es,ρ=>if es.length<=1000 then(yal G es ρ).map .lst else none
 |.idx a b,ρ=>(evE G a ρ).bind fun x=>(evE G b ρ).bind fun y=>ya6 x y
 |.sli a lo hi,ρ=>(evE G a ρ).bind fun x=>(evO G lo ρ).bind fun l=>(evO G hi ρ).bind fun h=>(asI l).bind fun l'=>(asI h).bind fun h'=>yfy x l' h'
 |.call f es,ρ=>(yal G es ρ).bind fun xs=>G.call f xs
 |.blt f a,ρ=>(evE G a ρ).bind fun x=>yb2 f x
 |.isi a k,ρ=>(evE G a ρ).bind fun x=>yec x k
 |.mth m a b,ρ=>(evE G a ρ).bind fun x=>(evE G b ρ).bind fun y=>yb7 m x y
 |.dget a b c,ρ=>(evE G a ρ).bind fun x=>(evE G b ρ).bind fun y=>(evE G c ρ).bind fun z=>(match x with
  |.dic ks vs=>if yac ks y=true then some ((yae ks vs y).getD z)else none
  |_=>none)
 |.ife c a b,ρ=>(evE G c ρ).bind fun x=>match x with
  |.bl true=>evE G a ρ
  |.bl false=>evE G b ρ
  |_=>none
 |.told f es,ρ=>(yal G es ρ).bind fun xs=>ybf G f xs
 |.comp elt n k src cond,ρ=>(yal G src ρ).bind fun xs=>(yas k xs).bind fun qc=>
   (ya4 (fun x=>(bnd n x ρ).bind fun ρ'=>(evO G cond ρ').bind fun c=>match c with
    |none=>(evE G elt ρ').map some
    |some (.bl true)=>(evE G elt ρ').map some
    |some (.bl false)=>some none
    |some _=>none) qc).map .lst
noncomputable def yal(G:Glo):List E->Env->a7 (List T)
 |[],_=>some []
 |e::es,ρ=>(evE G e ρ).bind fun x=>(yal G es ρ).bind fun xs=>some (x::xs)
noncomputable def evO(G:Glo):a7 E->Env->a7 (a7 T)
 |none,_=>some none
 |some e,ρ=>(evE G e ρ).map some
end
inductive Sl where
 |no|val (t:T)|own (ts:List T)|dic (ks vs:List T)|dl (ks:List T) (vs:List (List T))|dd (ks:List T) (vs:List (List T×List T))
 deriving Inhabited
def Sl.get:Sl->a7 T
 |.val t=>some t
 |_=>none
noncomputable def Sl.frz:Sl->Sl
 |.own ts=>.val (.lst ts)
 |.dic ks vs=>.val (.dic ks vs)
 |.dl ks vs=>.val (.dic ks (vs.map .lst))
 |.dd ks vs=>.val (.dic ks (vs.map fun p=>.dic p.1 p.2))
 |s=>s
instance:Coe T Sl:=⟨.val⟩
inductive Out where
 |nx (τ:List Sl)|rt (t:T)|rs (x:Str) (n:Int)
 deriving Inhabited
noncomputable def ygg(τ:List Sl):Env:=τ.map Sl.get
noncomputable def frzAt:List Nat->List Sl->List Sl
 |[],τ=>τ
 |i::r,τ=>frzAt r (τ.modify i Sl.frz)
mutual
noncomputable def yab:E->List Nat
 |.var i=>[i]
 |.cst _=>[]
 |.bin _ a b=>yab a++yab b
 |.cmp _ a b=>yab a++yab b
 |.land a b=>yab a++yab b
 |.lor a b=>yab a++yab b
 |.lnot a=>yab a
 |.neg a=>yab a
 |.tru a=>yab a
 |.tup es=>yah es
 |.lst es=>yah es
 |.idx a b=>yab a++yab b
 |.sli a lo hi=>yab a++(ycm lo++ycm hi)
 |.call _ es=>yah es
 |.blt _ a=>yab a
 |.isi a _=>yab a
 |.mth _ a b=>yab a++yab b
 |.dget a b c=>yab a++(yab b++yab c)
 |.ife c a b=>yab c++(yab a++yab b)
 |.told _ es=>yah es
 |.comp elt n _ src cond=>yah src++((yab elt++ycm cond).filterMap fun i=>if n<=i then some (i-n)else none)
noncomputable def yah:List E->List Nat
 |[]=>[]
 |e::es=>yab e++yah es
noncomputable def ycm:a7 E->List Nat
 |none=>[]
 |some e=>yab e
end
noncomputable def fresh:E->Bool
 |.lst _=>true
 |.bin .add _ _=>true
 |_=>false
def yau(e:E)(t:T):Sl:=match fresh e,t with
 |true,.lst ts=>.own ts
 |_,t=>.val t
noncomputable def yat:List Nat->List T->List Sl->a7 (List Sl)
 |[],[],τ=>some τ
 |i::is,x::xs,τ=>yat is xs (τ.set i (.val x))
 |_,_,_=>none
def ybs(is:List Nat)(x:T)(τ:List Sl):a7 (List Sl) :=
 match is,x with
 |[i],x=>some (τ.set i (.val x))
 |is,.tup xs=>yat is xs τ
 |_,_=>none
noncomputable def ybk(f:T->List Sl->a7 Out):List T->List Sl->a7 Out
 |[],τ=>some (.nx τ)
 |x::xs,τ=>(f x τ).bind fun o=>match o with
  |.nx τ'=>ybk f xs τ'
  |o=>some o
def yek(s:a7 Sl)(k v:T):a7 Sl :=
 match s with
 |some (.own ts)=>(match k with
  |.int i=>(ixI ts.length i).map fun j=>.own (ts.set j v)
  |_=>none)
 |some (.dic ks vs)=>if yac ks k=true/\ks.length<SZ then some (.dic (yad ks k) (yap ks vs k v))else none
 |_=>none
def ycv(s:a7 Sl)(k v:T):a7 Sl :=
 let go (ks:List T) (vs:List (List T)):=if yac ks k=true/\ks.length<1000/\((yae ks vs k).getD []).length<1000 then some (Sl.dl (yad ks k) (yap ks vs k ((yae ks vs k).getD []++[v])))else none
 match s with
 |some (.dl ks vs)=>go ks vs
 |some (.dic [] [])=>go [] []
 |_=>none
noncomputable def ddS:a7 Sl->a7 (List T×List (List T×List T))
 |some (.dd ks vs)=>some (ks,vs)
 |some (.dic [] [])=>some ([],[])
 |_=>none
def ybh:List T->List T×List T->a7 (List T×List T)
 |[],p=>some p
 |c::cs,p=>if yac p.1 c=true/\p.1.length<SZ then ybh cs (yad p.1 c,yap p.1 p.2 c .non)else none
def ybg(f:List Sl->a7 Out)(g:List Sl->a7 T):Nat->List Sl->a7 Out
 |0,_=>none
 |n+1,τ=>(g τ).bind fun t=>match t with
  |.bl true=>(f τ).bind fun o=>(match o with
   |.nx τ'=>ybg f g n τ'
   |o=>some o)
  |.bl false=>some (.nx τ)
  |_=>none
def ycs(G:Glo)(f:Str)(xs:List T)(k:T->Out):a7 Out:=match G.call f xs with
 |some t=>some (k t)
 |none=>(G.exc f xs).map fun p=>.rs p.1 p.2
noncomputable def ycw:List T->a7 Int
 |[_]=>some 0
 |[_,.int n]=>some n
 |_=>none
noncomputable def sh(τ:List Sl)(i:Nat)(o:a7 Sl):a7 Out:=o.map fun s=>.nx (τ.set i s)
mutual
noncomputable def evS(G:Glo):S->List Sl->a7 Out
 |.asg i e,τ=>(evE G e (ygg (frzAt (yab e) τ))).bind fun t=>some (.nx ((frzAt (yab e) τ).set i (yau e t)))
 |.asgs is e,τ=>(evE G e (ygg (frzAt (yab e) τ))).bind fun t=>(match t with
  |.tup xs=>(yat is xs (frzAt (yab e) τ)).map .nx
  |_=>none)
 |.app i e,τ=>(evE G e (ygg (frzAt (yab e) τ))).bind fun t=>match(frzAt (yab e) τ)[i]? with
  |some (.own ts)=>if ts.length<SZ then some (.nx ((frzAt (yab e) τ).set i (.own (ts++[t]))))else none
  |_=>none
 |.ext i e,τ=>(evE G e (ygg (frzAt (yab e) τ))).bind fun t=>match(frzAt (yab e) τ)[i]?,t with
  |some (.own ts),.lst us=>if ts.length+us.length<=SZ then some (.nx ((frzAt (yab e) τ).set i (.own (ts++us))))else none
  |_,_=>none
 |.dnew i,τ=>some (.nx (τ.set i (.dic [] [])))
 |.dnew1 i k v,τ=>(evE G k (ygg (frzAt (yab k++yab v) τ))).bind fun x=>(evE G v (ygg (frzAt (yab k++yab v) τ))).bind fun y=>if yac [] x=true then some (.nx ((frzAt (yab k++yab v) τ).set i (.dic [x] [y])))else none
 |.put i k v,τ=>(evE G v (ygg (frzAt (yab v++yab k) τ))).bind fun y=>(evE G k (ygg (frzAt (yab v++yab k) τ))).bind fun x=>sh (frzAt (yab v++yab k) τ) i (yek (frzAt (yab v++yab k) τ)[i]? x y)
 |.dapp i k v,τ=>(evE G k (ygg (frzAt (yab k++yab v) τ))).bind fun x=>(evE G v (ygg (frzAt (yab k++yab v) τ))).bind fun y=>sh (frzAt (yab k++yab v) τ) i (ycv (frzAt (yab k++yab v) τ)[i]? x y)
 |.dfill j i k c src,τ=>(evE G k (ygg (frzAt (yab k++yab src) τ))).bind fun x=>(evE G src (ygg ((frzAt (yab k++yab src) τ).set j .no))).bind fun t=>(items .plain [t]).bind fun qc=>(ddS (frzAt (yab k++yab src) τ)[i]?).bind fun p=>if yac p.1 x=true/\p.1.length<1000/\i≠j/\i≠c/\j≠c then
   (ybh qc ((yae p.1 p.2 x).getD ([],[]))).map fun q=>.nx ((((frzAt (yab k++yab src) τ).set i (.dd (yad p.1 x) (yap p.1 p.2 x q))).set j .no).set c .no)else none
 |.wloop c body,τ=>ybg (fun τ=>yav G body τ) (fun τ=>evE G c (ygg (frzAt (yab c) τ))) 1000 τ
 |.lpop j i,τ=>(match τ[i]? with
  |some (.own ts)=>(match ts[ts.length-1]? with
   |some t=>if i=j then none else some (.nx ((τ.set i (.own ts.dropLast)).set j (.val t)))
   |none=>none)
  |_=>none)
 |.pop i,τ=>(match τ[i]? with
  |some (.own ts)=>if ts=[]then none else some (.nx (τ.set i (.own ts.dropLast)))
  |_=>none)
 |.nw i e,τ=>(evE G e (ygg (frzAt (yab e) τ))).bind fun t=>match t with
  |.lst ts=>some (.nx ((frzAt (yab e) τ).set i (.own ts)))
  |_=>none
 |.exp e,τ=>(evE G e (ygg (frzAt (yab e) τ))).bind fun _=>some (.nx τ)
 |.asgx i f es,τ=>(yal G es (ygg (frzAt (yah es) τ))).bind fun xs=>ycs G f xs fun t=>.nx ((frzAt (yah es) τ).set i (.val t))
 |.retx f es,τ=>(yal G es (ygg (frzAt (yah es) τ))).bind fun xs=>ycs G f xs .rt
 |.expx f es,τ=>(yal G es (ygg (frzAt (yah es) τ))).bind fun xs=>ycs G f xs fun _=>.nx (frzAt (yah es) τ)
 |.fail x es,τ=>(yal G es (ygg (frzAt (yah es) τ))).bind fun xs=>(ycw xs).map (.rs x)
 |.ret e,τ=>(evE G e (ygg (frzAt (yab e) τ))).map .rt
 |.ite c a b,τ=>(evE G c (ygg (frzAt (yab c) τ))).bind fun t=>match t with
  |.bl true=>yav G a τ
  |.bl false=>yav G b τ
  |_=>none
 |.loop is k src body,τ=>(yal G src (ygg (frzAt (yah src) τ))).bind fun xs=>(items k xs).bind fun qc=>ybk (fun x τ=>(ybs is x τ).bind fun τ'=>yav G body τ') qc (frzAt (yah src) τ)
noncomputable def yav(G:Glo):List S->List Sl->a7 Out
 |[],τ=>some (.nx τ)
 |s::ss,τ=>(evS G s τ).bind fun o=>match o with
  |.nx τ'=>yav G ss τ'
  |o=>some o
end
structure Fd where
 np:Nat
 ns:Nat
 body:List S
 deriving Inhabited
noncomputable def yaj(D:Fd)(ts:List T):List Sl:=ts.map .val++List.replicate (D.ns-ts.length) .no
def zbb:a7 Out->a7 T
 |some (.nx _)=>some .non
 |some (.rt t)=>some t
 |_=>none
noncomputable def yce:a7 Out->a7 (Str×Int)
 |some (.rs x n)=>some (x,n)
 |_=>none
structure Pr where
 fn:Str->Option Fd
mutual
noncomputable def run(P:Pr):Nat->Str->List T->a7 T
 |0,_,_=>none
 |n+1,f,ts=>(P.fn f).bind fun D=>if ts.length=D.np then zbb (yav ⟨run P n,ybn P n⟩ D.body (yaj D ts))else none
noncomputable def ybn(P:Pr):Nat->Str->List T->a7 (Str×Int)
 |0,_,_=>none
 |n+1,f,ts=>(P.fn f).bind fun D=>if ts.length=D.np then yce (yav ⟨run P n,ybn P n⟩ D.body (yaj D ts))else none
end
def glo(P:Pr)(n:Nat):Glo:=⟨run P n,ybn P n⟩
end Ev
namespace Ev.Ex
open PySem
structure Mr(B:String)(l:List Value):Prop where
 b:l.contains (.type B)=true
 a:l.contains (.type "AttributeError")=false
 n:l.contains (.type "NameError")=false
theorem Mr.cb(m:Mr B l):(Value.ref C::l).contains (.type B)=true:=by rw[List.contains_cons,m.b];rfl
theorem Mr.ca(m:Mr B l):(Value.ref C::l).contains (.type "AttributeError")=false:=by rw[List.contains_cons,m.a];rfl
theorem Mr.cn(m:Mr B l):(Value.ref C::l).contains (.type "NameError")=false:=by rw[List.contains_cons,m.n];rfl
section
variable {P:Program}{w:World}{A:Around}{E:Value->Shared->Prop}{h:Heap}{g:Array GenState}{d:Drawn}{t:Nat}{os:OsState}{k y:Str}{C N:Addr}{b l lB:List Value}{hd ab:Bool}{s8:List Str}{sub:List Value}{cl:a7 Bool}{dd:a7 Addr}{k0 k1 k2 k3 k5:a7 Value}{B nw ni:String}{us:List Value}
theorem zva(F:ExcBaseFacts B nw ni lB)(m:Mr B l)(hC:h.get? C=some (excClassObj k y C N b l hd s8 sub ab cl dd k0 k1 k2 k3 k5 nw))(q:Q () ⟨h,g,d,t,os⟩):wpAny M A (checkBuiltinCall nw ⟨.ref C::us,[]⟩) Q E ⟨h,g,d,t,os⟩:=by
 have c:=m.cb (C:=C);have st:=F.noStar;simp only[checkBuiltinCall,F.newKind,F.newSplit,F.newRow]
 repeat(first|(refine wpAny_isSubtype_exc hC ?_;rw[c])|refine wpAny_loadPart_at hC ?_|refine wpAny_madeBy_exc hC ?_|refine wpAny_staticBase_exc hC ?_|simp only[bne_self_eq_false,Bool.false_eq_true,if_false]|wp_step)
 exact q
def exH(h:Heap)(C:Addr)(us:List Value):Heap:=(h.push {cls:=.type "tuple",data:=.seq us.toArray}).push {cls:=.ref C,data:=.fields #[.ref h.objs.size,.none,.none,.none,.bool false,.none]}
theorem zsa(F:ExcBaseFacts B nw ni lB)(m:Mr B l)(hC:h.get? C=some (excClassObj k y C N b l hd s8 sub ab cl dd k0 k1 k2 k3 k5 nw))(hl:us.length<=sizeLine)(q:R (.ok (.ret (.ref (h.objs.size+1)))) ⟨exH h C us,g,d,t,os⟩):codeAny (model P w) A (.builtin nw ⟨.ref C::us,[]⟩) R ⟨h,g,d,t,os⟩:=by
 have c1:=m.cb (C:=C);have c2:=m.ca (C:=C);have c3:=m.cn (C:=C);have fe:=F.ends;have hrest:=hl;refine codeAny_builtinAt F.entry ?_;unfold Builtin.«BaseException.__new__»;refine wpAt_bind (show wpAt _ _ _ (stack >>= _) _ _ _ from wpAt_bind (wpAt_stack fun p below=>wpAt_of_wpAny ?_))
 wp_walk
 refine wpAt_of_wpAny ?_;rw[F.owner]
 repeat(first|with_reducible refine wpAny_loadPart_at hC ?_|with_reducible refine wpAny_madeHere_exc F.canon hC ?_|(with_reducible refine wpAny_isSubtype_exc hC ?_;first|rw[c1]|rw[c2]|rw[c3])|wp_step)
 show R _ _;rw[zyb];exact q
def Ini(h:Heap)(C fI:Addr):Prop:=∃K:W.Frag,K.In h/\W.findIn K (.ref C) "__init__"=some (some (.ref fI))/\W.typeIn K (.ref fI)=some (.type "function")
theorem Ini.up(i:Ini h C fI)(up:∀b o,h.get? b=some o->h'.get? b=some o):Ini h' C fI:=let⟨K,k,r⟩:=i;⟨K,k.keeps up,r⟩
theorem Ini.fn(i:Ini h C fI):∃o,h.get? fI=some o/\o.cls=.type "function":=by obtain⟨K,k,_,e⟩:=i;obtain⟨o,h1,h2⟩:=oms e;exact⟨o,k _ _ h1,h2⟩
theorem zox(i:Ini h C fI)(q:Q (some (.ref fI)) ⟨h,g,d,t,os⟩):wpAny M A (typeLookup (.ref C) "__init__") Q E ⟨h,g,d,t,os⟩:=by obtain⟨K,k,e,_⟩:=i;exact(W.looks_findIn k e).here q
theorem zej:∀b o,h.get? b=some o->(exH h C us).get? b=some o:=fun _ _ e=>zxr _ (zxr _ e)
theorem zv6:(exH h C us).get? (h.objs.size+1)=some {cls:=.ref C,data:=.fields #[.ref h.objs.size,.none,.none,.none,.bool false,.none]}:=by unfold exH;heap_get
theorem zq0(F:ExcBaseFacts B nw ni lB)(m:Mr B l)(hC:h.get? C=some (excClassObj k y C N b l hd s8 sub ab cl dd k0 k1 k2 k3 k5 nw))(hl:us.length<=sizeLine)(i:Ini h C fI)(q:wpAny (model P w) A (call (.ref fI) (.ref (h.objs.size+1)::us)) (fun r s'=>r=.none/\Q (.done (.ret (.ref (h.objs.size+1)))) s') E ⟨exH h C us,g,d,t,os⟩):wpAny (model P w) A (Builtin.«type.__call__» ⟨.ref C::us,[]⟩) Q E ⟨h,g,d,t,os⟩:=by
 repeat(first|with_reducible refine wpAny_madeBy_exc hC ?_|with_reducible refine wpAny_loadPart_at hC ?_|wp_step)
 refine codeAny_call_builtin_code (Code.quiet_builtin _ F.quiet) (zva F m hC (zsa F m hC hl ?_));show wpAny _ _ _ _ _ _;have C1:=zej (C:=C) (us:=us) _ _ hC;have i1:=i.up (zej (C:=C) (us:=us));have cc:(Value.ref C::l).contains (.ref C)=true:=by simp
 have ee:=zv6 (h:=h) (C:=C) (us:=us);unfold isInstance
 repeat(first|(with_reducible refine wpAny_isSubtype_exc C1 ?_;rw[cc])|with_reducible refine wpAny_loadPart_at ee ?_|wp_step)
 show wpAny _ _ (typeLookup (.ref C) _) _ _ _;refine zox i1 (uc2 (zxq ?_));obtain⟨o,o1,o2⟩:=i1.fn;unfold bindSpecial;refine zxq (wpAny_typeOf (T:="function") ⟨o,o1,o2⟩ ?_);rw[if_pos (by decide)];refine zxs (zxq (zyt q (fun r s' ⟨hr,hq⟩=>?_) fun _ _ x=>x));subst hr
 wp_walk
 exact hq
theorem zs3(F:ExcBaseFacts B nw ni lB)(m:Mr B l)(hC:h.get? C=some (excClassObj k y C N b l hd s8 sub ab cl dd k0 k1 k2 k3 k5 nw))(hl:us.length<=sizeLine)(i:Ini h C fI)(q:wpAny (model P w) (A.under (.builtin "type.__call__" ⟨.ref C::us,[]⟩)) (call (.ref fI) (.ref (h.objs.size+1)::us)) (fun r s'=>r=.none/\Q (.ref (h.objs.size+1)) s') E ⟨exH h C us,g,d,t,os⟩):wpAny (model P w) A (call (.ref C) us) Q E ⟨h,g,d,t,os⟩:=by
 have f1:=tc_lookup;have f2:=tc_bind (.ref C);have ty:(⟨h,g,d,t,os⟩:Shared).TypeIs (.ref C) "type":=⟨_,hC,rfl⟩;refine wpAny_call (codeAny_of_tree (show wpAny _ _ (callAny (.ref C) _) _ _ _ from ?_))
 repeat(any_goals (first|with_reducible refine wpAny_loadPart_at hC ?_|assumption|wp_step))
 exact⟨rfl,codeAny_call_builtin_at (Code.quiet_builtin _ (by decide +kernel)) entry_typeCall (wpAny_check_type_call_sub hC (zq0 F m hC hl i q))⟩
end
section
variable {P:Program}{w:World}{A:Around}{E:Value->Shared->Prop}{h:Heap}{g:Array GenState}{d:Drawn}{t:Nat}{os:OsState}{k y:Str}{C N:Addr}{b l lB:List Value}{hd ab:Bool}{s8:List Str}{sub:List Value}{cl:a7 Bool}{dd:a7 Addr}{k0 k1 k2 k3 k5:a7 Value}{B nw ni:String}{us:List Value}
theorem zsq(F:ExcBaseFacts B nw ni lB)(m:Mr B l)(hC:h.get? C=some (excClassObj k y C N b l hd s8 sub ab cl dd k0 k1 k2 k3 k5 nw))(he:h.get? e=some o)(ho:o.cls=.ref C)(q:Q () ⟨h,g,d,t,os⟩):wpAny M A (checkBuiltinCall ni ⟨.ref e::us,[]⟩) Q E ⟨h,g,d,t,os⟩:=by
 have c:=m.cb (C:=C);have st:=F.noStar;simp only[checkBuiltinCall,F.initKind,F.initSplit,F.initRow]
 repeat(first|(with_reducible refine wpAny_isSubtype_exc hC ?_;rw[c])|with_reducible refine wpAny_loadPart_at hC ?_|(with_reducible refine wpAny_loadPart_at he ?_;rw[ho])|wp_step)
 refine wpAny_onRaise ?_;rw[show ∀(a b:String)(n:Nat),Bind.check ⟨.positional, "*",B,.self,[⟨"args",.varPos,false⟩]⟩ a b n (List.map (fun x=>x.fst) ({pos:=Value.ref e::us}:Args).kw)=pure ()from fun a b n=>check_star_args _ _ _ _ _ _];exact zxs q
theorem zow(F:ExcBaseFacts B nw ni lB)(m:Mr B l)(hC:h.get? C=some (excClassObj k y C N b l hd s8 sub ab cl dd k0 k1 k2 k3 k5 nw))(hl:us.length<=sizeLine)(he:h.get? e=some {cls:=.ref C,data:=.fields #[.ref z,.none,.none,.none,.bool false,.none]})(q:Q .none ⟨(h.push {cls:=.type "tuple",data:=.seq us.toArray}).update e (Obj.mapFields (·.setIfInBounds 0 (.ref h.objs.size))),g,d,t,os⟩):wpAny (model P w) A (call (.builtin ni) (.ref e::us)) Q E ⟨h,g,d,t,os⟩:=by
 have hrest:=hl;refine wpAny_call (codeAny_call_builtin F.init.plain F.initEntry (zsq F m hC he rfl ?_));have he':=zxr {cls:=.type "tuple",data:=.seq us.toArray} he
 wp_walk
 exact q
end
section
open PySem PySem.W Builtin Builtin.ObjectAttr
def veL:List Value:=[.type "ValueError",.type "Exception",.type "BaseException",.type "object"]
theorem zh3(x:Value):∀rs:List Addr,refuseLoop x "__setattr__" (rs.map Value.ref++veL)=pure ()
 |[]=>PySem.F.store_ValueError.passes x
 |r::rs=>(refuseLoop_ref _ _ _ _).trans (zh3 x rs)
theorem zmr:∀rs:List Addr,(rs.map Value.ref++veL).contains (.type "object")=true
 |[]=>by decide
 |r::rs=>by rw[zxz,List.cons_append,List.contains_cons,zmr rs,Bool.or_true]
section
variable {P:Program}{w:World}{A:Around}{E:Value->Shared->Prop}{s:Shared}{K:Frag}{C e:Addr}{cd:ClassData}{rs:List Addr}{fs:Array Value}{n:Str}{v:Value}
theorem zwq(X:K.In s.heap)(he:s.heap.get? e=some {cls:=.ref C,data:=.fields fs})(hc:clsIn K C=some cd)(hm:cd.mro=rs.map Value.ref++veL)(hd:cd.hasDict=true)(hs:findIn K (.ref C) "__setattr__"=some (some (.builtin "object.__setattr__")))(ha:findIn K (.ref C) n=some none)(q:∀h' tk,h'.get? e=some {cls:=.ref C,dict:=some s.heap.objs.size,data:=.fields fs}->h'.Ns1 s.heap.objs.size (fun x=>if x=n then some v else none)->(∀b o,b≠e->s.heap.get? b=some o->h'.get? b=some o)->Q () {s with heap:=h',toks:=tk}):wpAny (model P w) A (setAttr (.ref e) n v) Q E s:=by
 have I:W.InstAt s.heap e {cls:=.ref C,data:=.fields fs} C none:=⟨he,rfl,rfl,trivial⟩;refine set_plain X I hs ?_;obtain⟨h,g,d,t,os⟩:=s;dsimp only at X he I q ⊢;have SF:=PySem.F.store_object;have ne:cd.mro.isEmpty=false:=by rw[hm];cases rs<;>rfl
 have sub:Looks (model P w) h (isInstance (.ref e) (.type "object")) true:=I.type.andThen (looks_mroIn X (by unfold mroIn;rw[hc,zxv,if_neg (by rw[ne];decide),hm,zmr]));refine codeAny_call_builtin SF.slot.plain SF.entry (@check_slot (model P w) _ _ ⟨h,g,d,t+1,os⟩ "object.__setattr__" "object" "__setattr__" (.ref e) [.str n t,v] [] _ SF.kind SF.split sub (SF.args (.ref e) (.str n t) v) ?_);have mr:Looks (model P w) h (mroOf (.ref C)) cd.mro:=(looks_clsIn X hc).andThen .now;rw[osa_eq,refuse_eq];refine zxq (zxq (I.type.here (zxq (mr.here ?_))));rw[hm,zh3];refine zxs (zxq (I.type.here (zxq ((looks_findIn X ha).here (zxq (zxs ?_))))));show wpAny _ _ (storeInOwnDict _ _ _ _ _ _) _ _ _;refine zxq (zxs (zxq (zxq (wpAny_loadPart he (zxq ((looks_clsIn X hc).here ?_))))));rw[hd];have he1:=zxr {cls:=.type "dict",data:=.dict #[]} he;have hne:e≠h.objs.size:=zye (zx5 he);show wpAny _ _ (alloc {cls:=Value.type "dict",data:=Data.dict #[]} >>= fun d=>update e (fun o=>{cls:=o.cls,dict:=some d,data:=o.data,slots:=o.slots}) >>= fun _=>dictMade (Value.ref C) e d) _ _ _;refine zxq (wpAny_alloc' (zxq (wpAny_update' he1 (zxs (a:=some h.objs.size) ?_))));have gd:((h.push {cls:=.type "dict",data:=.dict #[]}).update e fun o=>{cls:=o.cls,dict:=some h.objs.size,data:=o.data,slots:=o.slots}).get? h.objs.size=some {cls:=.type "dict",data:=.dict #[]}:=(uc7 _ _ _ _ hne.symm).trans (Heap.get?_push_at rfl rfl);show wpAny _ _ (storeInDict h.objs.size (.str n t) n v) _ _ _;unfold storeInDict newKeyGuard;refine wpAny_bind (wpAny_pure (wpAny_bind (wpAny_nsSet1 (Heap.Ns1.of_empty ⟨_,#[],_,gd,rfl,fun _ z=>absurd z (by simp),fun _=>rfl⟩) fun h' hn sb=>?_)));obtain⟨oD,eD,pD,g1,g2,g3⟩:=hn.count (Within.cons n v Within.nil);refine zxq (wpAny_lookBehind g1 (by rw[g2];exact pastItsLine_dict (zyc g3 (by rw[zya,List.length_nil,ub5];lia))) (zxs ?_));exact q h' _ ((sb.2 e hne).trans (Heap.get?_update_self _ he1 rfl)) hn fun b o hb hbo=>(sb.2 b (zye (zx5 hbo))).trans ((uc7 _ _ _ _ hb).trans (zxr _ hbo))
end
end
end Ev.Ex
section
namespace Nb
open PySem PySem.Spec PySem.W PyProof.Rows Ev Ex
def za3(s:Stmt):Arguments:=if let .FunctionDef _ a _ _ _ _ _ _ _ _:=s then a else⟨[],[],none,[],[],none,[]⟩
def zas(s:Stmt):List Stmt:=if let .FunctionDef _ _ b _ _ _ _ _ _ _:=s then b else[]
def zaa(s:Stmt):Scope:=if let .FunctionDef _ _ _ _ _ _ sc _ _ _:=s then sc else{kind:=.function,names:=[],isCoroutine:=false,isGenerator:=false}
noncomputable def ye8{α β:Type}(f:α->a7 β):List α->a7 (List β)
 |[]=>some []
 |x::r=>(f x).bind fun y=>(ye8 f r).bind fun ys=>some (y::ys)
def ydo:a7 Obj->a7 Addr
 |some ⟨_,_,.func fd,_⟩=>(match fd.code with|.ref c=>some c|_=>none)
 |_=>none
def yfc(i:Nat):a7 Obj->a7 Addr
 |some ⟨_,_,.fields vs,_⟩=>(match vs.getD i .none with|.ref c=>some c|_=>none)
 |_=>none
def ycl:a7 (a7 Value)->a7 Addr
 |some (some (.ref f))=>some f
 |_=>none
def ybt(h:Heap)(ns:Addr)(x:Str):a7 (a7 Value):=match h.get? ns with
 |some ⟨_,_,.dict es _,_⟩=>(match es.toList.find? (·.key.isStr x)with
   |some e=>some (some e.val)
   |none=>if es.toList.any (·.refKey)then none else some none)
 |_=>none
structure FnV where
 name:Str
 qual:Str
 params:Arguments
 body:FuncBody
 scope:Scope
 globals:Addr
 closure:List (Str×Addr)
 defaults:Value
 builtins:Addr
def fnV(f:FuncData):FnV:=⟨f.name,f.qualname,f.params,f.body,f.scope,f.globals,f.closure,f.defaults,f.builtins⟩
def ydg(x:Str)(st:Stmt):FnV:=fnV (W.fnOf x x (za3 st) (zas st) (zaa st) .none .none .none .none none .none .none)
def zfj(h:Heap)(cd:Value)(q:Str):Bool:=match cd with
 |.ref c=>(match h.get? c with
   |some ⟨_,_,.fields vs,_⟩=>(match vs.toList with|_::.str n _::_=>n==q|_=>false)
   |_=>false)
 |_=>false
def yc8(h:Heap)(x:Str):a7 (FnV×Bool):=match ybt h mainGlobals x with
 |some (some (.ref a))=>(match h.get? a with
   |some ⟨_,_,.func f,_⟩=>some (fnV f,zfj h f.code x)
   |_=>none)
 |_=>none
def seeT(h:Heap):Nat->Value->a7 T
 |_,.none=>some .non
 |_,.bool b=>some (.bl b)
 |_,.int i _=>some (.int i)
 |_,.str x _=>some (.str x)
 |_,_=>none
def ybp(fs bs:List Str)(h:Heap):List (a7 (FnV×Bool))×List (a7 (a7 Value)):=(fs.map (yc8 h),bs.map (ybt h mainGlobals))
def ybd(fs:List (Str×Stmt))(bs:List Str):List (a7 (FnV×Bool))×List (a7 (a7 Value)):=(fs.map fun p=>some (ydg p.1 p.2,true),bs.map fun _=>some none)
def KH(h:Heap):W.Frag:=(List.range h.objs.size).filterMap fun a=>(h.get? a).map fun o=>(a,o)
def ycj(h:Heap):a7 Addr:=(ycl (ybt h mainGlobals "law")).bind fun f=>ydo (h.get? f)
def yfa(h:Heap):a7 Addr:=(ycj h).bind fun c=>yfc 11 (h.get? c)
def ydx:Value->Bool|.str _ _=>true|_=>false
def yb9:Value->Bool|.int _ _=>true|_=>false
def zmm:Value->Bool|.bool _=>true|_=>false
def ydp(p:Addr):Value->Bool|.ref q=>q==p|_=>false
def yco(c p:Addr):a7 Obj->Bool
 |some ⟨.type ty,_,.fields vs,_⟩=>ty=="code"&&decide (11<vs.size)&&ydp p (vs.getD 11 .none)&&ydx (vs.getD 18 .none)&&yb9 (vs.getD 7 .none)&&zmm (vs.getD 9 .none)&&yb9 (vs.getD 10 .none)&&!(c==p)
 |_=>false
def yf1:a7 Obj->Bool
 |some ⟨.none,none,.fields vs,sl⟩=>vs.size==0&&sl.size==0
 |_=>false
def ydh(p:Addr)(h:Heap):Bool:=match ycl (ybt h mainGlobals "__builtins__")with
 |some b=>!(b==builtinsNs)&&!(b==mainGlobals)&&!(b==p)&&(match h.get? b with
   |some ⟨.type ty,some d,.plain,_⟩=>ty=="module"&&d==builtinsNs
   |_=>false)
 |none=>false
def ydu(K:W.Frag)(x:Str):a7 Addr:=ycl (W.nsIn K mainGlobals x)
def boN:List String:=["ValueError", "Exception", "BaseException", "object"]
def boX:List Str:=["__setattr__", "__getattribute__", "__getattr__", "__class__", "at"]
def boT(n:String)(x:Str):a7 Value:=if n=="BaseException"&&x=="__getattribute__" then some (.builtin "BaseException.__getattribute__")else if n=="object" then(if x=="__setattr__" then some (.builtin "object.__setattr__")else if x=="__class__" then some (.builtin "object.__class__")else if x=="__getattribute__" then some (.builtin "object.__getattribute__")else none)else none
def oI(K:W.Frag)(x:Str):Value->a7 (a7 Value)
 |.type n=>if boN.contains n&&boX.contains x then some (boT n x)else none
 |.ref a=>(W.clsIn K a).bind fun cd=>W.nsIn K cd.ns x
 |_=>none
def aI(K:W.Frag)(x:Str):List Value->a7 (a7 Value)
 |[]=>some none
 |c::r=>(oI K x c).bind fun o=>if o.isSome then some o else aI K x r
def fIn(K:W.Frag)(C:Addr)(x:Str):a7 (a7 Value):=(W.clsIn K C).bind fun cd=>aI K x cd.mro
def yfi(K:W.Frag)(D:Addr):Bool:=fIn K D "__getattribute__"==some (some (.builtin "BaseException.__getattribute__"))&&fIn K D "__getattr__"==some none&&W.mroIn K D (.type "BaseException")==some true&&W.hasDictIn K D &&
 fIn K D "__class__"==some (some (.builtin "object.__class__"))&&W.mroIn K D (.type "object")==some true&&fIn K D "at"==some none
def kC(K:W.Frag)(D C:Addr):a7 Bool:=if((W.clsIn K C).isSome&&(K.lookup C).map (·.cls)==some (.type "type"))=true then W.mroIn K D (.ref C)else none
def kO(K:W.Frag)(D C:Addr):a7 Bool:=if(Value.ref D==Value.ref C)=true then some true else kC K D C
def yf7(K:W.Frag)(cs:List Addr)(DE D:Addr)(j:Nat):Bool:=yfi K D&&(cs.map fun C=>kO K D C)==((List.range 9).map fun i=>some (decide (i=j)))&&W.mroIn K D (.type "ValueError")==some true&&decide (j<9)&&W.mroIn K DE (.type "BaseException")==some true&&kC K D DE==some true
def isR:Value->Bool|.ref _=>true|_=>false
def yc0(C:Addr):List Value->Bool
 |[a,b,x,y,z,u]=>a==.ref C&&isR b&&[x,y,z,u]==veL
 |_=>false
def ye3:List (a7 Value)->Bool
 |[_,_,_,_,k,_]=>k==some (.builtin "ValueError.__new__")
 |_=>false
def yd6(C:Addr):a7 Obj->Bool
 |some ⟨c,_,.cls cd,sl⟩=>c==.type "type"&&!cd.hasDel&&cd.hasDict&&yc0 C cd.mro&&ye3 sl.toList
 |_=>false
def yd1(K:W.Frag)(C fI:Addr):Bool:=yd6 C (K.lookup C)&&fIn K C "__init__"==some (some (.ref fI))&&(K.lookup fI).map (·.cls)==some (.type "function")&&fIn K C "__setattr__"==some (some (.builtin "object.__setattr__"))&&fIn K C "at"==some none
def ye4(K:W.Frag):a7 (List Addr):=ye8 (ydu K) yc2
def iniA(K:W.Frag)(C:Addr):a7 Addr:=ycl (fIn K C "__init__")
def iniI(K:W.Frag):a7 Addr:=(ydu K "DealError").bind (iniA K)
def ckX(er:List Str)(K:W.Frag):Bool:=match ye4 K,ydu K "DealError",iniI K with
 |some cs,some DE,some fI=>((cs.zipIdx 0).all fun p=>yf7 K cs DE p.1 p.2)&&er.all fun x=>(match ydu K x with
  |some C=>yd1 K C fI
  |none=>false)
 |_,_,_=>false
def ydy(h:Heap):a7 Obj->a7 (FnV×Bool×List (a7 T))
 |some ⟨_,_,.func f,_⟩=>(match f.defaults with
  |.ref a=>(match h.get? a with
   |some ⟨_,_,.seq qc _,_⟩=>some ({fnV f with defaults:=.none},zfj h f.code f.qualname,qc.toList.map (seeT h 4))
   |_=>none)
  |_=>none)
 |_=>none
def yfz(h:Heap):a7 (FnV×Bool×List (a7 T)):=(iniI (KH h)).bind fun fI=>ydy h (h.get? fI)
def yeg:Str:="DealError.__init__"
def fnVI(st:Stmt):FnV:=fnV (W.fnOf "__init__" yeg (za3 st) (zas st) (zaa st) .none .none .none .none none .none .none)
def yd0(st:Stmt):a7 (FnV×Bool×List (a7 T)):=some (fnVI st,true,[some (.str ""),some (.int 0)])
def seeX(er fs bs:List Str)(h:Heap)(p:Addr):(List (a7 (FnV×Bool))×List (a7 (a7 Value)))×Bool×Bool×a7 (FnV×Bool×List (a7 T)) :=
 (ybp fs bs (h.hide p),yf1 (h.get? p)&&(yfa (h.hide p)==some p)&&(match ycj (h.hide p)with|some c=>yco c p ((h.hide p).get? c)|none=>false)&&ydh p (h.hide p),ckX er (KH (h.hide p)),yfz (h.hide p))
def bnX:List Str:=["ValueError", "len", "int", "list", "tuple", "min", "max", "any", "sorted", "dict", "range", "enumerate", "zip", "isinstance", "bool", "set"]
def ydz(er fs bs:List Str)(h:Heap):=(yfa h).map (seeX er fs bs h)
end Nb
section
namespace Nb
open PySem PySem.Spec PySem.W PyProof.Rows Ev Ex
abbrev pT:=PySem.Challenge.pw_dealtables_k61_whole_reach_holds
def ygc(p:Program)(i:Nat):Stmt:=p.main.body.getD i (.Pass ⟨0,0,0,0⟩)
def clD(s:Stmt):Stmt:=if let .ClassDef _ _ _ b _ _ _ _ _ _ _:=s then b.getD 0 (.Pass ⟨0,0,0,0⟩)else s
def qPp(p:Program):Program:=PySem.W.view p [1,2,3,4,5,6,7,8,9,10,12,13,15,16,17,18,19,20,21,23,24,25,26,28,29,30,31,32,34,35,36,37,38,39,40,41,42,43,44,45,46,47,48,49,50,51,52,53,54,55,56,57,58,59,60,61,62,63]
def lsT:List Str:=[("DealError":Str),("Clash":Str)]
def erT:List Str:=[("NoRow":Str),("Held":Str)]
def x1P(p:Program)(s:Shared):Bool:=xlAt (qPp p) [] s&&recOk [] s
def stN:List (Str×Nat):=("table_of",12)::("worths_of",13)::("key_of",15)::("rows_of",16)::("row_of",17)::("is_same_key",18)::("key_referred_to",19)::("references_of",20)::("references_by",21)::("going",23)::("gone_with",24)::("along_with",25)::("gaps_by",26)::("may_go",28)::("may_gap",29)::("may_hold",30)::("names_that_refer",31)::("references_between",32)::("_law_cell_at",34)::("_law_mixed",35)::("_law_drawn",36)::("_law_names",37)::("_law_table",38)::("_law_key",39)::("_law_worths",40)::("_law_rows",41)::("_law_test",42)::("_law_bare",43)::("_law_pairs",44)::("_law_rule",45)::("_law_schema",46)::("_law_worth",47)::("_law_row",48)::("_law_level",49)::("_law_broken",50)::("_law_links",51)::("_law_going",52)::("_law_put",53)::("_law_with",54)::("_law_dropped",55)::("_law_raw",56)::("_law_done",57)::("_law_late",58)::("_law_deed",60)::("_law_store",61)::("law",63)::("_law_told",62)::[]
def stQ(l:List (Str×Nat))(p:Program):List (Str×Stmt):=l.map fun x=>(x.1,ygc p x.2)
def hdL(l:List (Str×Nat))(p:Program)(w:World):=(openEnds treeTable p w 7414).map fun s=>(openSeen (qPp p) lsT (importedModules p.main.body) (x1P p) true s,ydz erT ((stQ l p).map (·.1)) bnX s.heap)
def hdR(l:List (Str×Nat))(p:Program)(w:World):=some (openGood (qPp p) lsT,some (ybd (stQ l p) bnX,true,true,yd0 (clD (ygc p 1))))
lay_quick Nb.hdL Nb.hdR
theorem zsu:∀w,PySem.W.Fast.tw10554401427710662958 stN pT w=PySem.W.Fast.tw1489920322860990267 stN pT w:=fun w=>by kernel_rfl
end Nb
section
namespace Nb
open PySem Spec PyProof.Rows Ev
variable {l:List PySem.Env}
variable {w:World}
abbrev Fz:=Addr->a7 Obj
def Fz.In(F:Fz)(h:Heap):Prop:=∀b o,F b=some o->h.get? b=some o
def Fz.le(F G:Fz):Prop:=∀b o,F b=some o->G b=some o
mutual
def yba(w:World):T->Int
 |.int i=>hashInt i
 |.str x=>hashStr w x
 |.tup xs=>reduceHash (Builtin.Tuple.tupleHashOf (yaq w xs))
 |_=>0
def yaq(w:World):List T->List Int
 |[]=>[]
 |x::r=>yba w x::yaq w r
end
structure DicO(w:World)(ks:List T)(o:Obj)(es:Array DictEntry)(ep:Nat):Prop where
 ex:o.ExactDict
 dt:o.data=.dict es ep
 hs:es.toList.map (·.hash)=yaq w ks
 nd:ks.Pairwise fun a b=>eqT a b=false
 sz:es.size<=sizeLine
def Odd(o:Obj):Prop:=(∀qc n,o.data≠.seq qc n)/\(∀es ep,o.data≠.dict es ep)/\∀v,o.data≠.cell v
mutual
def Rep(w:World)(F:Fz):T->Value->Prop
 |.non,u=>u=.none
 |.bl b,u=>u=.bool b
 |.int i,u=>∃t,u=.int i t
 |.str x,u=>∃t,u=.str x t
 |.tup ts,u=>∃a o qc n,u=.ref a/\F a=some o/\o.cls=.type "tuple"/\o.data=.seq qc n/\qc.size<=sizeLine/\Reps w F ts qc.toList
 |.adr a,u=>u=.ref a/\∃o,F a=some o/\Odd o
 |.lst ts,u=>∃a qc n,u=.ref a/\F a=some {cls:=.type "list",data:=.seq qc n}/\qc.size<=sizeLine/\Reps w F ts qc.toList
 |.dic ks vs,u=>∃a o es ep,u=.ref a/\F a=some o/\(a==sysModules)=false/\DicO w ks o es ep/\Reps w F ks (es.toList.map (·.key))/\Reps w F vs (es.toList.map (·.val))
def Reps(w:World)(F:Fz):List T->List Value->Prop
 |[],us=>us=[]
 |t::ts,us=>∃u r,us=u::r/\Rep w F t u/\Reps w F ts r
end
mutual
theorem Rep.mono{F G:Fz}(e:F.le G):∀{t u},Rep w F t u->Rep w G t u
 |.non,_,h=>h
 |.bl _,_,h=>h
 |.int _,_,h=>h
 |.str _,_,h=>h
 |.adr _,_,⟨h,o,f,d⟩=>⟨h,o,e _ _ f,d⟩
 |.tup _,_,⟨a,o,qc,n,h1,h2,h3,h4,h5,h6⟩=>⟨a,o,qc,n,h1,e _ _ h2,h3,h4,h5,Reps.mono e h6⟩
 |.lst _,_,⟨a,qc,n,h1,h2,h5,h6⟩=>⟨a,qc,n,h1,e _ _ h2,h5,Reps.mono e h6⟩
 |.dic _ _,_,⟨a,o,es,ep,h1,h2,h3,h4,h5,h6⟩=>⟨a,o,es,ep,h1,e _ _ h2,h3,h4,Reps.mono e h5,Reps.mono e h6⟩
theorem Reps.mono{F G:Fz}(e:F.le G):∀{ts us},Reps w F ts us->Reps w G ts us
 |[],_,h=>h
 |_::_,_,⟨u,r,h1,h2,h3⟩=>⟨u,r,h1,Rep.mono e h2,Reps.mono e h3⟩
end
theorem Reps.cons{F:Fz}(h:Rep w F t u)(r:Reps w F ts us):Reps w F (t::ts) (u::us):=⟨u,us,rfl,h,r⟩
theorem Reps.length{F:Fz}:∀{ts us},Reps w F ts us->us.length=ts.length
 |[],_,h=>by cases h;rfl
 |_::_,_,⟨_,_,e,_,h⟩=>by subst e;simp[Reps.length h]
theorem Reps.get{F:Fz}:∀{ts us}{i:Nat}{t},Reps w F ts us->ts[i]?=some t->∃u,us[i]?=some u/\Rep w F t u
 |[],_,_,_,_,e=>by simp at e
 |_::_,_,0,_,⟨u,r,z,h2,h3⟩,e=>by subst z;cases e;exact⟨u,rfl,h2⟩
 |_::_,_,i+1,_,⟨u,r,z,h2,h3⟩,e=>by subst z;exact Reps.get (i:=i) h3 e
variable {w:World}{F G G2:Fz}{s s1 s2 s':Shared}{H:Heap}{a:Addr}{o:Obj}{t:Nat}
structure Up(F:Fz)(s:Shared)(G:Fz)(s':Shared):Prop where
 ext:∀b o,s.heap.get? b=some o->s'.heap.get? b=some o
 os:s'.os=s.os
 bare:AllBare s.gens->AllBare s'.gens
 ff:F.le G
 fh:G.In s'.heap
 nw:∀b,G b≠none->F b≠none\/s.heap.get? b=none
theorem Up.old(a:Up F s G s1){c:Addr}(z:s1.heap.get? c=none):s.heap.get? c=none:=by
 cases e:s.heap.get? c with
 |none=>rfl
 |some o=>rw[a.ext c o e]at z;cases z
theorem Up.trans(a:Up F s G s1)(b:Up G s1 G2 s2):Up F s G2 s2 :=
 ⟨fun c o h=>b.ext c o (a.ext c o h),b.os.trans a.os,fun h=>b.bare (a.bare h),fun c o h=>b.ff c o (a.ff c o h),b.fh,fun c h=>(b.nw c h).elim (a.nw c) fun z=>.inr (a.old z)⟩
theorem Up.tok(h:F.In s.heap):Up F s F {s with toks:=t}:=⟨fun _ _ e=>e,rfl,id,fun _ _ e=>e,h,fun _ z=>.inl z⟩
def fup(F:Fz)(a:Addr)(o:Obj):Fz:=fun b=>if b=a then some o else F b
theorem zbs:fup F a o a=some o:=if_pos rfl
theorem Fz.In.none(h:F.In H)(z:H.get? a=.none):F a=.none:=by
 cases e:F a with
 |none=>rfl
 |some o=>rw[h _ _ e]at z;cases z
theorem zac:s.heap.get? s.heap.objs.size=none:=Heap.get?_none_of_le (zx3 _)
theorem zbm(h:F a=none):F.le (fup F a o):=fun b u e=>by unfold fup;rw[if_neg (fun z=>by rw[z,h]at e;cases e)];exact e
theorem Up.push(h:F.In s.heap)(hf:o.isFreed=false):Up F s (fup F s.heap.objs.size o) {s with heap:=s.heap.push o,toks:=t} :=
 ⟨fun _ _ e=>zxr _ e,rfl,id,zbm (h.none zac),fun b u e=>by
  unfold fup at e;split at e
  .rename_i z;cases e;rw[z];exact zxx _ hf
  .exact zxr _ (h b u e),fun b e=>by
  unfold fup at e;split at e
  .rename_i z;exact .inr (by rw[z];exact zac)
  .exact .inl e⟩
structure Mod(K:W.Frag)(mg:Str->Option Value)(base:Heap):Prop where
 kin:K.In base
 glob:base.Ns mainGlobals mg
 blt:∃mb,base.Ns builtinsNs mb/\∀x:Str,x≠"__name__"->mb x=bootBuiltins x
 nolimit:base.NoLimit
structure Pc where
 prog:Program
 w:World
 K:W.Frag
 mg:Str->Option Value
 base:Heap
 calm:Prop
def frs(l:List PySem.Env):List Addr:=l.filterMap (·.frame)
structure St(P:Pc)(A:Around)(l:List PySem.Env)(F:Fz)(s:Shared):Prop where
 mod:Mod P.K P.mg P.base
 hd:P.calm->A.handled=none
 frames:A.frames=some l
 bk:∀b o,P.base.get? b=some o->s.heap.get? b=some o
 fh:F.In s.heap
 bare:AllBare s.gens
 funs:P.calm->s.heap.FunFrames P.base l
 fo:P.calm->∀b∈frs l,F b=none
structure Yc extends Pc where
 A:Around
 env:PySem.Env
 stack:List PySem.Env
 I:Fz->Prop
structure Yc.Ok(Y:Yc):Prop where
 kind:Y.env.scope.kind=.function
 glob:Y.env.globals=mainGlobals
 blt:Y.env.builtins=builtinsNs
 has:∀x,Y.env.kindOf x=some .cell\/Y.env.kindOf x=some .free->∃c,Y.env.cells.lookup x=some c
 im:∀{F G:Fz},F.le G->Y.I F->Y.I G
abbrev Pc.M(P:Pc):Model:=model P.prog P.w
def Res(w:World)(F:Fz)(s:Shared)(t:T)(u:Value)(s':Shared):Prop:=∃G,Up F s G s'/\Rep w G t u
def Look(Y:Yc)(h:Heap)(x:Str)(u:Value):Prop :=
 (Y.env.kindOf x=some .local/\∃m,h.Ns Y.env.locals m/\m x=some u)\/((Y.env.kindOf x=some .cell\/Y.env.kindOf x=some .free)/\∃c,Y.env.cells.lookup x=some c/\h.IsCell c (some u))
structure At(Y:Yc)(N:Str->Nat->Prop)(r:Ev.Env)(F:Fz)(s:Shared):Prop extends St Y.toPc Y.A Y.stack F s where
 ok:Y.Ok
 inv:Y.I F
 get:∀x i t,N x i->r[i]?=some (some t)->∃u,Look Y s.heap x u/\Rep Y.w F t u
theorem zcl{h h' base:Heap}(k:∀b o,h.get? b=some o->h'.get? b=some o):∀{l:List PySem.Env},h.FunFrames base l->h'.FunFrames base l
 |[],_=>trivial
 |_::_,⟨hk,⟨L,o,hf,hn,ho,hd⟩,hr⟩=>⟨hk,⟨L,o,hf,hn,k _ _ ho,hd⟩,zcl k hr⟩
theorem zxn{base:Heap}(f:∀b∈frs l,F b=none)(h:s.heap.FunFrames base l)(u:Up F s G s'):∀b∈frs l,G b=none:=fun b hb=>by
 cases e:G b with
 |none=>rfl
 |some o=>
  rcases u.nw b (by rw[e];simp)with w|w
  .exact absurd (f b hb) w
  .obtain⟨_,o',e1,_⟩:=h.mem hb;rw[w]at e1;cases e1
theorem St.up{P:Pc}{A:Around}(h:St P A l F s)(u:Up F s G s'):St P A l G s':=⟨h.mod,h.hd,h.frames,fun b o e=>u.ext b o (h.bk b o e),u.fh,u.bare h.bare,fun c=>zcl u.ext (h.funs c),fun c=>zxn (h.fo c) (h.funs c) u⟩
theorem Look.up{Y:Yc}{x:Str}{v:Value}(h:Look Y s.heap x v)(u:Up F s G s'):Look Y s'.heap x v:=by
 rcases h with⟨k,m,n,e⟩|⟨k,c,e,z⟩
 .exact .inl ⟨k,m,n.keeps u.ext,e⟩
 .exact .inr ⟨k,c,e,z.keeps u.ext⟩
theorem At.up{Y:Yc}{N:Str->Nat->Prop}{r:Ev.Env}(h:At Y N r F s)(u:Up F s G s'):At Y N r G s':=⟨h.toSt.up u,h.ok,h.ok.im u.ff h.inv,fun x i t n e=>by obtain⟨v,l,q⟩:=h.get x i t n e;exact⟨v,l.up u,q.mono u.ff⟩⟩
end Nb
section
namespace Nb
open PySem Spec PyProof.Rows Ev
variable {Y:Yc}{N:Str->Nat->Prop}{F G:Fz}{s s1:Shared}{r:Ev.Env}{E:Value->Shared->Prop}{a b e:Expr}{f g h:Ev.Env->a7 T}{pos:Pos}
def Oke(Y:Yc)(N:Str->Nat->Prop)(e:Expr)(f:Ev.Env->a7 T):Prop :=
 ∀{s F r t E},At Y N r F s->f r=some t->wpAny Y.M Y.A (eval e Y.env) (Res Y.w F s t) E s
def Oks(Y:Yc)(N:Str->Nat->Prop)(es:List Expr)(f:Ev.Env->a7 (List T)):Prop :=
 ∀{s F r ts E}(pos:Pos),At Y N r F s->f r=some ts->wpAny Y.M Y.A (spliced (backTo pos (starEach es Y.env))) (fun us s'=>∃G,Up F s G s'/\Reps Y.w G ts us) E s
def Op2(Y:Yc)(o:Value->Value->Sem Value)(g:T->T->a7 T):Prop :=
 ∀{s F x y t u v E},St Y.toPc Y.A Y.stack F s->Rep Y.w F x u->Rep Y.w F y v->g x y=some t->wpAny Y.M Y.A (o u v) (Res Y.w F s t) E s
theorem thn{α:Type}{t:Sem α}{Q Q':α->Shared->Prop}{M:Model}{A:Around}(h:wpAny M A t Q E s)(hQ:∀a s,Q a s->Q' a s):wpAny M A t Q' E s:=zyt h hQ fun _ _ x=>x
theorem Res.mk(u:Up F s G s1)(h:∃G2,Up G s1 G2 s2/\Rep Y.w G2 t v):Res Y.w F s t v s2:=let⟨G2,u2,q⟩:=h;⟨G2,u.trans u2,q⟩
theorem zat(h:F.In s.heap)(q:Rep Y.w F t v):Res Y.w F s t v {s with toks:=k}:=⟨F,Up.tok h,q⟩
theorem zax(h:F.In s.heap)(q:Rep Y.w F t v):Res Y.w F s t v s:=zat (k:=s.toks) h q
theorem zll(hN:N x i)(hd:(x==("__debug__":Str))=false)(hc:(x==("__classdict__":Str))=false):Oke Y N (.Name x pos) fun r=>(r[i]?).join:=fun{s F r t E}A h=>by
 obtain⟨u,l,q⟩:=A.get x i t hN (by cases e:r[i]?<;>simp_all);have fin:=zax A.fh q;rcases l with⟨k,m,n,e⟩|⟨k|k,c,e,z⟩
 .exact wpAny_Name (wpAny_loadName_local A.ok.kind k n e fin) hd
 .exact wpAny_Name (wpAny_loadName_cell A.ok.kind k e z fin) hd
 .exact wpAny_Name (wpAny_loadName_free A.ok.kind k e z fin hc) hd
theorem zie:Oke Y N (.Constant (.int i) j pos) fun _=>some (.int i):=fun A h=>by cases h;exact wpAny_Constant_int (zat A.fh ⟨_,rfl⟩)
theorem zgj:Oke Y N (.Constant (.str x) j pos) fun _=>some (.str x):=fun A h=>by cases h;exact Calls.Constant_str (zat A.fh ⟨_,rfl⟩)
theorem zr9{b:Bool}:Oke Y N (.Constant (.bool b) j pos) fun _=>some (.bl b):=fun A h=>by cases h;exact Constant_bool (zax A.fh rfl)
theorem zu3:Oke Y N (.Constant .none j pos) fun _=>some .non:=fun A h=>by cases h;exact Constant_none (zax A.fh rfl)
theorem two{R:T->T->a7 T}{o:Value->Value->Sem Value}(ha:Oke Y N a f)(hb:Oke Y N b g)(A:At Y N r F s)(e:((f r).bind fun x=>(g r).bind fun y=>R x y)=some t)(ho:Op2 Y o R):wpAny Y.M Y.A (eval a Y.env) (fun v s1=>wpAny Y.M Y.A (eval b Y.env) (fun u s2=>wpAny Y.M Y.A (o v u) (Res Y.w F s t) E s2) E s1) E s:=by
 obtain⟨x,e1,e⟩:=obs e;obtain⟨y,e2,e⟩:=obs e;refine thn (ha A e1) fun v s1 ⟨G,u1,q1⟩=>thn (hb (A.up u1) e2) fun u s2 ⟨G2,u2,q2⟩=>thn (ho ((A.up u1).up u2).toSt (q1.mono u2.ff) q2 e) fun w s3 z=>Res.mk (u1.trans u2) z
theorem zp8(ho:Op2 Y (binaryOp op) R)(ha:Oke Y N a f)(hb:Oke Y N b g):Oke Y N (.BinOp a op b pos) fun r=>(f r).bind fun x=>(g r).bind fun y=>R x y:=fun A e=>wpAny_BinOp (two ha hb A e ho)
theorem zu6(ho:Op2 Y (compareOp op) R)(ha:Oke Y N a f)(hb:Oke Y N b g)(hm:behindInMarks op b=false):Oke Y N (.Compare a [op] [b] pos) fun r=>(f r).bind fun x=>(g r).bind fun y=>R x y:=fun A e=>wpAny_Compare1 (two ha hb A e ho) hm
theorem zcq:Oks Y N [] fun _=>some []:=fun _ A h=>by cases h;exact Calls.spliced_nil ⟨_,Up.tok A.fh,rfl⟩
theorem za5{f:Ev.Env->a7 T}{g:Ev.Env->a7 (List T)}(ha:Oke Y N e f)(hr:Oks Y N es g)(hs:starEach (e::es) Y.env=(false,eval e Y.env)::starEach es Y.env):Oks Y N (e::es) fun r=>(f r).bind fun x=>(g r).bind fun xs=>some (x::xs):=fun pos A h=>by
 obtain⟨x,e1,h⟩:=obs h;obtain⟨xs,e2,h⟩:=obs h;cases h;rw[hs];exact Calls.spliced_cons (thn (ha A e1) fun u s1 ⟨G,u1,q1⟩=>thn (hr pos (A.up u1) e2) fun us s2 ⟨G2,u2,q2⟩=>⟨G2,u1.trans u2,.cons (q1.mono u2.ff) q2⟩)
theorem zh2{t:T}{o:Obj}(h:F.In s.heap)(hf:o.isFreed=false)(q:Rep Y.w (fup F s.heap.objs.size o) t (.ref s.heap.objs.size)):Res Y.w F s t (.ref s.heap.objs.size) {s with heap:=s.heap.push o,toks:=k}:=⟨_,Up.push h hf,q⟩
theorem Reps.laid{o:Obj}(h:F.In s.heap)(q:Reps Y.w F ts us):Reps Y.w (fup F s.heap.objs.size o) ts us:=q.mono (zbm (h.none zac))
theorem zds(h:F.In s.heap)(q:Reps Y.w F ts us)(z:us.length<=sizeLine):Res Y.w F s (.tup ts) (.ref s.heap.objs.size) {s with heap:=s.heap.push {cls:=.type "tuple",data:=.seq us.toArray},toks:=k} :=
 zh2 h rfl ⟨_,_,us.toArray,0,rfl,zbs,rfl,rfl,by simpa using z,by simpa using q.laid h⟩
theorem zdt(h:F.In s.heap)(q:Reps Y.w F ts us)(z:us.length<=sizeLine):Res Y.w F s (.lst ts) (.ref s.heap.objs.size) {s with heap:=s.heap.push {cls:=.type "list",data:=.seq us.toArray},toks:=k} :=
 zh2 h rfl ⟨_,us.toArray,0,rfl,zbs,by simpa using z,by simpa using q.laid h⟩
theorem ze1(h:n<=1000):n<=sizeLine:=zyc h (by rw[ub5];decide)
theorem zln{ob:List Value->Obj}{mk:List T->T}{e:Expr}{f:Ev.Env->a7 (List T)}(hl:∀{r ts},f r=some ts->ts.length=n)(rule:∀{Q:Value->Shared->Prop}{E s},wpAny Y.M Y.A (spliced (backTo pos (starEach es Y.env))) (fun vs s1=>vs.length<=sizeLine/\Q (.ref s1.heap.objs.size) {s1 with heap:=s1.heap.push (ob vs)}) E s->wpAny Y.M Y.A (eval e Y.env) Q E s)(laid:∀{F s ts us},F.In s.heap->Reps Y.w F ts us->us.length<=sizeLine->Res Y.w F s (mk ts) (.ref s.heap.objs.size) {s with heap:=s.heap.push (ob us)})(h:Oks Y N es f):Oke Y N e fun r=>if n<=1000 then(f r).map mk else none:=fun A q=>by
 split at q
 .rename_i z;obtain⟨ts,e,rfl⟩:=oms q;refine rule (thn (h pos A e) fun us s1 ⟨G,u,q⟩=>?_);have z:us.length<=sizeLine:=ze1 (by rw[q.length,hl e];exact z);exact⟨z,Res.mk u (laid u.fh q z)⟩
 .cases q
theorem zp4{x1}{f:Ev.Env->a7 (List T)}(hl:∀{r ts},f r=some ts->ts.length=n)(h:Oks Y N es f):Oke Y N (.Tuple es x1 pos) fun r=>if n<=1000 then(f r).map .tup else none :=
 zln hl wpAny_Tuple_spliced zds h
theorem zp6{f:Ev.Env->a7 (List T)}(hl:∀{r ts},f r=some ts->ts.length=n)(h:Oks Y N es f):Oke Y N (.List es pos) fun r=>if n<=1000 then(f r).map .lst else none :=
 zln hl wpAny_List_spliced zdt h
theorem zuu:Op2 Y (binaryOp .Sub) subT:=fun{s F x y t u v E}S hx hy h=>by
 cases x with
 |int i=>cases y with
  |int j=>cases h;obtain⟨_,rfl⟩:=hx;obtain⟨_,rfl⟩:=hy;exact sub_int (zat S.fh ⟨_,rfl⟩)
  |_=>cases h
 |_=>cases h
end Nb
section
namespace Nb
open PySem Spec PyProof.Rows Ev
variable {w:World}{F:Fz}{s:Shared}{t1 t2:T}{u v:Value}{A:Around}
mutual
theorem eqT_refl:∀t:T,dpP t t<20000->eqT t t=true
 |.non,_=>by rw[Ev.eqT]
 |.bl b,_=>by rw[Ev.eqT];simp
 |.int i,_=>by rw[Ev.eqT];simp
 |.str x,_=>by rw[Ev.eqT];simp
 |.tup a,h=>by rw[Ev.eqT];rw[dpP]at h;exact zel a (by lia)
 |.lst a,h=>by rw[Ev.eqT];rw[dpP]at h;exact zel a (by lia)
 |.dic _ _,h=>by rw[dpP]at h;lia
 |.adr _,h=>by rw[dpP]at h;lia
theorem zel:∀ts:List T,ya9 ts ts<20000->eqTs ts ts=true
 |[],_=>by rw[Ev.eqTs]
 |t::ts,h=>by rw[ya9]at h;rw[Ev.eqTs,eqT_refl t (by lia),zel ts (by lia)];rfl
end
theorem zi7:∀{xs ys:List T}{j:Nat}{x y:T},xs[j]?=some x->ys[j]?=some y->dpP x y<=ya9 xs ys
 |[],_,_,_,_,h,_=>by simp at h
 |_::_,[],_,_,_,_,h=>by simp at h
 |a::xs,b::ys,0,x,y,h1,h2=>by simp at h1 h2;subst h1 h2;rw[ya9];exact Nat.le_max_left _ _
 |a::xs,b::ys,j+1,x,y,h1,h2=>by rw[ya9];exact Nat.le_trans (zi7 (j:=j) (by simpa using h1) (by simpa using h2)) (Nat.le_max_right _ _)
theorem zdv:∀xs ys:List T,eqTs xs ys=((List.range (min xs.length ys.length)).all (fun j=>eqT (xs.getD j .non) (ys.getD j .non))&&xs.length==ys.length)
 |[],[]=>by rw[Ev.eqTs];rfl
 |[],b::ys=>by simp[eqTs]
 |a::xs,[]=>by simp[eqTs]
 |a::xs,b::ys=>by
  rw[Ev.eqTs,zdv xs ys,zya,zya,show min (xs.length+1) (ys.length+1)=min xs.length ys.length+1 by lia,List.range_succ_eq_map,List.all_cons,List.all_map];have e:(xs.length+1==ys.length+1)=(xs.length==ys.length):=by
   by_cases h:xs.length=ys.length
   .simp[h]
   .simp[]
  rw[e,Bool.and_assoc];rfl
inductive Kd(w:World)(F:Fz)(s:Shared):T->Value->Prop
 |non:Kd w F s .non .none
 |bl b:Kd w F s (.bl b) (.bool b)
 |int i k:Kd w F s (.int i) (.int i k)
 |str i k:Kd w F s (.str i) (.str i k)
 |tup ts a qc:s.heap.IsTuple a qc->Reps w F ts qc.toList->Kd w F s (.tup ts) (.ref a)
 |lst ts a qc:s.heap.IsList a qc->Reps w F ts qc.toList->Kd w F s (.lst ts) (.ref a)
 |dic ks vs a:Kd w F s (.dic ks vs) (.ref a)
 |adr a:Kd w F s (.adr a) (.ref a)
theorem Rep.kd(h:F.In s.heap):∀{t u},Rep w F t u->Kd w F s t u
 |.non,_,r=>by cases r;exact .non
 |.bl _,_,r=>by cases r;exact .bl _
 |.int _,_,⟨_,e⟩=>by subst e;exact .int _ _
 |.str _,_,⟨_,e⟩=>by subst e;exact .str _ _
 |.tup _,_,⟨a,o,qc,n,e,f,c,d,_,r⟩=>by subst e;exact .tup _ _ qc ⟨o,h _ _ f,c,n,d⟩ r
 |.lst _,_,⟨a,qc,n,e,f,_,r⟩=>by subst e;exact .lst _ _ qc ⟨_,h _ _ f,rfl,n,rfl⟩ r
 |.dic _ _,_,⟨a,o,es,ep,e,_⟩=>by subst e;exact .dic _ _ _
 |.adr _,_,⟨e,_⟩=>by subst e;exact .adr _
theorem tl:(Value.type "tuple")≠.type "list":=by decide +kernel
theorem td:(Value.type "tuple")≠.type "dict":=by decide +kernel
theorem ld:(Value.type "list")≠.type "dict":=by decide +kernel
mutual
theorem Rep.inj:∀{t1 t2:T}{u:Value},Rep w F t1 u->Rep w F t2 u->t1=t2
 |.non,t2,u,r1,r2=>by cases r1;cases t2<;>first|rfl|(cases r2;done)|(obtain⟨_,e⟩:=r2;cases e;done)|(obtain⟨_,_,_,_,e,_⟩:=r2;cases e)|(obtain⟨_,_,_,e,_⟩:=r2;cases e)|(obtain⟨e,_⟩:=r2;cases e)
 |.bl b,t2,u,r1,r2=>by cases r1;cases t2<;>first|(cases r2;first|rfl|done)|(obtain⟨_,e⟩:=r2;cases e;done)|(obtain⟨_,_,_,_,e,_⟩:=r2;cases e)|(obtain⟨_,_,_,e,_⟩:=r2;cases e)|(obtain⟨e,_⟩:=r2;cases e)
 |.int b,t2,u,⟨_,r1⟩,r2=>by subst r1;cases t2<;>first|(cases r2;done)|(obtain⟨_,e⟩:=r2;cases e;first|rfl|done)|(obtain⟨_,_,_,_,e,_⟩:=r2;cases e)|(obtain⟨_,_,_,e,_⟩:=r2;cases e)|(obtain⟨e,_⟩:=r2;cases e)
 |.str b,t2,u,⟨_,r1⟩,r2=>by subst r1;cases t2<;>first|(cases r2;done)|(obtain⟨_,e⟩:=r2;cases e;first|rfl|done)|(obtain⟨_,_,_,_,e,_⟩:=r2;cases e)|(obtain⟨_,_,_,e,_⟩:=r2;cases e)|(obtain⟨e,_⟩:=r2;cases e)
 |.tup ts,t2,u,⟨a,o,qc,n,e,f,c,d,_,r⟩,r2=>by
  subst e;cases t2 with
  |tup us=>obtain⟨a',o',its',n',e,f',c',d',_,r'⟩:=r2;cases e;rw[f]at f';cases f';rw[d]at d';cases d';rw[r.inj r']
  |lst us=>obtain⟨a',its',n',e,f',_⟩:=r2;cases e;rw[f]at f';cases f';exact absurd c.symm tl
  |dic ks vs=>obtain⟨a',o',es,ep,e,f',_,d',_⟩:=r2;cases e;rw[f]at f';cases f';exact absurd (c.symm.trans d'.ex.1) td
  |adr a=>obtain⟨e,o',f',d',_⟩:=r2;cases e;rw[f]at f';cases f';exact absurd d (d' _ _)
  |_=>first|(cases r2;done)|(obtain⟨_,e⟩:=r2;cases e)
 |.lst ts,t2,u,⟨a,qc,n,e,f,_,r⟩,r2=>by
  subst e;cases t2 with
  |lst us=>obtain⟨a',its',n',e,f',_,r'⟩:=r2;cases e;rw[f]at f';cases f';rw[r.inj r']
  |tup us=>obtain⟨a',o',its',n',e,f',c',d',_⟩:=r2;cases e;rw[f]at f';cases f';exact absurd c'.symm tl
  |dic ks vs=>obtain⟨a',o',es,ep,e,f',_,d',_⟩:=r2;cases e;rw[f]at f';cases f';exact absurd d'.ex.1 ld
  |adr a=>obtain⟨e,o',f',d',_⟩:=r2;cases e;rw[f]at f';cases f';exact absurd rfl (d' _ _)
  |_=>first|(cases r2;done)|(obtain⟨_,e⟩:=r2;cases e)
 |.dic ks vs,t2,u,⟨a,o,es,ep,e,f,_,d,r,q⟩,r2=>by
  subst e;cases t2 with
  |dic ks' vs'=>obtain⟨a',o',es',ep',e,f',_,d',r',q'⟩:=r2;cases e;rw[f]at f';cases f';have:=d.dt.symm.trans d'.dt;cases this;rw[r.inj r',q.inj q']
  |tup us=>obtain⟨a',o',its',n',e,f',c',d',_⟩:=r2;cases e;rw[f]at f';cases f';exact absurd (c'.symm.trans d.ex.1) td
  |lst us=>obtain⟨a',its',n',e,f',_⟩:=r2;cases e;rw[f]at f';cases f';exact absurd d.ex.1 ld
  |adr a=>obtain⟨e,o',f',_,d',_⟩:=r2;cases e;rw[f]at f';cases f';exact absurd d.dt (d' _ _)
  |_=>first|(cases r2;done)|(obtain⟨_,e⟩:=r2;cases e)
 |.adr a,t2,u,⟨e,o,f,d1,d2,_⟩,r2=>by
  subst e;cases t2 with
  |tup us=>obtain⟨a',o',its',n',e,f',c',d',_⟩:=r2;cases e;rw[f]at f';cases f';exact absurd d' (d1 _ _)
  |lst us=>obtain⟨a',its',n',e,f',_⟩:=r2;cases e;rw[f]at f';cases f';exact absurd rfl (d1 _ _)
  |dic ks' vs'=>obtain⟨a',o',es',ep',e,f',_,d',_⟩:=r2;cases e;rw[f]at f';cases f';exact absurd d'.dt (d2 _ _)
  |adr b=>obtain⟨e,_⟩:=r2;cases e;rfl
  |_=>first|(cases r2;done)|(obtain⟨_,e⟩:=r2;cases e)
theorem Reps.inj:∀{ts us:List T}{vs:List Value},Reps w F ts vs->Reps w F us vs->ts=us
 |[],us,vs,r1,r2=>by
  cases r1;cases us with
  |nil=>rfl
  |cons _ _=>obtain⟨_,_,e,_⟩:=r2;cases e
 |t::ts,us,vs,⟨u,r,e,h1,h2⟩,r2=>by
  subst e;cases us with
  |nil=>cases r2
  |cons _ _=>obtain⟨_,_,e,h3,h4⟩:=r2;cases e;rw[h1.inj h3,h2.inj h4]
end
def ycf:T->T->Bool
 |.tup _,.tup _=>true
 |.lst _,.lst _=>true
 |.dic _ _,_=>true
 |_,.dic _ _=>true
 |.adr _,_=>true
 |_,.adr _=>true
 |_,_=>false
theorem via{P:Bool->Prop}{b b':Bool}(h:P b)(e:b=b'):P b':=e▸h
open SeqAt.EqAt in
theorem zqo(hu:A.units<cLine)(hb:ycf t1 t2≠true)(r1:Kd w F s t1 v)(r2:Kd w F s t2 u):SeqAt.EqAt A s v u (eqT t1 t2):=by
 cases r1<;>cases r2<;>first
  |exact absurd rfl hb
  |(apply via (P:=SeqAt.EqAt A s _ _);(with_reducible first|exact same .none|exact none_bool _|exact none_int _ _|exact none_str _ _|exact none_tuple ‹_› hu|exact none_list ‹_› hu|exact bool_none _|exact bool_bool _ _|exact bool_int _ _ _|exact bool_str _ _ _|exact bool_tuple _ ‹_› hu|exact bool_list _ ‹_› hu|exact int_none _ _|exact int_bool _ _ _|exact int_int _ _ _ _|exact int_str _ _ _ _|exact int_tuple _ _ ‹_› hu|exact int_list _ _ ‹_› hu|exact str_none _ _|exact str_bool _ _ _|exact str_int _ _ _ _|exact str_str _ _ _ _|exact str_tuple _ _ ‹_› hu|exact str_list _ _ ‹_› hu|exact tuple_none ‹_› hu|exact tuple_bool _ ‹_› hu|exact tuple_int _ _ ‹_› hu|exact tuple_str _ _ ‹_› hu|exact tuple_list ‹_› ‹_› hu|exact list_none ‹_› hu|exact list_bool _ ‹_› hu|exact list_int _ _ ‹_› hu|exact list_str _ _ ‹_› hu|exact list_tuple ‹_› ‹_› hu);rfl)
open SeqAt.RcAt in
theorem zud(hu:A.units<cLine)(hb:ycf t1 t2≠true)(r1:Kd w F s t1 v)(r2:Kd w F s t2 u):SeqAt.RcAt A s v u (eqT t1 t2):=by
 cases r1<;>cases r2<;>first
  |exact absurd rfl hb
  |(apply via (P:=SeqAt.RcAt A s _ _);(with_reducible first|exact none_none|exact none_bool _|exact none_int _ _|exact none_str _ _|exact none_tuple ‹_› hu|exact none_list ‹_› hu|exact bool_none _|exact bool_bool _ _|exact bool_int _ _ _|exact bool_str _ _ _|exact bool_tuple _ ‹_› hu|exact bool_list _ ‹_› hu|exact int_none _ _|exact int_bool _ _ _|exact int_int _ _ _ _|exact int_str _ _ _ _|exact int_tuple _ _ ‹_› hu|exact int_list _ _ ‹_› hu|exact str_none _ _|exact str_bool _ _ _|exact str_int _ _ _ _|exact str_str _ _ _ _|exact str_tuple _ _ ‹_› hu|exact str_list _ _ ‹_› hu|exact tuple_none ‹_› hu|exact tuple_bool _ ‹_› hu|exact tuple_int _ _ ‹_› hu|exact tuple_str _ _ ‹_› hu|exact tuple_list ‹_› ‹_› hu|exact list_none ‹_› hu|exact list_bool _ ‹_› hu|exact list_int _ _ ‹_› hu|exact list_str _ _ ‹_› hu|exact list_tuple ‹_› ‹_› hu);rfl)
open SeqAt.RcNeAt in
theorem zvb(hu:A.units<cLine)(hb:ycf t1 t2≠true)(r1:Kd w F s t1 v)(r2:Kd w F s t2 u):SeqAt.RcNeAt A s v u (!eqT t1 t2):=by
 cases r1<;>cases r2<;>first
  |exact absurd rfl hb
  |(apply via (P:=SeqAt.RcNeAt A s _ _);(with_reducible first|exact none_none|exact none_bool _|exact none_int _ _|exact none_str _ _|exact none_tuple ‹_› hu|exact none_list ‹_› hu|exact bool_none _|exact bool_bool _ _|exact bool_int _ _ _|exact bool_str _ _ _|exact bool_tuple _ ‹_› hu|exact bool_list _ ‹_› hu|exact int_none _ _|exact int_bool _ _ _|exact int_int _ _ _ _|exact int_str _ _ _ _|exact int_tuple _ _ ‹_› hu|exact int_list _ _ ‹_› hu|exact str_none _ _|exact str_bool _ _ _|exact str_int _ _ _ _|exact str_str _ _ _ _|exact str_tuple _ _ ‹_› hu|exact str_list _ _ ‹_› hu|exact tuple_none ‹_› hu|exact tuple_bool _ ‹_› hu|exact tuple_int _ _ ‹_› hu|exact tuple_str _ _ ‹_› hu|exact tuple_list ‹_› ‹_› hu|exact list_none ‹_› hu|exact list_bool _ ‹_› hu|exact list_int _ _ ‹_› hu|exact list_str _ _ ‹_› hu|exact list_tuple ‹_› ‹_› hu);rfl)
end Nb
section
namespace Nb
open PySem Spec PyProof.Rows Ev
variable {V:List Value->Prop}{p:Addr×a7 Obj}
variable {Y:Yc}{N:List Str}{F0 F G:Fz}{s0 s s1 s':Shared}{τ:List Sl}{ad:Nat->List Addr}{x y:Str}{i j:Nat}{a:Addr}{d:List Addr}{t:T}{u:Value}{ts:List T}{w:World}{h h':Heap}{sl:Sl}
def Loc(sc:Scope)(x:Str):Prop:=sc.names.lookup x=some .local\/sc.names.lookup x=some .cell
def OwnL(w:World)(F:Fz)(h:Heap)(a:Addr)(ts:List T):Prop:=∃qc n,h.get? a=some {cls:=.type "list",data:=.seq qc n}/\qc.size<=sizeLine/\Reps w F ts qc.toList
def OwnD(w:World)(F:Fz)(h:Heap)(a:Addr)(ks:List T)(V:List Value->Prop):Prop:=∃o es ep,h.get? a=some o/\(a==sysModules)=false/\DicO w ks o es ep/\Reps w F ks (es.toList.map (·.key))/\V (es.toList.map (·.val))
def Alls{α:Type}(R:Addr->α->Prop):List Addr->List α->Prop
 |[],xs=>xs=[]
 |a::as,xs=>∃x r,xs=x::r/\R a x/\Alls R as r
theorem Alls.to{α:Type}{R S:Addr->α->Prop}:∀{as:List Addr}{xs:List α},Alls R as xs->(∀a∈as,∀x,R a x->S a x)->Alls S as xs
 |[],_,h,_=>h
 |a::as,_,⟨x,r,e,h1,h2⟩,q=>⟨x,r,e,q a (.head _) x h1,h2.to fun b hb=>q b (.tail _ hb)⟩
def OwnOk(w:World)(F:Fz)(h:Heap):List Addr->Sl->Prop
 |a::as,.own ts=>as=[]/\OwnL w F h a ts
 |a::as,.dic ks vs=>as=[]/\OwnD w F h a ks (Reps w F vs)
 |a::as,.dl ks vs=>OwnD w F h a ks (·=as.map .ref)/\Alls (OwnL w F h) as vs/\(a::as).Nodup
 |a::as,.dd ks vs=>OwnD w F h a ks (·=as.map .ref)/\Alls (fun b p=>OwnD w F h b p.1 (Reps w F p.2)) as vs/\(a::as).Nodup
 |_,_=>False
theorem OwnL.to(q:OwnL w F h a ts)(k:∀o,h.get? a=some o->h'.get? a=some o)(le:F.le G):OwnL w G h' a ts:=let⟨qc,n,h1,h2,h3⟩:=q;⟨qc,n,k _ h1,h2,h3.mono le⟩
theorem OwnD.to{ks:List T}{V':List Value->Prop}(q:OwnD w F h a ks V)(k:∀o,h.get? a=some o->h'.get? a=some o)(le:F.le G)(hv:∀l,V l->V' l):OwnD w G h' a ks V':=let⟨o,es,ep,h1,h2,h3,h4,h5⟩:=q;⟨o,es,ep,k _ h1,h2,h3,h4.mono le,hv _ h5⟩
theorem OwnOk.to(q:OwnOk w F h d sl)(k:∀a∈d,∀o,h.get? a=some o->h'.get? a=some o)(le:F.le G):OwnOk w G h' d sl:=by
 cases d with
 |nil=>cases sl<;>exact q
 |cons a as=>
  have k0:=k a (.head _);cases sl with
  |own ts=>exact⟨q.1,q.2.to k0 le⟩
  |dic ks vs=>exact⟨q.1,q.2.to k0 le fun l h=>h.mono le⟩
  |dl ks vs=>exact⟨q.1.to k0 le fun l h=>h,q.2.1.to fun b hb x h=>h.to (k b (.tail _ hb)) le,q.2.2⟩
  |dd ks vs=>exact⟨q.1.to k0 le fun l h=>h,q.2.1.to fun b hb x h=>h.to (k b (.tail _ hb)) le fun l h=>h.mono le,q.2.2⟩
  |_=>exact q.elim
def SlOk(Y:Yc)(F:Fz)(s:Shared)(x:Str)(d:List Addr):Sl->Prop
 |.no=>True
 |.val t=>∃u,Look Y s.heap x u/\Rep Y.w F t u
 |sl=>(∃a,d.head?=some a/\Look Y s.heap x (.ref a))/\OwnOk Y.w F s.heap d sl
theorem SlOk.to(q:SlOk Y F s x d sl)(lk:∀u,Look Y s.heap x u->Look Y s'.heap x u)(k:∀a∈d,∀o,s.heap.get? a=some o->s'.heap.get? a=some o)(le:F.le G):SlOk Y G s' x d sl:=by
 cases sl with
 |no=>trivial
 |val t=>obtain⟨v,l,q⟩:=q;exact⟨v,lk v l,q.mono le⟩
 |_=>obtain⟨⟨a,e,l⟩,q⟩:=q;exact⟨⟨a,e,lk _ l⟩,q.to k le⟩
def ycb:Str:="law.<locals>.<lambda>"
def ycx(F:Fz)(h:Heap)(p:Addr):Prop:=∃vs:Array Value,h.get? p=some (W.tabObj vs)/\TriplesOk vs.toList/\∀pos cv,codeAmong pos vs.toList=some cv->∃cd oc ws t,cv=.ref cd/\F cd=some oc/\oc.data=.fields ws/\ws[1]?=some (.str ycb t)
def PinOk(F:Fz)(h:Heap)(p:Addr×a7 Obj):Prop:=match p.2 with
 |some o=>h.get? p.1=some o
 |none=>ycx F h p.1
theorem PinOk.ex(q:PinOk F h p):∃o,h.get? p.1=some o:=by
 obtain⟨a,o⟩:=p;cases o with
 |some o=>exact⟨o,q⟩
 |none=>obtain⟨vs,e,_⟩:=q;exact⟨_,e⟩
theorem PinOk.to(q:PinOk F h p)(le:F.le G)(k:∀o,h.get? p.1=some o->h'.get? p.1=some o):PinOk G h' p:=by
 obtain⟨a,o⟩:=p;cases o with
 |some o=>exact k _ q
 |none=>obtain⟨vs,e,t,c⟩:=q;exact⟨vs,k _ e,t,fun pos cv z=>let⟨cd,oc,ws,t,e1,e2,e3⟩:=c pos cv z;⟨cd,oc,ws,t,e1,le _ _ e2,e3⟩⟩
structure Fs(Y:Yc)(N:List Str)(F0:Fz)(s0:Shared):Prop where
 ok:Y.Ok
 it:Y.I F0
 st:∀{F s},Up F0 s0 F s->(F Y.env.locals=none/\∃m,s.heap.Ns Y.env.locals m)->St Y.toPc Y.A Y.stack F s
 lab:s0.heap.get? Y.env.locals=none
 cab:∀x∈N,∀c,Y.env.cells.lookup x=some c->s0.heap.get? c=none
 cin:∀x∈N,∀y∈N,∀c,Y.env.cells.lookup x=some c->Y.env.cells.lookup y=some c->x=y
 nd:N.Nodup
structure Mine(Y:Yc)(N:List Str)(s0:Shared)(F:Fz)(a:Addr):Prop where
 z:s0.heap.get? a=none
 f:F a=none
 l:a≠Y.env.locals
 c:∀x∈N,∀c,Y.env.cells.lookup x=some c->c≠a
structure Fr(Y:Yc)(N:List Str)(F0:Fz)(s0:Shared)(pn:List (Addr×Option Obj))(ad:Nat->List Addr)(τ:List Sl)(F:Fz)(s:Shared):Prop extends Fs Y N F0 s0 where
 up:Up F0 s0 F s
 len:τ.length=N.length
 ns:F Y.env.locals=none/\∃m,s.heap.Ns Y.env.locals m
 cell:∀x∈N,∀c,Y.env.cells.lookup x=some c->F c=none/\∃v,s.heap.IsCell c v
 own:∀i,∀a∈ad i,Mine Y N s0 F a/\∃o,s.heap.get? a=some o
 pin:∀p∈pn,Mine Y N s0 F p.1/\(PinOk F s.heap p/\∀q∈pn,q.1=p.1->q.2.isNone=p.2.isNone)/\∀i,p.1∉ad i
 inj:∀i j a,a∈ad i->a∈ad j->i=j
 slot:∀i x sl,N[i]?=some x->τ[i]?=some sl->SlOk Y F s x (ad i) sl
variable {pn:List (Addr×a7 Obj)}
theorem Fr.toSt(h:Fr Y N F0 s0 pn ad τ F s):St Y.toPc Y.A Y.stack F s:=h.st h.up h.ns
theorem Heap.Ns.has{h:Heap}{m:Str->a7 Value}(x:h.Ns a m):∃o,h.get? a=some o:=let⟨o,_,_,e,_⟩:=x;⟨o,e⟩
theorem Up.back(u:Up F s G s')(f:Fz.le F' F):Up F' s F' s':=⟨u.ext,u.os,u.bare,fun _ _ e=>e,fun b o e=>u.fh b o (u.ff b o (f b o e)),fun _ z=>.inl z⟩
structure UpX(fp:List Addr)(F:Fz)(s:Shared)(G:Fz)(s':Shared):Prop where
 ext:∀b o,b∉fp->s.heap.get? b=some o->s'.heap.get? b=some o
 os:s'.os=s.os
 bare:AllBare s.gens->AllBare s'.gens
 ff:F.le G
 fh:G.In s'.heap
 nw:∀b,G b≠none->F b≠none\/s.heap.get? b=none
 fn:∀b∈fp,G b=none
structure Off(Y:Yc)(N:List Str)(s0:Shared)(pn:List (Addr×Option Obj))(ad:Nat->List Addr)(b:Addr):Prop where
 z:s0.heap.get? b=none
 l:b≠Y.env.locals
 c:∀x∈N,∀c,Y.env.cells.lookup x=some c->c≠b
 a:∀i,b∉ad i
 p:∀p∈pn,p.1≠b
theorem Fr.turned{fp:List Addr}(h:Fr Y N F0 s0 pn ad τ F s)(hf:∀b∈fp,Off Y N s0 pn ad b)(u:UpX fp F s G s'):Fr Y N F0 s0 pn ad τ G s':=by
 have nil:∀{b},F b=none->(∃o,s.heap.get? b=some o)->G b=none:=fun{b}e z=>by
  cases q:G b with
  |none=>rfl
  |some o=>
   rcases u.nw b (by rw[q];simp)with w|w
   .exact absurd e w
   .obtain⟨_,z⟩:=z;rw[w]at z;cases z
 have ol:Y.env.locals∉fp:=fun hb=>(hf _ hb).l rfl;have oc:∀{x c},x∈N->Y.env.cells.lookup x=some c->c∉fp:=fun hx e hb=>(hf _ hb).c _ hx _ e rfl;have lk:∀{x v},x∈N->Look Y s.heap x v->Look Y s'.heap x v:=fun hx q=>by
  rcases q with⟨k,m,n,e⟩|⟨k,c,e,o,z,w⟩
  .exact .inl ⟨k,m,n.at fun o q=>u.ext _ o ol q,e⟩
  .exact .inr ⟨k,c,e,o,u.ext _ o (oc hx e) z,w⟩
 obtain⟨n2,m,n3⟩:=h.ns;refine⟨h.toFs,⟨fun b o e=>u.ext b o (fun hb=>by have:=(hf b hb).z;rw[e]at this;cases this) (h.up.ext b o e),u.os.trans h.up.os,fun e=>u.bare (h.up.bare e),fun b o e=>u.ff b o (h.up.ff b o e),u.fh,fun b e=>(u.nw b e).elim (h.up.nw b) fun z=>.inr (h.up.old z)⟩,
  h.len,⟨nil n2 (Heap.Ns.has n3),m,n3.at fun o q=>u.ext _ o ol q⟩,fun x hx c e=>?_,fun i a e=>?_,fun p hp=>?_,h.inj,fun i x sl e1 e2=>(h.slot i x sl e1 e2).to (fun _=>lk (zx4 e1)) (fun a ha o q=>u.ext _ o (fun hb=>(hf _ hb).a i ha) q) u.ff⟩
 .obtain⟨c2,v,o,c3,c4⟩:=h.cell x hx c e;exact⟨nil c2 ⟨_,c3⟩,v,o,u.ext _ _ (oc hx e) c3,c4⟩
 .obtain⟨a1,a2⟩:=h.own i a e;exact⟨{a1 with f:=nil a1.f a2},a2.imp fun o q=>u.ext _ o (fun hb=>(hf _ hb).a i e) q⟩
 .obtain⟨p1,p2,p3⟩:=h.pin p hp;exact⟨{p1 with f:=nil p1.f p2.1.ex},⟨p2.1.to u.ff fun o=>u.ext _ o (fun hb=>(hf _ hb).p p hp rfl),p2.2⟩,p3⟩
theorem Fr.after(h:Fr Y N F0 s0 pn ad τ F s)(u:Up F s G s'):Fr Y N F0 s0 pn ad τ G s' :=
 h.turned (fp:=[]) (fun _ z=>nomatch z) ⟨fun b o _ e=>u.ext b o e,u.os,u.bare,u.ff,u.fh,u.nw,fun _ z=>nomatch z⟩
def grow(F:Fz)(h:Heap)(d:List Addr):Fz:=fun b=>if b∈d then h.get? b else F b
theorem zmu(hd:∀a∈d,F a=none):F.le (grow F h d):=fun b o e=>by unfold grow;rw[if_neg fun z=>by rw[hd b z]at e;cases e];exact e
theorem zsv(ha:a∈d):grow F h d a=h.get? a:=if_pos ha
theorem Fr.keep(h:Fr Y N F0 s0 pn ad τ F s)(hx:N[i]?=some x)(q:SlOk Y (grow F s.heap (ad i)) s x [] sl):F.le (grow F s.heap (ad i))/\Fr Y N F0 s0 pn (fun k=>if k=i then[]else ad k) (τ.set i sl) (grow F s.heap (ad i)) s:=by
 have le:=zmu (h:=s.heap) fun a ha=>(h.own i a ha).1.f;have ne:∀{b:Addr},b∉ad i->F b=none->grow F s.heap (ad i) b=none:=fun hb q=>by unfold grow;rw[if_neg hb];exact q
 refine⟨le,h.toFs,{h.up with ff:=fun b v q=>le b v (h.up.ff b v q),fh:=fun b v q=>?_,nw:=fun b q=>?_},by rw[ub1];exact h.len,⟨ne (fun z=>(h.own i _ z).1.l rfl) h.ns.1,h.ns.2⟩,fun x hx c e=>⟨ne (fun z=>(h.own i _ z).1.c _ hx _ e rfl) (h.cell x hx c e).1,(h.cell x hx c e).2⟩,fun k b e=>?_,fun p hp=>?_,fun k j b e1 e2=>?_,fun k y sl' e1 e2=>?_⟩
 .unfold grow at q;split at q
  .exact q
  .exact h.up.fh b v q
 .by_cases z:b∈ad i
  .exact .inr (h.own i b z).1.z
  .exact h.up.nw b fun w=>q (ne z w)
 .split at e
  .cases e
  .obtain⟨b1,b2⟩:=h.own k b e;exact⟨{b1 with f:=ne (fun z=>absurd (h.inj _ _ _ e z) (by assumption)) b1.f},b2⟩
 .obtain⟨p1,p2,p3⟩:=h.pin p hp;refine⟨{p1 with f:=ne (p3 i) p1.f},⟨p2.1.to le fun _ e=>e,p2.2⟩,fun k=>?_⟩;split
  .simp
  .exact p3 k
 .split at e1<;>split at e2<;>first|cases e1;done|cases e2;done|exact h.inj _ _ _ e1 e2
 .by_cases z:k=i
  .subst z;rw[hx]at e1;cases e1;rw[ua4 (by rw[h.len];exact(ome hx).1)]at e2;cases e2;rw[if_pos rfl];exact q
  .rw[zyw (Ne.symm z)]at e2;rw[if_neg z];exact(h.slot k y sl' e1 e2).to (fun _ q=>q) (fun _ _ _ q=>q) le
theorem OwnL.frz(q:OwnL w F h a ts)(g:G a=h.get? a)(le:F.le G):Rep w G (.lst ts) (.ref a):=let⟨qc,n,h1,h2,h3⟩:=q;⟨a,qc,n,rfl,g.trans h1,h2,h3.mono le⟩
theorem OwnD.frz{ks vs:List T}(q:OwnD w F h a ks V)(g:G a=h.get? a)(le:F.le G)(hv:∀l,V l->Reps w G vs l):Rep w G (.dic ks vs) (.ref a):=let⟨o,es,ep,h1,h2,h3,h4,h5⟩:=q;⟨a,o,es,ep,rfl,g.trans h1,h2,h3,h4.mono le,hv _ h5⟩
theorem Alls.frz{α:Type}{R:Addr->α->Prop}{f:α->T}:∀{as:List Addr}{xs:List α},Alls R as xs->(∀a∈as,∀x,R a x->Rep w G (f x) (.ref a))->Reps w G (xs.map f) (as.map .ref)
 |[],_,h,_=>by cases h;rfl
 |a::as,_,⟨x,r,e,h1,h2⟩,q=>by subst e;exact .cons (q a (.head _) x h1) (h2.frz fun b hb=>q b (.tail _ hb))
theorem Fr.frz(h:Fr Y N F0 s0 pn ad τ F s)(hx:N[i]?=some x):∃G ad',F.le G/\Fr Y N F0 s0 pn ad' (τ.modify i Sl.frz) G s:=by
 have hl:i<τ.length:=by rw[h.len];exact(ome hx).1
 have e:τ[i]?=some τ[i]:=zxu hl;have em:τ.modify i Sl.frz=τ.set i τ[i].frz:=by rw[List.modify_eq_set,e];rfl
 rw[em];have w:=h.slot i x _ hx e;have le:=zmu (h:=s.heap) fun a ha=>(h.own i a ha).1.f;have same:τ[i].frz=τ[i]->∃G ad',F.le G/\Fr Y N F0 s0 pn ad' (τ.set i τ[i].frz) G s:=fun z=>⟨F,ad,fun _ _ q=>q,by rw[z,List.set_getElem_self];exact h⟩;have key:∀t,(∀a as,ad i=a::as->OwnOk Y.w F s.heap (a::as) τ[i]->Rep Y.w (grow F s.heap (ad i)) t (.ref a))->((∃a,(ad i).head?=some a/\Look Y s.heap x (.ref a))/\OwnOk Y.w F s.heap (ad i) τ[i])->∃G ad',F.le G/\Fr Y N F0 s0 pn ad' (τ.set i (.val t)) G s:=fun t q w=>by
  obtain⟨⟨a,ha,lk⟩,w⟩:=w;cases hd:ad i with
  |nil=>rw[hd]at ha;cases ha
  |cons b as=>rw[hd]at ha;cases ha;exact⟨_,_,h.keep (sl:=.val t) hx ⟨_,lk,q _ as hd (by rw[<-hd];exact w)⟩⟩
 have at':∀{a as b},ad i=a::as->b∈a::as->grow F s.heap (ad i) b=s.heap.get? b:=fun e m=>zsv (by rw[e];exact m);cases q:τ[i]with
 |own ts=>rw[q]at w key;exact key (.lst ts) (fun a as e z=>z.2.frz (at' e (.head _)) le) w
 |dic ks vs=>rw[q]at w key;exact key (.dic ks vs) (fun a as e z=>z.2.frz (at' e (.head _)) le fun l r=>r.mono le) w
 |dl ks vs=>rw[q]at w key;exact key (.dic ks (vs.map .lst)) (fun a as e z=>z.1.frz (at' e (.head _)) le fun l r=>by subst r;exact z.2.1.frz fun b hb x y=>y.frz (at' e (.tail _ hb)) le) w
 |dd ks vs=>rw[q]at w key;exact key (.dic ks (vs.map fun p=>.dic p.1 p.2)) (fun a as e z=>z.1.frz (at' e (.head _)) le fun l r=>by subst r;exact z.2.1.frz fun b hb x y=>y.frz (at' e (.tail _ hb)) le fun l r=>r.mono le) w
 |_=>rw[q]at same;exact same rfl
end Nb
section
namespace Nb
open PySem Spec PyProof.Rows Ev
variable {n:Nat}{qc:Array Value}
variable {w:World}{F:Fz}{s:Shared}{t1 t2:T}{u v:Value}{A:Around}{Y:Yc}{E:Value->Shared->Prop}{ts us:List T}
theorem zib{A:Around}{jts:Array Value}(ih:∀(t1 t2:T)(v u:Value),dpP t1 t2<=n->Rep w F t1 v->Rep w F t2 u->SeqAt.EqAt A s v u (Ev.eqT t1 t2))(hd:ya9 ts us<=n)(r1:Reps w F ts qc.toList)(r2:Reps w F us jts.toList):∀j(h1:j<qc.size)(h2:j<jts.size),SeqAt.EqAt A s qc[j] jts[j] (Ev.eqT (ts.getD j .non) (us.getD j .non)):=fun j h1 h2=>by
 have z1:j<ts.length:=by rw[<-r1.length];simpa using h1
 have z2:j<us.length:=by rw[<-r2.length];simpa using h2
 have e1:ts[j]?=some ts[j]:=zxu z1;have e2:us[j]?=some us[j]:=zxu z2;obtain⟨x,hx,rx⟩:=r1.get e1;obtain⟨y,hy,ry⟩:=r2.get e2;have g1:qc[j]=x:=by rw[zx9,ub2 h1]at hx;exact zyr hx
 have g2:jts[j]=y:=by rw[zx9,ub2 h2]at hy;exact zyr hy
 rw[g1,g2,zx6,zx6,e1,e2];exact ih _ _ x y (zyc (zi7 e1 e2) hd) rx ry
theorem zbf(r:Reps w F ts qc.toList):qc.size=ts.length:=by rw[<-r.length,zx1]
theorem zo6(h:ts.length=us.length):eqTs ts us=(List.range ts.length).all fun j=>Ev.eqT (ts.getD j .non) (us.getD j .non):=by rw[zdv,h];simp
theorem zs4(h:ts.length≠us.length):eqTs ts us=false:=by rw[zdv,show(ts.length==us.length)=false by simpa using h,Bool.and_false]
theorem znm(hb:ycf t1 t2=true)(hu:A.units<cLine)(hd:dpP t1 t2<=n)(hn:n<20000)(ih:∀m,n=m+1->∀(t1 t2:T)(v u:Value),dpP t1 t2<=m->Rep w F t1 v->Rep w F t2 u->SeqAt.EqAt A.in1 s v u (Ev.eqT t1 t2))(r1:Kd w F s t1 v)(r2:Kd w F s t2 u):∃a b,v=.ref a/\u=.ref b/\SeqAt.RcAt A s v u (Ev.eqT t1 t2)/\SeqAt.RcNeAt A s v u (!Ev.eqT t1 t2):=by
 cases r1 with
 |tup ts a qc p q=>
  cases r2 with
  |tup us b jts p' q'=>rw[dpP]at hd;obtain⟨m,rfl⟩:∃m,n=m+1:=⟨n-1,by lia⟩;have pa:=zib (ih m rfl) (by lia) q q';have h:=SeqAt.RcAt.tuples p p' hu pa;have g:=SeqAt.RcNeAt.tuples p p' hu pa;rw[zbf q,zbf q',<-zdv]at h g;rw[Ev.eqT];exact⟨a,b,rfl,rfl,h,g⟩
  |dic=>rw[dpP]at hd;lia
  |adr=>rw[dpP]at hd;lia
  |_=>cases hb
 |lst ts a qc p q=>
  cases r2 with
  |lst us b jts p' q'=>
   rw[dpP]at hd;obtain⟨m,rfl⟩:∃m,n=m+1:=⟨n-1,by lia⟩;rw[Ev.eqT];by_cases hl:ts.length=us.length
   .have pa:=zib (ih m rfl) (by lia) q q';have hz:qc.size=jts.size:=by rw[zbf q,zbf q',hl]
    have h:=SeqAt.RcAt.lists p p' hz hu pa;have g:=SeqAt.RcNeAt.lists p p' hz hu pa;rw[zbf q]at h g;rw[zo6 hl];exact⟨a,b,rfl,rfl,h,g⟩
   .have hz:(qc.size != jts.size)=true:=by rw[zbf q,zbf q'];simpa using hl
    rw[zs4 hl];exact⟨a,b,rfl,rfl,SeqAt.RcAt.lists_lengths p p' hz hu,SeqAt.RcNeAt.lists_lengths p p' hz hu⟩
  |dic=>rw[dpP]at hd;lia
  |adr=>rw[dpP]at hd;lia
  |_=>cases hb
 |dic=>rw[dpP]at hd;lia
 |_=>cases r2<;>first|(cases hb;done)|exact absurd hd (show ¬20000<=n by lia)
theorem zm6(hF:F.In s.heap):∀(n:Nat)(A:Around)(t1 t2:T)(v u:Value),A.units+n<cLine->dpP t1 t2<=n->Rep w F t1 v->Rep w F t2 u->SeqAt.EqAt A s v u (Ev.eqT t1 t2):=fun n=>by
 induction n with
 |zero=>intro A t1 t2 v u hA hd r1 r2;refine zqo hA (fun h=>?_) (r1.kd hF) (r2.kd hF);cases t1<;>cases t2<;>first|(cases h;done)|exact absurd hd (show ¬20000<=0 by lia)|(rw[dpP]at hd;lia)
 |succ n ih=>
  intro A t1 t2 v u hA hd r1 r2;by_cases hb:ycf t1 t2=true
  .obtain⟨a,b,rfl,rfl,h,_⟩:=znm (A:=A) hb (by lia) hd (by have:cLine=9900:=rfl;lia) (fun m e=>by cases e;exact fun t1 t2 v u=>ih A.in1 t1 t2 v u (show A.units+1+n<cLine by lia)) (r1.kd hF) (r2.kd hF);by_cases hs:a=b
   .subst hs;cases r1.inj r2;rw[eqT_refl _ (by have:cLine=9900:=rfl;lia)];exact .same _
   .exact .of_refs hs h
  .exact zqo (by lia) hb (r1.kd hF) (r2.kd hF)
theorem zue(hF:F.In s.heap)(hA:A.units+n<cLine)(hd:dpP t1 t2<=n)(r1:Rep w F t1 v)(r2:Rep w F t2 u):SeqAt.RcAt A s v u (Ev.eqT t1 t2)/\SeqAt.RcNeAt A s v u (!Ev.eqT t1 t2):=by
 by_cases hb:ycf t1 t2=true
 .obtain⟨a,b,_,_,h⟩:=znm (A:=A) hb (by lia) hd (by have:cLine=9900:=rfl;lia) (fun m e=>by subst e;exact fun t1 t2 v u=>zm6 hF m A.in1 t1 t2 v u (show A.units+1+m<cLine by lia)) (r1.kd hF) (r2.kd hF);exact h
 .exact⟨zud (by lia) hb (r1.kd hF) (r2.kd hF),zvb (by lia) hb (r1.kd hF) (r2.kd hF)⟩
abbrev Yc.Rm(Y:Yc):Prop:=Y.A.units+100<cLine
theorem zuz(hu:Y.Rm):Op2 Y (compareOp .Eq) eqC:=fun{s F x y t u v E}S hx hy h=>by
 unfold eqC at h;split at h
 .cases h;exact(zue S.fh (n:=30) (by lia) ‹_› hx hy).1 _ _ _ _ (zax S.fh rfl)
 .cases h
theorem zw5(hu:Y.Rm):Op2 Y (compareOp .NotEq) neC:=fun{s F x y t u v E}S hx hy h=>by
 unfold neC at h;split at h
 .cases h;exact(zue S.fh (n:=30) (by lia) ‹_› hx hy).2 _ _ _ _ (zax S.fh rfl)
 .cases h
theorem zfu(hF:F.In s.heap)(hA:A.units+30<cLine)(r1:Rep w F t1 v):∃e:Value->Bool,∀{ts us},dpI t1 ts=true->Reps w F ts us->(∀x∈us,SeqAt.EqAt A s x v (e x))/\us.map e=ts.map fun z=>Ev.eqT z t1:=by
 classical
 refine⟨fun x=>if h:∃t,Rep w F t x then Ev.eqT (Classical.choose h) t1 else false,fun{ts}=>?_⟩
 induction ts with
 |nil=>intro us _ r;cases r;exact⟨fun _ h=>(nomatch h),rfl⟩
 |cons t ts ih=>
  rintro us hd ⟨u,r,rfl,h1,h2⟩;unfold dpI at hd;rw[List.all_cons,zxw,zyn]at hd;have hx:∃t,Rep w F t u:=⟨t,h1⟩;have e:(if h:∃t,Rep w F t u then Ev.eqT (Classical.choose h) t1 else false)=Ev.eqT t t1:=by rw[dif_pos hx,(Classical.choose_spec hx).inj h1]
  obtain⟨i1,i2⟩:=ih hd.2 h2;refine⟨fun x hm=>?_,by rw[zxz,zxz,i2,e]⟩;rcases omc hm with rfl|hm
  .dsimp only;rw[e];exact zm6 hF 30 A _ _ _ _ hA hd.1 h1 r1
  .exact i1 x hm
theorem zwt{e:Value->Bool}(h:qc.toList.map e=ts.map fun z=>Ev.eqT z t1):qc.any e=ts.any fun z=>Ev.eqT z t1:=by have:=zx2 (fun l:List Bool=>l.any id) h;rw[<-Array.any_toList];simpa[List.any_map,Function.comp_def]using this
theorem zqh(hu:Y.Rm)(hF:F.In s.heap)(r1:Rep Y.w F t1 v)(hd:dpI t1 ts=true){a:Addr}(p:s.heap.IsTuple a qc\/s.heap.IsList a qc)(r:Reps Y.w F ts qc.toList){Q:Value->Shared->Prop}:(Q (.bool (ts.any fun z=>Ev.eqT z t1)) s->wpAny Y.M Y.A (compareOp .In v (.ref a)) Q E s)/\(Q (.bool (!ts.any fun z=>Ev.eqT z t1)) s->wpAny Y.M Y.A (compareOp .NotIn v (.ref a)) Q E s):=by
 obtain⟨e,he⟩:=zfu hF (A:=Y.A.in1) (show Y.A.units+1+30<cLine by lia) r1;obtain⟨e1,e2⟩:=he hd r;have e3:=zwt e2;have e4:∀x∈qc,SeqAt.EqAt Y.A.in1 s x v (e x):=fun x hx=>e1 x (by simpa using hx);rw[<-e3];rcases p with p|p
 .exact⟨SeqAt.in_tupleAt e p e4,SeqAt.notIn_tupleAt e p e4⟩
 .exact⟨SeqAt.in_listAt e p e4,SeqAt.notIn_listAt e p e4⟩
theorem zw6:Op2 Y (compareOp .Lt) ltC:=fun{s F x y t u v E}S hx hy h=>by
 cases x with
 |int i=>cases y with
  |int j=>cases h;obtain⟨_,rfl⟩:=hx;obtain⟨_,rfl⟩:=hy;exact lt_int (zax S.fh rfl)
  |_=>cases h
 |str i=>cases y with
  |str j=>cases h;obtain⟨_,rfl⟩:=hx;obtain⟨_,rfl⟩:=hy;exact lt_str (zax S.fh rfl)
  |_=>cases h
 |_=>cases h
theorem zw7:Op2 Y (compareOp .Gt) (yaw .gt):=fun{s F x y t u v E}S hx hy h=>by
 cases x with
 |int i=>cases y with
  |int j=>cases h;obtain⟨_,rfl⟩:=hx;obtain⟨_,rfl⟩:=hy;exact gt_int (zax S.fh rfl)
  |_=>cases h
 |_=>cases y<;>cases h
end Nb
section
namespace Nb
open PySem Spec PyProof.Rows Ev
variable {sl:Sl}{d:List Addr}
variable {Y:Yc}{N:List Str}{F0 F G:Fz}{s0 s s1 s':Shared}{τ:List Sl}{ad:Nat->List Addr}{x y:Str}{i j:Nat}{a:Addr}{t:T}{u:Value}{ts:List T}{pn:List (Addr×a7 Obj)}{E:Value->Shared->Prop}
abbrev Nn(N:List Str):Str->Nat->Prop:=fun x i=>N[i]?=some x
theorem Fr.at(h:Fr Y N F0 s0 pn ad τ F s):At Y (Nn N) (ygg τ) F s:=⟨h.toSt,h.ok,h.ok.im h.up.ff h.it,fun x i t n e=>by
 unfold ygg at e;rw[zx0]at e;cases q:τ[i]? with
 |none=>rw[q]at e;cases e
 |some sl=>
  rw[q]at e;have w:=h.slot i x sl n q;cases sl with
  |val t'=>cases e;exact w
  |_=>cases e⟩
theorem Fr.frzAt:∀(is:List Nat){τ:List Sl}{ad:Nat->List Addr}{F:Fz},Fr Y N F0 s0 pn ad τ F s->∃G ad',F.le G/\Fr Y N F0 s0 pn ad' (Ev.frzAt is τ) G s
 |[],_,ad,F,h=>⟨F,ad,fun _ _ q=>q,h⟩
 |i::is,τ,ad,F,h=>by
  by_cases hi:i<N.length
  .obtain⟨G,ad',le,h'⟩:=h.frz (i:=i) (zxu hi);obtain⟨G2,ad2,le2,h2⟩:=Fr.frzAt is h';exact⟨G2,ad2,fun b o q=>le2 b o (le b o q),h2⟩
  .have:τ.modify i Sl.frz=τ:=List.modify_eq_self (by rw[h.len];exact Nat.not_lt.mp hi);unfold Ev.frzAt;rw[this];exact Fr.frzAt is h
theorem Fr.touch{b:Addr}{h':Heap}(h:Fr Y N F0 s0 pn ad τ F s)(hb:F b=none)(b0:s0.heap.get? b=none)(hs:Heap.SameBut b s.heap h'):Up F0 s0 F {s with heap:=h'} :=
 ⟨fun c o e=>(hs.2 c (fun z=>by rw[z,b0]at e;cases e)).trans (h.up.ext c o e),h.up.os,h.up.bare,h.up.ff,fun c o e=>(hs.2 c (fun z=>by rw[z,hb]at e;cases e)).trans (h.up.fh c o e),h.up.nw⟩
theorem Look.but{b:Addr}{h':Heap}(hs:Heap.SameBut b s.heap h')(q:Look Y s.heap y u)(n1:Y.env.kindOf y=some .local->b≠Y.env.locals)(n2:∀c,Y.env.cells.lookup y=some c->b≠c):Look Y h' y u:=by
 rcases q with⟨k,m,n,e⟩|⟨k,c,e,o,z,w⟩
 .exact .inl ⟨k,m,n.sameBut hs (Ne.symm (n1 k)),e⟩
 .exact .inr ⟨k,c,e,o,(hs.2 c (Ne.symm (n2 c e))).trans z,w⟩
theorem Fr.cne(h:Fr Y N F0 s0 pn ad τ F s){c:Addr}(hx:x∈N)(e:Y.env.cells.lookup x=some c):c≠Y.env.locals:=fun z=>by obtain⟨v,o,ho,hd⟩:=(h.cell x hx c e).2;obtain⟨m,o',es,ep,ho',hd',_⟩:=h.ns.2;rw[z,ho']at ho;cases ho;rw[hd']at hd;cases hd
theorem Fr.nnd(h:Fr Y N F0 s0 pn ad τ F s){k:Nat}(e1:N[k]?=some x)(e2:N[i]?=some x):k=i:=(List.getElem?_inj (ome e1).1 h.nd).mp (e1.trans e2.symm)
theorem Fr.put{s':Shared}(h:Fr Y N F0 s0 pn ad τ F s)(hx:N[i]?=some x)(u1:Up F0 s0 F s')(nsx:∃m,s'.heap.Ns Y.env.locals m)(cl:∀y∈N,∀c,Y.env.cells.lookup y=some c->∃v,s'.heap.IsCell c v)(hd:∀a∈d,(Mine Y N s0 F a/\∃o,s'.heap.get? a=some o)/\(∀k,k≠i->a∉ad k)/\∀p∈pn,p.1≠a)(lk:∀y∈N,∀v,y≠x->Look Y s.heap y v->Look Y s'.heap y v)(kp:∀k,k≠i->∀a∈ad k,∀o,s.heap.get? a=some o->s'.heap.get? a=some o)(kq:∀p∈pn,∀o,s.heap.get? p.1=some o->s'.heap.get? p.1=some o)(q:SlOk Y F s' x d sl):Fr Y N F0 s0 pn (fun k=>if k=i then d else ad k) (τ.set i sl) F s':=by
 refine⟨h.toFs,u1,by rw[ub1];exact h.len,⟨h.ns.1,nsx⟩,fun y hy c e=>⟨(h.cell y hy c e).1,cl y hy c e⟩,fun k a e=>?_,fun p hp=>?_,fun k j a e1 e2=>?_,fun k y sl' e1 e2=>?_⟩
 .split at e
  .exact(hd a e).1
  .rename_i z;obtain⟨w1,o,w2⟩:=h.own k a e;exact⟨w1,o,kp k z a e o w2⟩
 .obtain⟨p1,p2,p3⟩:=h.pin p hp;refine⟨p1,⟨p2.1.to (fun _ _ e=>e) (kq p hp),p2.2⟩,fun k=>?_⟩;split
  .exact fun z=>(hd _ z).2.2 p hp rfl
  .exact p3 k
 .split at e1<;>split at e2
  .simp_all
  .exact absurd e2 ((hd a e1).2.1 j (by assumption))
  .exact absurd e1 ((hd a e2).2.1 k (by assumption))
  .exact h.inj k j a e1 e2
 .by_cases z:k=i
  .subst z;rw[hx]at e1;cases e1;rw[ua4 (by rw[h.len];exact(ome hx).1)]at e2;cases e2;rw[if_pos rfl];exact q
  .rw[zyw (Ne.symm z)]at e2;rw[if_neg z];exact(h.slot k y sl' e1 e2).to (fun v=>lk y (zx4 e1) v fun w=>z (by subst w;exact h.nnd e1 hx)) (kp k z) fun _ _ e=>e
theorem Fr.store(h:Fr Y N F0 s0 pn ad τ F s)(hx:N[i]?=some x)(hl:Loc Y.env.scope x)(hd:∀a∈d,(Mine Y N s0 F a/\∃o,s.heap.get? a=some o)/\(∀k,k≠i->a∉ad k)/\∀p∈pn,p.1≠a)(q:∀{s':Shared},(∀a∈d,s'.heap.get? a=s.heap.get? a)->Look Y s'.heap x u->SlOk Y F s' x d sl){Q:Unit->Shared->Prop}(hQ:∀s',Look Y s'.heap x u->(∀y∈N,∀v,y≠x->Look Y s.heap y v->Look Y s'.heap y v)->Fr Y N F0 s0 pn (fun k=>if k=i then d else ad k) (τ.set i sl) F s'->Q () s'):wpAny Y.M Y.A (storeName Y.env x u) Q E s:=by
 have xN:=zx4 hx;have main:∀(b:Addr)(h':Heap)(tk:Nat),Heap.SameBut b s.heap h'->(b=Y.env.locals\/Y.env.cells.lookup x=some b)->Look Y h' x u->(∃m,h'.Ns Y.env.locals m)->
   (∀y∈N,∀v,y≠x->Look Y s.heap y v->Look Y h' y v)->(∀y∈N,∀c,Y.env.cells.lookup y=some c->∃v,h'.IsCell c v)->Q () {s with heap:=h',toks:=tk}:=fun b h' tk hs hb lk nsx oth cl=>by
  have bF:F b=none:=hb.elim (fun z=>z▸h.ns.1) fun z=>(h.cell x xN b z).1;have b0:s0.heap.get? b=none:=hb.elim (fun z=>z▸h.lab) (h.cab x xN b);have u1:=h.touch bF b0 hs;have nb:∀{a},Mine Y N s0 F a->h'.get? a=s.heap.get? a:=fun m=>hs.2 _ fun z=>hb.elim (fun w=>m.l (z.trans w)) fun w=>m.c x xN b w z.symm;exact hQ _ lk oth (h.put (s':={s with heap:=h',toks:=tk}) hx ⟨u1.ext,u1.os,u1.bare,u1.ff,u1.fh,u1.nw⟩ nsx cl (fun a ha=>⟨⟨(hd a ha).1.1,(hd a ha).1.2.imp fun o e=>(nb (hd a ha).1.1).trans e⟩,(hd a ha).2⟩) oth (fun k _ a ha o e=>(nb (h.own k a ha).1).trans e) (fun p hp o e=>(nb (h.pin p hp).1).trans e) (q (fun a ha=>nb (hd a ha).1.1) lk))
 rcases hl with k|k
 .obtain⟨m,hn⟩:=h.ns.2;refine wpAny_storeName_local k hn (fun h' hn' hs=>main _ h' _ hs (.inl rfl) (.inl ⟨k,_,hn',by simp⟩) ⟨_,hn'⟩ (fun y yN v yx lk=>?_) fun y yN c e=>?_) (by rw[h.ok.kind];rfl)
  .rcases lk with⟨k',m',n',e'⟩|⟨k',c,e',z⟩
   .exact .inl ⟨k',_,hn',by simp only[if_neg yx];rw[<-e'];exact hn.agree n' y⟩
   .exact .inr ⟨k',c,e',z.sameBut hs (h.cne yN e')⟩
  .obtain⟨v,z⟩:=(h.cell y yN c e).2;exact⟨v,z.sameBut hs (h.cne yN e)⟩
 .obtain⟨c,hc⟩:=h.ok.has x (.inl k);obtain⟨v0,z0⟩:=(h.cell x xN c hc).2;refine wpAny_storeName_cell h.ok.kind k hc z0 (fun h' hc' hs=>main c h' s.toks hs (.inr hc) (.inr ⟨.inl k,c,hc,hc'⟩) ?_ (fun y yN v yx lk=>lk.but hs (fun _=>h.cne xN hc) fun c' e w=>?_) fun y yN c' e=>?_)
  .obtain⟨m,hn⟩:=h.ns.2;exact⟨m,hn.sameBut hs (Ne.symm (h.cne xN hc))⟩
  .subst w;exact yx (h.cin _ yN _ xN _ e hc)
  .by_cases w:c'=c
   .subst w;exact⟨_,hc'⟩
   .obtain⟨v,z⟩:=(h.cell y yN c' e).2;exact⟨v,z.sameBut hs w⟩
theorem Fr.own'{sl':Sl}{s':Shared}(h:Fr Y N F0 s0 pn ad τ F s)(hx:N[i]?=some x)(ht:τ[i]?=some sl)(hsub:∀a∈ad i,a∈d)(hnew:∀a∈d,a∈ad i\/Off Y N s0 pn ad a/\F a=none)(hex:∀a∈d,∃o,s'.heap.get? a=some o)(kp:∀b o,b∉d->s.heap.get? b=some o->s'.heap.get? b=some o)(os:s'.os=s.os)(br:AllBare s.gens->AllBare s'.gens)(q:(∀u,Look Y s.heap x u->Look Y s'.heap x u)->SlOk Y F s' x d sl'):Fr Y N F0 s0 pn (fun k=>if k=i then d else ad k) (τ.set i sl') F s':=by
 have md:∀{a},a∈d->Mine Y N s0 F a:=fun ha=>(hnew _ ha).elim (fun z=>(h.own i _ z).1) fun z=>⟨z.1.z,z.2,z.1.l,z.1.c⟩;have ol:Y.env.locals∉d:=fun z=>(md z).l rfl;have oc:∀{y c},y∈N->Y.env.cells.lookup y=some c->c∉d:=fun hy e z=>(md z).c _ hy _ e rfl;have lk:∀{y v},y∈N->Look Y s.heap y v->Look Y s'.heap y v:=fun hy q=>by
  rcases q with⟨k,m,n,e⟩|⟨k,c,e,o,z,w⟩
  .exact .inl ⟨k,m,n.at fun o q=>kp _ o ol q,e⟩
  .exact .inr ⟨k,c,e,o,kp _ o (oc hy e) z,w⟩
 obtain⟨m,n3⟩:=h.ns.2;refine h.put hx ⟨fun b o e=>kp b o (fun z=>by rw[(md z).z]at e;cases e) (h.up.ext b o e),os.trans h.up.os,fun e=>br (h.up.bare e),h.up.ff,fun b o e=>kp b o (fun z=>by rw[(md z).f]at e;cases e) (h.up.fh b o e),h.up.nw⟩ ⟨m,n3.at fun o q=>kp _ o ol q⟩ (fun y hy c e=>?_)
  (fun a ha=>⟨⟨md ha,hex a ha⟩,fun k hk z=>(hnew a ha).elim (fun w=>hk (h.inj _ _ _ z w)) fun w=>w.1.a k z,fun p hp z=>(hnew a ha).elim (fun w=>(h.pin p hp).2.2 i (z▸w)) fun w=>w.1.p p hp z⟩)
  (fun _ hy _ _=>lk hy) (fun k hk a ha o e=>kp a o (fun z=>(hnew a z).elim (fun w=>hk (h.inj _ _ _ ha w)) fun w=>w.1.a k ha) e) (fun p hp o e=>kp _ _ (fun z=>(hnew _ z).elim (fun w=>(h.pin p hp).2.2 i w) fun w=>w.1.p p hp rfl) e) (q fun _=>lk (zx4 hx))
 obtain⟨_,v,o,c3,c4⟩:=h.cell y hy c e;exact⟨v,o,kp _ _ (oc hy e) c3,c4⟩
end Nb
section
namespace Nb
open PySem Spec PyProof.Rows Ev
structure Flown(nt:Bool)(h:Heap)(a C dx L:Addr)(o:Obj):Prop where
 ob:h.get? a=some o
 cl:o.cls=.ref C
 di:o.dict=some dx
 tr:∃vs,o.data=.fields vs/\1<vs.size/\((nt=false/\vs[1]?=some .none)\/∃T oT ts,vs[1]?=some (.ref T)/\T≠a/\T≠dx/\h.get? T=some oT/\oT.data=.fields ts/\(ts[3]?=some .none\/ts[3]?=some (rawInt L)))
structure UpE(fs:List Addr)(s s':Shared):Prop where
 ext:∀b o,b∉fs->s.heap.get? b=some o->s'.heap.get? b=some o
 slt:∀b o,s.heap.get? b=some o->∃sl,s'.heap.get? b=some {o with slots:=sl}
 os:s'.os=s.os
 bare:AllBare s.gens->AllBare s'.gens
def Err(b:Bool)(P:Pc)(L:Addr)(fs:List Addr)(s0:Shared)(x:Str)(n:Int)(e:Value)(s':Shared):Prop :=
 ∃a C dx o k,e=.ref a/\P.mg x=some (.ref C)/\UpE fs s0 s'/\Flown b s'.heap a C dx L o/\s0.heap.get? a=none/\s0.heap.get? dx=none/\(∀T,(∃vs,o.data=.fields vs/\vs[1]?=some (.ref T))->s0.heap.get? T=none)/\dx≠a/\dx∉fs/\s'.heap.Ns1 dx fun f=>if f="at" then some (.int n k)else none
variable {F G:Fz}{s s0 s1 s':Shared}{fs gs:List Addr}{P:Pc}{x:Str}{n:Int}{e:Value}{L:Addr}{b:Bool}
theorem Up.toE(u:Up F s G s'):UpE fs s s':=⟨fun b o _ h=>u.ext b o h,fun b o h=>⟨o.slots,u.ext b o h⟩,u.os,u.bare⟩
theorem UpE.trans(a:UpE fs s0 s)(b:UpE fs s s'):UpE fs s0 s':=⟨fun c o n h=>b.ext c o n (a.ext c o n h),fun c o h=>by obtain⟨sl,h⟩:=a.slt c o h;obtain⟨sl',h⟩:=b.slt c _ h;exact⟨sl',h⟩,b.os.trans a.os,fun h=>b.bare (a.bare h)⟩
theorem UpE.mono(a:UpE fs s s')(h:∀b∈fs,b∈gs):UpE gs s s':=⟨fun b o n=>a.ext b o fun z=>n (h b z),a.slt,a.os,a.bare⟩
theorem UpE.old(u:UpE fs s0 s){b:Addr}(z:s.heap.get? b=none):s0.heap.get? b=none:=by
 cases q:s0.heap.get? b with
 |none=>rfl
 |some o=>obtain⟨_,w⟩:=u.slt b o q;rw[z]at w;cases w
theorem Err.from(u:UpE fs s0 s)(h:Err b P L fs s x n e s'):Err b P L fs s0 x n e s':=by obtain⟨a,C,dx,o,k,e1,e2,u2,fl,na,nd,nt,h⟩:=h;exact⟨a,C,dx,o,k,e1,e2,u.trans u2,fl,u.old na,u.old nd,fun T z=>u.old (nt T z),h⟩
theorem zfx{base:Heap}{l:List PySem.Env}(u:UpE fs s s')(h:s.heap.FunFrames base l):s'.heap.FunFrames base l:=h.of_keeps fun b o q _=>let⟨sl,w⟩:=u.slt b o q;⟨_,w,rfl⟩
section
variable {M:Model}{A:Around}{E:Value->Shared->Prop}{base:Heap}{env:PySem.Env}{outer:List PySem.Env}{a C dx:Addr}{o:Obj}{vs:Array Value}{Q:Unit->Shared->Prop}{head:Value}{hn:Bool}
theorem ent(hfr:A.frames=some (env::outer))(hl:s.heap.FunFrames base (env::outer))(hf:env.frame=some L)(e0:s.heap.get? a=some o)(hv:o.data=.fields vs)(hz:1<vs.size)(h:∀h' T,s.heap.get? T=none->h'.get? a=some (o.mapFields (·.setIfInBounds 1 (.ref T)))->T≠a->(∃oT ts,h'.get? T=some oT/\oT.data=.fields ts/\ts[3]?=some (rawInt L)) ->(∀b u,b≠a->b∉frs (env::outer)->s.heap.get? b=some u->h'.get? b=some u)->(∀b u,b≠a->s.heap.get? b=some u->∃sl,h'.get? b=some {u with slots:=sl})->Q () {s with heap:=h'}):wpAny M A (do let f <-frameOf env;let pl <-entryPlaceOf L hn;let b <-EntryCells.newEntry head f .none (rawInt L) .none pl;setField (.ref a) 1 b) Q E s:=by
 have na:a∉(env::outer).filterMap (·.frame):=fun z=>by obtain⟨_,u,e1,e2⟩:=hl.mem z;rw[e0]at e1;cases e1;exact e2 vs hv
 refine zxq (wpAny_frameOf_fun hfr hl hf fun h1 ⟨z1,z2,z3⟩=>zxq (wpAny_entryPlaceOf fun pl hpl=>?_));unfold EntryCells.newEntry newFields;refine zxq (zyj ?_ (hpl.sizeOk5 _ _ _ _ _));have e1:h1.get? a=some o:=(z2 a na).trans e0;generalize hT:({cls:=.type "traceback",dict:=none,data:=.fields ([head,.ref L,.none,rawInt L,.none]++(if pl.isEmpty then List.replicate 6 Value.none else pl)).toArray}:Obj)=oT;have dT:oT.data=.fields ([head,.ref L,.none,rawInt L,.none]++(if pl.isEmpty then List.replicate 6 Value.none else pl)).toArray:=by rw[<-hT]
 have fT:oT.isFreed=false:=by rw[<-hT];rfl
 have e2:=zxr oT e1;refine wpAny_setField e2 hv hz ?_;have ne:h1.objs.size≠a:=Nat.ne_of_gt (zx5 e1);have d3:=ud4 hv (·.setIfInBounds 1 (Value.ref h1.objs.size));have e3:=Heap.get?_update_self (Obj.mapFields (·.setIfInBounds 1 (Value.ref h1.objs.size))) e2 (Obj.isFreed_of_fields d3);have t3:((h1.push oT).update a (Obj.mapFields (·.setIfInBounds 1 (Value.ref h1.objs.size)))).get? h1.objs.size=some oT:=(Heap.get?_update_other _ _ (Ne.symm ne)).trans (zxx h1 fT);have k:∀b u,b≠a->h1.get? b=some u->((h1.push oT).update a (Obj.mapFields (·.setIfInBounds 1 (Value.ref h1.objs.size)))).get? b=some u:=fun b u nb q=>by rw[Heap.get?_update_other _ _ (Ne.symm nb)];exact zxr _ q
 have nw:s.heap.get? h1.objs.size=none:=by
  cases q:s.heap.get? h1.objs.size with
  |none=>rfl
  |some u=>obtain⟨_,w⟩:=z3 _ u q;exact absurd (zx5 w) (zy5 _)
 exact h _ h1.objs.size nw e3 ne ⟨_,_,t3,dT,by simp⟩ (fun b u nb nf q=>k b u nb ((z2 b nf).trans q)) fun b u nb q=>by obtain⟨sl,e⟩:=z3 b u q;exact⟨sl,k b _ nb e⟩
theorem zfp(hfr:A.frames=some (env::outer))(hl:s.heap.FunFrames base (env::outer))(hf:env.frame=some L)(h:Err b P L (frs (env::outer)) s0 x n e s):wpAny M A (noteFrame e env) (fun _ s2=>Err true P L (frs (env::outer)) s0 x n e s2/\s2.heap.FunFrames base (env::outer)) E s:=by
 obtain⟨a,C,dx,o,k,rfl,e2,u2,⟨ob,cl,di,vs,hv,hz,ht⟩,na,nd,nt,ne,nf,ns⟩:=h;have fin:∀{s1:Shared}{h':Heap}{T:Addr},(∀b u,s.heap.get? b=some u->s1.heap.get? b=some u)->s1.os=s.os->s1.gens=s.gens->s1.heap.get? T=none->h'.get? a=some (o.mapFields (·.setIfInBounds 1 (.ref T)))->T≠a->(∃oT ts,h'.get? T=some oT/\oT.data=.fields ts/\ts[3]?=some (rawInt L))->
   (∀b u,b≠a->b∉frs (env::outer)->s1.heap.get? b=some u->h'.get? b=some u)->(∀b u,b≠a->s1.heap.get? b=some u->∃sl,h'.get? b=some {u with slots:=sl})->
   Err true P L (frs (env::outer)) s0 x n (.ref a) {s1 with heap:=h'}/\h'.FunFrames base (env::outer):=fun{s1 h' T}same eo eg g0 g1 g2 g3 g4 g5=>by
  have g0':s.heap.get? T=none:=by
   cases q:s.heap.get? T with
   |none=>rfl
   |some u=>rw[same _ _ q]at g0;cases g0
  have gd:∃od,s.heap.get? dx=some od:=let⟨od,_,_,q,_⟩:=ns;⟨od,q⟩
  have nt0:=u2.old g0';have n0:∀{b u},s0.heap.get? b=some u->b≠a:=fun q z=>by rw[z,na]at q;cases q
  refine⟨⟨a,C,dx,_,k,rfl,e2,⟨fun b u nb q=>g4 b u (n0 q) nb (same b u (u2.ext b u nb q)),fun b u q=>?_,eo.trans u2.os,fun q=>by show AllBare s1.gens;rw[eg];exact u2.bare q⟩,⟨g1,(Obj.cls_mapFields _ _).trans cl,?_,_,ud4 hv _,by simpa using hz,.inr ?_⟩,na,nd,fun T' z=>?_,ne,nf,?_⟩,?_⟩
  .obtain⟨sl,q1⟩:=u2.slt b u q;obtain⟨sl',q2⟩:=g5 b _ (n0 q) (same b _ q1);exact⟨sl',q2⟩
  .obtain⟨c,d,dt,sl⟩:=o;cases dt<;>first|exact di|cases hv
  .obtain⟨oT,ts,t1,t2,t3⟩:=g3;refine⟨T,oT,ts,by simp[hz],g2,fun z=>?_,t1,t2,.inr t3⟩;obtain⟨od,q⟩:=gd;rw[<-z,g0']at q;cases q
  .obtain⟨ws,z1,z2⟩:=z;rw[ud4 hv]at z1;cases z1;simp[hz]at z2;rw[<-z2];exact nt0
  .obtain⟨od,es,ep,q1,q2⟩:=ns;exact⟨od,es,ep,g4 dx od ne nf (same _ _ q1),q2⟩
  .refine hl.of_keeps fun b u q nv=>?_;by_cases hb:b=a
   .subst hb;rw[ob]at q;cases q;exact absurd hv (nv vs)
   .obtain⟨sl,w⟩:=g5 b u hb (same b u q);exact⟨_,w,rfl⟩
 unfold noteFrame;simp only[hf];rcases ht with⟨_,ht⟩|⟨T,oT,ts,h1,h2,hd,h3,h4,h5⟩
 .refine zxq (ub4 ob hv ht ?_);rw[if_neg (by decide)];exact ent hfr hl hf ob hv hz fun h' T g0 g1 g2 g3 g4 g5=>fin (s1:=s) (fun _ _ q=>q) rfl rfl g0 g1 g2 g3 g4 g5
 .refine zxq (ub4 ob hv h1 ?_);rw[if_pos (show(Value.ref T != Value.none)=true from by simp)];rcases h5 with h5|h5
  .refine zxq (ub4 h3 h4 h5 ?_);rw[if_neg (show ¬((Value.none==rawInt L)=true)from by simp[rawInt])];refine zxq (wpAny_setField h3 h4 (Array.getElem?_eq_some_iff.mp h5).1 ?_);have same:∀b u,s.heap.get? b=some u->(s.heap.update T (Obj.mapFields (·.setIfInBounds 3 Value.none))).get? b=some u:=fun b u q=>by
    by_cases hb:b=T
    .subst hb;rw[h3]at q;cases q;rw[Heap.get?_update_self _ h3 (Obj.isFreed_of_fields (ud4 h4 _))];obtain⟨c,d,dt,sl⟩:=oT;cases h4;obtain⟨l1,l2⟩:=Array.getElem?_eq_some_iff.mp h5;have:ts.setIfInBounds 3 Value.none=ts:=by rw[<-l2];simp[Array.setIfInBounds,l1]
     simp[Obj.mapFields,this]
    .rw[Heap.get?_update_other _ _ (Ne.symm hb)];exact q
   exact ent (s:={s with heap:=s.heap.update T (Obj.mapFields (·.setIfInBounds 3 Value.none))}) hfr (hl.of_keeps fun b u q _=>⟨u,same b u q,rfl⟩) hf (same _ _ ob) hv hz fun h' T' g0 g1 g2 g3 g4 g5=>fin (s1:={s with heap:=s.heap.update T (Obj.mapFields (·.setIfInBounds 3 Value.none))}) same rfl rfl g0 g1 g2 g3 g4 g5
  .refine zxq (ub4 h3 h4 h5 ?_);rw[if_pos (by simp)];exact zxs ⟨⟨a,C,dx,o,k,rfl,e2,u2,⟨ob,cl,di,vs,hv,hz,.inr ⟨T,oT,ts,h1,h2,hd,h3,h4,.inr h5⟩⟩,na,nd,nt,ne,nf,ns⟩,hl⟩
theorem zgs{fs:List Addr}{L':Addr}(hfr:A.frames=some (env::outer))(hl:s.heap.FunFrames base (env::outer))(hf:env.frame=some L)(hz:s0.heap.get? L=none)(hs:∀b∈frs outer,b∈fs)(hd:∀b∈fs,∃o,s0.heap.get? b=some o)(h:Err b P L (frs (env::outer)) s0 x n e s):wpAny M A (leaving env e) (fun _ s2=>Err false P L' fs s0 x n e s2) E s:=by
 refine zxq (zyt (zfp hfr hl hf h) (fun _ s2 z=>?_) fun _ _ q=>q);obtain⟨⟨a,C,dx,o,k,rfl,e2,u2,⟨ob,cl,di,vs,hv,h1,ht⟩,na,nd,nt,ne,nf,ns⟩,hl2⟩:=z;have fe:∀b,b∈frs (env::outer)->b∈fs\/b=L:=fun b hb=>by
  unfold frs at hb;rw[zyv,hf]at hb;rcases omc hb with q|q
  .exact .inr q
  .exact .inl (hs b q)
 have up:UpE fs s0 s2:=⟨fun b u nb q=>u2.ext b u (fun z=>(fe b z).elim nb fun w=>by rw[w,hz]at q;cases q) q,u2.slt,u2.os,u2.bare⟩;have nf':dx∉fs:=fun z=>by obtain⟨o,q⟩:=hd dx z;rw[nd]at q;cases q
 unfold setFlight;rcases ht with⟨ht,_⟩|⟨T,oT,ts,t1,t2,t3,t4,t5,t6⟩
 .cases ht
 .refine zxq (ub4 ob hv t1 ?_);rw[if_pos (show(Value.ref T != Value.none)=true from by simp)];have l3:3<ts.size:=by rcases t6 with t6|t6<;>exact(Array.getElem?_eq_some_iff.mp t6).1
  have nT:=nt T ⟨vs,hv,t1⟩;have kp:∀b,b≠T->(s2.heap.update T (Obj.mapFields (·.setIfInBounds 3 Value.none))).get? b=s2.heap.get? b:=fun b hb=>Heap.get?_update_other _ _ (Ne.symm hb);refine wpAny_setField t4 t5 l3 ⟨a,C,dx,o,k,rfl,e2,⟨fun b u nb q=>(kp b fun z=>by rw[z,nT]at q;cases q).trans (up.ext b u nb q),fun b u q=>?_,up.os,up.bare⟩,⟨(kp a (Ne.symm t2)).trans ob,cl,di,vs,hv,h1,.inr ⟨T,_,_,t1,t2,t3,Heap.get?_update_self _ t4 (Obj.isFreed_of_fields (ud4 t5 _)),ud4 t5 _,.inl (by simp[l3])⟩⟩,na,nd,nt,ne,nf',?_⟩
  .obtain⟨sl,w⟩:=up.slt b u q;exact⟨sl,(kp b fun z=>by rw[z,nT]at q;cases q).trans w⟩
  .obtain⟨od,es,ep,q1,q2⟩:=ns;exact⟨od,es,ep,(kp dx (Ne.symm t3)).trans q1,q2⟩
theorem zpo{fs:List Addr}{R:Value->Shared->Prop}(hf:env.frame=some L)(hl:s.heap.FunFrames base (env::outer))(h:Err true P L fs s0 x n e s)(q:∀s2,Err false P L fs s0 x n e s2->s2.heap.FunFrames base (env::outer)->R e s2):cameBackBy M A env R e s:=by
 obtain⟨a,C,dx,o,k,rfl,e2,up,⟨ob,cl,di,vs,hv,h1,ht⟩,na,nd,nt,ne,nf,ns⟩:=h;rcases ht with⟨ht,_⟩|⟨T,oT,ts,t1,t2,t3,t4,t5,t6⟩
 .cases ht
 .unfold cameBackBy;refine zxq (ub4 ob hv t1 ?_);rw[if_neg (by simp)];unfold setFlight;refine zxq (ub4 ob hv t1 ?_);rw[if_pos (show(Value.ref T != Value.none)=true from by simp),hf];have l3:3<ts.size:=by rcases t6 with t6|t6<;>exact(Array.getElem?_eq_some_iff.mp t6).1
  have nT:=nt T ⟨vs,hv,t1⟩;have kp:∀b,b≠T->(s.heap.update T (Obj.mapFields (·.setIfInBounds 3 (rawInt L)))).get? b=s.heap.get? b:=fun b hb=>Heap.get?_update_other _ _ (Ne.symm hb);refine wpAny_setField t4 t5 l3 (q _ ⟨a,C,dx,o,k,rfl,e2,⟨fun b u nb q=>(kp b fun z=>by rw[z,nT]at q;cases q).trans (up.ext b u nb q),fun b u q=>?_,up.os,up.bare⟩,⟨(kp a (Ne.symm t2)).trans ob,cl,di,vs,hv,h1,.inr ⟨T,_,_,t1,t2,t3,Heap.get?_update_self _ t4 (Obj.isFreed_of_fields (ud4 t5 _)),ud4 t5 _,.inr (by simp[l3])⟩⟩,na,nd,nt,ne,nf,?_⟩ (hl.of_keeps fun b u q nv=>?_))
  .obtain⟨sl,w⟩:=up.slt b u q;exact⟨sl,(kp b fun z=>by rw[z,nT]at q;cases q).trans w⟩
  .obtain⟨od,es,ep,q1,q2⟩:=ns;exact⟨od,es,ep,(kp dx (Ne.symm t3)).trans q1,q2⟩
  .exact⟨u,(kp b fun z=>by subst z;rw[t4]at q;cases q;exact nv _ t5).trans q,rfl⟩
end
end Nb
section
namespace Nb
open PySem Spec PyProof.Rows Ev
structure Bd extends Yc where
 tbp:List (Addr×Option Obj)
 N:List Str
 F0:Fz
 s0:Shared
abbrev No:Value->Shared->Prop:=fun _ _=>False
abbrev Bd.Fr(B:Bd)(pn:List (Addr×a7 Obj))(ad:Nat->List Addr)(τ:List Sl)(F:Fz)(s:Shared):Prop:=Nb.Fr B.toYc B.N B.F0 B.s0 (B.tbp++pn) ad τ F s
def Bd.Post(B:Bd)(pn:List (Addr×a7 Obj))(F:Fz)(o:Out)(fl:Flow)(s':Shared):Prop :=
 match fl,o with
 |.next,.nx τ=>∃ad G,F.le G/\B.Fr pn ad τ G s'
 |.ret u,.rt t=>Res B.w B.F0 B.s0 t u s'/\∀p∈B.tbp,∃G,PinOk G s'.heap p
 |_,_=>False
def Bd.PE(B:Bd)(o:Out)(e:Value)(s':Shared):Prop:=∃x n,o=.rs x n/\Err false B.toPc B.env.locals (frs B.stack) B.s0 x n e s'/\s'.heap.FunFrames B.base B.stack
structure Bd.Fm(B:Bd):Prop where
 st:∃l,B.stack=B.env::l
 fr:B.env.frame=some B.env.locals
variable {B:Bd}{pn:List (Addr×a7 Obj)}{ad:Nat->List Addr}{τ:List Sl}{F G:Fz}{s s':Shared}{o:Out}{x:Str}{i:Nat}{t:T}{f g:List Sl->a7 Out}{e c:Expr}{h:Ev.Env->a7 T}{pos p:Pos}{st:Stmt}{ss a b:List Stmt}{E:Value->Shared->Prop}
def PS(B:Bd)(st:Stmt)(f:List Sl->a7 Out):Prop:=∀{pn ad τ F s o},B.Fr pn ad τ F s->f τ=some o->wpAny B.M B.A (exec st B.env) (B.Post pn F o) (B.PE o) s
def PSs(B:Bd)(ss:List Stmt)(f:List Sl->a7 Out):Prop:=∀{pn ad τ F s o},B.Fr pn ad τ F s->f τ=some o->wpAny B.M B.A (execs ss B.env) (B.Post pn F o) (B.PE o) s
theorem Fr.tbs(h:B.Fr pn ad τ F s):∀p∈B.tbp,∃G,PinOk G s.heap p:=fun p hp=>⟨F,(h.pin p (List.mem_append_left _ hp)).2.1.1⟩
theorem Fz.le.trans{F G H:Fz}(a:F.le G)(b:G.le H):F.le H:=fun c o e=>b c o (a c o e)
theorem Bd.Post.le{fl:Flow}(h:B.Post pn G o fl s)(l:F.le G):B.Post pn F o fl s:=by
 unfold Bd.Post at h ⊢;split at h
 .obtain⟨ad,G',l',h⟩:=h;exact⟨ad,G',l.trans l',h⟩
 .exact h
 .exact h
theorem zd2:PSs B [] fun τ=>some (.nx τ):=fun h e=>by cases e;exact wpAny_execs_nil ⟨_,_,fun _ _ e=>e,h⟩
theorem zbq(ha:PS B st f)(hb:PSs B ss g):PSs B (st::ss) fun τ=>(f τ).bind fun o=>match o with
  |.nx τ'=>g τ'
  |o=>some o:=fun h e=>by
 obtain⟨o1,e1,e⟩:=obs e;refine wpAny_execs_cons (zyt (ha h e1) (fun fl s1 q=>?_) fun w s1 z=>by obtain⟨x,n,rfl,z⟩:=z;cases e;exact⟨x,n,rfl,z⟩);cases fl<;>cases o1<;>first|exact q.elim|skip
 .obtain⟨ad',G,le,h'⟩:=q;exact thn (hb h' e) fun fl s2 q=>q.le le
 .cases e;exact q
theorem zm0(hF:B.Fr pn ad τ F s)(he:Oke B.toYc (Nn B.N) e h)(is:List Nat)(q:h (ygg (frzAt is τ))=some t):wpAny B.M B.A (eval e B.env) (fun u s'=>∃ad' G,F.le G/\B.Fr pn ad' (frzAt is τ) G s'/\Rep B.w G t u) E s:=by
 obtain⟨G,ad',le,h'⟩:=hF.frzAt is;exact thn (he h'.at q) fun u s' ⟨G2,u2,q2⟩=>⟨ad',G2,le.trans u2.ff,h'.after u2,q2⟩
theorem zuh(he:Oke B.toYc (Nn B.N) e h)(is:List Nat):PS B (.Return (some e) pos) fun τ=>(h (ygg (frzAt is τ))).map .rt:=fun hF q=>by obtain⟨t,q1,rfl⟩:=oms q;exact wpAny_Return_some (thn (zm0 hF he is q1) fun u s' ⟨_,G,_,h',r⟩=>⟨⟨G,h'.up,r⟩,h'.tbs⟩)
theorem ze6(he:Oke B.toYc (Nn B.N) e h)(is:List Nat)(hx:B.N[i]?=some x)(hl:Loc B.env.scope x)(hs:swapsWith e (some (.Name x p)) pos.line B.env=pure false):PS B (.Assign [.Name x p] e pos) fun τ=>(h (ygg (frzAt is τ))).bind fun t=>some (.nx ((frzAt is τ).set i (.val t))):=fun hF q=>by
 obtain⟨t,q1,e⟩:=obs q;cases e;refine wpAny_Assign_Name (thn (zm0 hF he is q1) fun u s' ⟨_,G,le,h',r⟩=>?_) hs;exact h'.store (d:=[]) (sl:=.val t) hx hl (fun _ w=>nomatch w) (fun _ lk=>⟨u,lk,r⟩) fun s2 _ _ h2=>⟨_,_,le,h2⟩
def Okb(Y:Yc)(N:Str->Nat->Prop)(e:Expr)(f:Ev.Env->a7 T):Prop :=
 ∀{s F r t E},At Y N r F s->f r=some t->wpAny Y.M Y.A (isTrue e Y.env (eval e Y.env)) (fun b s'=>∃G,Up F s G s'/\t=.bl b) E s
theorem zul(hc:Okb B.toYc (Nn B.N) c h)(is:List Nat)(ha:PSs B a f)(hb:PSs B b g):PS B (.If c a b pos) fun τ=>(h (ygg (frzAt is τ))).bind fun t=>match t with
  |.bl true=>f τ
  |.bl false=>g τ
  |_=>none:=fun hF q=>by
 obtain⟨t,q,e⟩:=obs q;obtain⟨G,ad',le,h'⟩:=hF.frzAt is;refine wpAny_If (thn (hc h'.at q) fun d s1 ⟨G2,u,z⟩=>?_);subst z;cases d with
 |true=>exact ha (hF.after (u.back le)) e
 |false=>exact hb (hF.after (u.back le)) e
end Nb
section
namespace Nb
open PySem Spec PyProof.Rows Ev
variable {ps:List Str}{scope:Scope}
structure Room(k:Nat)(A:Around):Prop where
 dp:A.depth+3*k+5<recursionLimit
 un:A.units+16*k+200<cLine
theorem Room.mono(r:Room k A)(h:j<=k):Room j A:=⟨by have:=r.dp;lia,by have:=r.un;lia⟩
theorem Room.deeper{A:Around}(r:Room (k+1) A)(env:PySem.Env):Room k (A.deeper env) :=
 ⟨by have:=r.dp;show A.depth+1+3*k+5<_;lia,by have:=r.un;show A.units+3+16*k+200<_;lia⟩
structure FnScope(N P:List Str)(sc:Scope):Prop where
 kind:sc.kind=.function
 co:sc.isCoroutine=false
 gen:sc.isGenerator=false
 nd:N.Nodup
 pre:N.take P.length=P
 par:∀x∈P,sc.names.lookup x=some .local\/sc.names.lookup x=some .cell
 nofree:∀y∈sc.names,y.2≠.free
structure Fn(P:Pc)(k:Nat)(f:Addr)(fd:FuncData)(ps:List Str)(sp:List T->Option T)(ex:List T->Option (Str×Int)):Prop where
 run:∀{A l F s args us ts t},Room k A->St P A l F s->BindsTo s fd args (ps.zip us)->Reps P.w F ts us->sp ts=some t->
  codeAny P.M A (.call (.ref f) args) (fun r s'=>∃u,r=.ok (.ret u)/\Res P.w F s t u s') s
 err:∀{A l F s args us ts x n}(L:Addr),Room k A->St P A l F s->BindsTo s fd args (ps.zip us)->Reps P.w F ts us->ex ts=some (x,n)->
  codeAny P.M A (.call (.ref f) args) (fun r s'=>∃e,r=.error e/\Err false P L (frs l) s x n e s') s
theorem zg2{kindOf:Str->a7 NameKind}{x:Str}:∀{binds:List (Str×Value)}{m:Str->a7 Value},(∀v,(x,v)∉binds)->bindL kindOf binds m x=m x
 |[],_,_=>rfl
 |(n,v)::r,m,h=>by
  unfold bindL;rw[zg2 fun w hw=>h w (zyh _ hw)];split
  .have:x≠n:=by rintro rfl;exact h v zyo
   simp[this]
  .rfl
theorem zg3{kindOf:Str->a7 NameKind}{x:Str}:∀{binds:List (Str×Value)}{m:Str->a7 Value},(∀v,(x,v)∉binds)->bindC kindOf binds m x=m x
 |[],_,_=>rfl
 |(n,v)::r,m,h=>by
  unfold bindC;rw[zg3 fun w hw=>h w (zyh _ hw)];split
  .rfl
  .have:x≠n:=by rintro rfl;exact h v zyo
   simp[this]
theorem zf6{kindOf:Str->a7 NameKind}{x:Str}{v:Value}:∀{P:List Str}{vs:List Value}{i:Nat}{m m':Str->a7 Value},P.Nodup->P[i]?=some x->vs[i]?=some v ->(kindOf x=some .local->bindL kindOf (P.zip vs) m x=some v)/\(kindOf x≠some .local->bindC kindOf (P.zip vs) m' x=some v)
 |[],_,_,_,_,_,h,_=>by simp at h
 |_::_,[],_,_,_,_,_,h=>by simp at h
 |p::P,w::vs,0,m,m',nd,h1,h2=>by simp at h1 h2;subst h1;subst h2;have z:∀v,(p,v)∉P.zip vs:=fun v hv=>(ua7.mp nd).1 (List.of_mem_zip hv).1;exact⟨fun hk=>by show bindL kindOf ((p,w)::P.zip vs) m p=_;unfold bindL;rw[zg2 z,if_pos hk];simp,fun hk=>by show bindC kindOf ((p,w)::P.zip vs) m' p=_;unfold bindC;rw[zg3 z,if_neg hk];simp⟩
 |p::P,w::vs,i+1,m,m',nd,h1,h2=>by have r:=fun m m'=>zf6 (kindOf:=kindOf) (i:=i) (m:=m) (m':=m') (ua7.mp nd).2 (by simpa using h1) (by simpa using h2);exact⟨fun hk=>by show bindL kindOf ((p,w)::P.zip vs) m x=_;unfold bindL;exact(r _ m').1 hk,fun hk=>by show bindC kindOf ((p,w)::P.zip vs) m' x=_;unfold bindC;exact(r m _).2 hk⟩
def ydk(P:Pc)(N:List Str)(qual:Str)(scope:Scope)(f:Addr)(cd:Value)(A:Around)(l:List PySem.Env)(F:Fz)(s:Shared):Bd where
 toPc:=P
 A:=A.deeper (envOfC qual scope s.heap.objs.size f cd)
 env:=envOfC qual scope s.heap.objs.size f cd
 stack:=envOfC qual scope s.heap.objs.size f cd::l
 I:=fun _=>True
 tbp:=[]
 N:=N
 F0:=F
 s0:=s
theorem zfy{P:Pc}{N:List Str}{qual:Str}{f:Addr}{cd:Value}{A:Around}{l:List PySem.Env}{F:Fz}{s s1:Shared}{us:List Value}{ts:List T}{D:Fd}(S:FnScope N ps scope)(h:St P A l F s)(r:Reps P.w F ts us)(hl:ts.length=ps.length)(hn:D.ns=N.length)(x:InCallC s s.heap.objs.size (bindL (envOfC qual scope s.heap.objs.size f cd).kindOf (ps.zip us) fun _=>none) (cellsFrom (s.heap.objs.size+1) scope.names []) (bindC (envOfC qual scope s.heap.objs.size f cd).kindOf (ps.zip us) fun _=>none) s1):(ydk P N qual scope f cd A l F s).Fr [] (fun _=>[]) (yaj D ts) F s1:=by
 have hpl:ps.length<=N.length:=by have:=zx2 List.length S.pre;rw[zy3]at this;lia
 obtain⟨h1,tk,rfl,hk⟩:=x.done;have has:∀y,scope.names.lookup y=some .cell->∃c,(cellsFrom (s.heap.objs.size+1) scope.names []).lookup y=some c:=fun y hy=>Option.isSome_iff_exists.mp (W.cellsFrom_some scope.names _ [] (.inl hy));have new:∀y c,(cellsFrom (s.heap.objs.size+1) scope.names []).lookup y=some c->s.heap.get? c=none:=fun y c e=>Heap.get?_none_of_le (Nat.le_of_lt (x.above y c (mem_of_lookup e)));have base0:P.base.get? s.heap.objs.size=none:=by
  cases e:P.base.get? s.heap.objs.size with
  |none=>rfl
  |some o=>have:=h.bk _ _ e;rw[zac]at this;cases this
 refine⟨⟨⟨S.kind,rfl,rfl,fun y k=>k.elim (has y) fun k=>absurd rfl (S.nofree _ (mem_of_lookup k)),fun _ z=>z⟩,trivial,fun u ns=>⟨h.mod,h.hd,Around.frames_deeper h.frames,fun b o e=>u.ext b o (h.bk b o e),u.fh,u.bare h.bare,fun c=>?_,fun c b hb=>(omc hb).elim (fun e=>by rw[e];exact ns.1) ((h.up u).fo c b)⟩,zac,fun y _=>new y,fun y _ z _ c e1 e2=>name_of_addr x.apart (mem_of_lookup e1) (mem_of_lookup e2),S.nd⟩,
  ⟨hk,rfl,id,fun _ _ e=>e,fun b o e=>hk b o (h.fh b o e),fun _ z=>.inl z⟩,?_,⟨h.fh.none zac,_,x.toInCall.ns⟩,fun y _ c e=>⟨h.fh.none (new y c e),_,x.cell y c e⟩,fun _ _ e=>(nomatch e),fun _ z=>(nomatch z),fun _ _ _ e=>(nomatch e),fun i y sl e1 e2=>?_⟩
 .obtain⟨_,m,n⟩:=ns;exact .cons (by show scope.kind≠_;rw[S.kind];decide) rfl n base0 (zcl u.ext (h.funs c))
 .show(yaj D ts).length=N.length;unfold yaj;rw[zxy,zxt,List.length_replicate];lia
 .unfold yaj at e2;by_cases hi:i<ts.length
  .rw[uc4 (by simpa using hi),List.getElem?_map,List.getElem?_eq_getElem hi]at e2;cases e2;obtain⟨u,hu,ru⟩:=r.get (zxu hi);have hp:ps[i]?=some y:=by rw[<-S.pre,List.getElem?_take_of_lt (by lia)];exact e1
   have b:=zf6 (kindOf:=(envOfC qual scope s.heap.objs.size f cd).kindOf) (m:=fun _=>none) (m':=fun _=>none) (by rw[<-S.pre];exact S.nd.sublist (List.take_sublist _ _)) hp hu;refine⟨u,?_,ru⟩;rcases S.par y (zx4 hp)with k|k
   .exact .inl ⟨k,_,x.toInCall.ns,b.1 k⟩
   .obtain⟨c,e⟩:=has y k;have q:=x.cell y c e;rw[b.2 (by show scope.names.lookup y≠_;rw[k];decide)]at q;exact .inr ⟨.inl k,c,e,q⟩
  .rw[uc3 (by simpa using hi),List.getElem?_replicate]at e2;split at e2<;>cases e2;trivial
theorem zxo{P:Pc}{k:Nat}{f:Addr}{name qual:Str}{params:Arguments}{body:List Stmt}{dV kV doc pm cdv ct oc:Value}{an od:a7 Addr}{osl:Array (a7 Value)}{N:List Str}{D:Fd}{G:Glo}(hca:P.calm)(lk:P.K.lookup f=some ⟨oc,od,.func (W.fnOf name qual params body scope dV kV doc pm an cdv ct),osl⟩)(hcd:W.codeIn P.K cdv qual=true)(S:FnScope N ps scope)(hn:D.ns=N.length)(hp:D.np=ps.length)(hb:∀{A l F s},Room k (A.deeper (envOfC qual scope s.heap.objs.size f cdv))->PSs (ydk P N qual scope f cdv A l F s) body (yav G D.body)):Fn P (k+1) f (W.fnOf name qual params body scope dV kV doc pm an cdv ct) ps (fun ts=>if ts.length=D.np then zbb (yav G D.body (yaj D ts))else none) (fun ts=>if ts.length=D.np then yce (yav G D.body (yaj D ts))else none):=by
 have main:∀{A l F s args us ts o}{R:Result->Shared->Prop},Room (k+1) A->St P A l F s->BindsTo s (W.fnOf name qual params body scope dV kV doc pm an cdv ct) args (ps.zip us)->Reps P.w F ts us->ts.length=D.np->yav G D.body (yaj D ts)=some o->
   (∀u t s',zbb (some o)=some t->Res P.w F s t u s'->R (.ok (.ret u)) s')->∀L,(∀x n e s',o=.rs x n->Err false P L (frs l) s x n e s'->R (.error e) s')->codeAny P.M A (.call (.ref f) args) R s:=by
  intro A l F s args us ts o R hr h hbi r hl q h1 L h2;rw[hp]at hl;have KX:P.K.In s.heap:=h.mod.kin.keeps h.bk;have hkind:∀y∈ps.zip us,scope.names.lookup y.1=some .local\/(scope.names.lookup y.1=some .cell/\((cellsFrom (s.heap.objs.size+1) scope.names []).lookup y.1).isSome=true):=fun⟨n,v⟩ hy=>(S.par n (List.of_mem_zip hy).1).imp id fun q=>⟨q,W.cellsFrom_some _ _ _ (.inl q)⟩;refine codeAny_call_function (by have:=hr.dp;lia) (KX _ _ lk) rfl S.co S.gen rfl (W.codeRec_of KX hcd) (hbi _ _ _ _ ?_);refine wpAny_newFunctionEnv_cells S.kind hkind fun env he s1 x=>?_;subst he;refine⟨(h.mod.nolimit.keeps h.bk).keeps x.toInCall.keep,codeAny_func ?_⟩;have I:=zfy (D:=D) S h r hl hn x;refine zyt (hb (hr.deeper _) I q) (fun fl s' z=>?_) fun e s' z=>?_
  .cases fl<;>cases o<;>first|exact z.elim|skip
   .obtain⟨ad,F',_,z⟩:=z;exact h1 _ _ _ rfl ⟨F',z.up,rfl⟩
   .exact h1 _ _ _ rfl z.1
  .obtain⟨x,n,rfl,z1,z2⟩:=z;exact zyt (zgs (E:=No) (L':=L) (I.toSt.frames) z2 rfl I.lab (fun b hb=>hb) (fun b hb=>let⟨_,o,q,_⟩:=(h.funs hca).mem hb;⟨o,q⟩) z1) (fun _ s2 q=>h2 x n e s2 rfl q) fun _ _ q=>q.elim
 refine⟨fun{A l F s args us ts t}hr h hbi r q=>?_,fun{A l F s args us ts x n}L hr h hbi r q=>?_⟩<;>split at q
 .rename_i hl;obtain⟨o,e,q⟩:∃o,yav G D.body (yaj D ts)=some o/\zbb (some o)=some t:=by
   cases e:yav G D.body (yaj D ts)with
   |none=>rw[e]at q;cases q
   |some o=>exact⟨o,rfl,by rw[<-e];exact q⟩
  refine main hr h hbi r hl e (fun u t' s' e1 z=>?_) 0 fun x n e s' e1 _=>?_
  .rw[q]at e1;cases e1;exact⟨u,rfl,z⟩
  .subst e1;cases q
 .cases q
 .rename_i hl;have e:yav G D.body (yaj D ts)=some (.rs x n):=by
   cases e:yav G D.body (yaj D ts)with
   |none=>rw[e]at q;cases q
   |some o=>rw[e]at q;cases o<;>cases q;rfl
  exact main hr h hbi r hl e (fun u t' s' e1 z=>by cases e1) L fun x' n' w s' e1 z=>by cases e1;exact⟨w,rfl,z⟩
 .cases q
end Nb
section
namespace Nb
open PySem Spec PyProof.Rows Ev
variable {Y:Yc}{N:Str->Nat->Prop}{F:Fz}{s:Shared}{r:Ev.Env}{E:Value->Shared->Prop}{x:Str}{a b e:Expr}{es rest:List Expr}{f g:Ev.Env->a7 T}{pos p:Pos}{u:Value}{Q:Value->Shared->Prop}
def Gl(Y:Yc)(x:Str):Prop:=Y.env.kindOf x=some .globalImplicit
theorem zde(A:At Y N r F s)(hg:Gl Y x)(hm:Y.mg x=some u)(h:Q u s)(hd:(x==("__debug__":Str))=false):wpAny Y.M Y.A (eval (.Name x pos) Y.env) Q E s :=
 Calls.Name_function_global A.ok.kind hg (Calls.loadGlobal_global (by rw[A.ok.glob];exact A.mod.glob.keeps A.bk) hm h) hd
theorem zcf(A:At Y N r F s)(hg:Gl Y x)(hm:Y.mg x=none)(hv:bootBuiltins x=some u)(h:Q u s)(hn:x≠"__name__")(hd:(x==("__debug__":Str))=false):wpAny Y.M Y.A (eval (.Name x pos) Y.env) Q E s:=by obtain⟨mb,h1,h2⟩:=A.mod.blt;exact Calls.Name_function_global A.ok.kind hg (Calls.loadGlobal_builtin (by rw[A.ok.glob];exact A.mod.glob.keeps A.bk) hm (by rw[A.ok.blt];exact h1.keeps A.bk) ((h2 x hn).trans hv) h) hd
theorem zr8{sp:List T->a7 T}{ex:List T->a7 (Str×Int)}{g:Ev.Env->a7 (List T)}{k:Nat}{f:Addr}{fd:FuncData}{ps:List Str}(hF:Fn Y.toPc k f fd ps sp ex)(hr:Room k Y.A)(hg:Gl Y x)(hm:Y.mg x=some (.ref f))(hk:W.keepIn Y.K (.ref f)=true)(hb:∀us:List Value,us.length=ps.length->bindArgs fd ⟨us,[]⟩=pure (ps.zip us))(hl:∀{ts t},sp ts=some t->ts.length=ps.length)(ha:Oks Y N (e::es) g)(hd:(x==("__debug__":Str))=false)(he:starEach (e::es) Y.env=(false,eval e Y.env)::starEach es Y.env)(hpl:(backTo pos (starEach es Y.env)).any (·.1)=false):Oke Y N (.Call (.Name x p) (e::es) [] pos) fun r=>(g r).bind sp:=fun{s F r t E}A q=>by
 obtain⟨ts,e1,q⟩:=obs q;refine wpAny_Call_Name_kw (zde A hg hm ?_ hd);refine W.callWith_K (h₀:=Y.base) A.mod.kin hk (thn (ha pos A e1) fun us s1 z=>?_) he hpl;obtain⟨G,u,rs⟩:=z;have A1:=A.up u;refine⟨A.mod.kin.keeps A1.bk,wpAny_call (codeAny_mono (hF.run hr A1.toSt (.of_eq (hb us (by rw[rs.length];exact hl q))) rs q) fun r s2 z=>?_)⟩;obtain⟨v,rfl,z⟩:=z;exact Res.mk u z
theorem zlj(h:Oke Y N e f)(he:∀w,isTrue e Y.env w=(do let v <-w;standAt e.pos;holding [v] (truthy v)))(hf:∀{r t},f r=some t->∃b,t=.bl b):Okb Y N e f:=fun A q=>by obtain⟨b,rfl⟩:=hf q;refine isTrue_plain (thn (h A q) fun v s1 z=>?_) (he _);obtain⟨G,u,rfl⟩:=z;exact wpAny_truthy_bool ⟨G,u,rfl⟩
theorem zlk(h:Okb Y N a f):Okb Y N (.UnaryOp .Not a pos) fun r=>(f r).bind fun x=>match x with
  |.bl b=>some (.bl (!b))
  |_=>none:=fun A q=>by
 obtain⟨x,e,q⟩:=obs q;refine isTrue_not (thn (h A e) fun b s1 z=>?_);obtain⟨G,u,rfl⟩:=z;cases q;exact⟨G,u,rfl⟩
end Nb
section
namespace HT
open PySem PyProof.Rows Ev
variable {t sl:Addr}{Q:Value->Shared->Prop}{vl vu:Value}{lo hi:a7 Int}
open AutoSeq1 (wpAny_loadPart')
section
variable {prog:Program}{w:World}{A:Around}{E:Value->Shared->Prop}{s:Shared}
theorem cat_tup{b:Addr}{vs ws:List Value}(ht:IsTup s.heap t vs.toArray)(hb:IsTup s.heap b ws.toArray)(hv:vs≠[])(h1:ws=[]->Q (.ref t) s)(h2:ws≠[]->Q (.ref s.heap.objs.size) {s with heap:=s.heap.push {cls:=.type "tuple",data:=.seq (vs++ws).toArray} })(hsz:vs.length+ws.length<=sizeLine):wpAny (model prog w) A (binaryOp .Add (.ref t) (.ref b)) Q E s:=by
 obtain⟨⟨cls,dd,data,sl⟩,ho,hc,n,hd⟩:=id ht;obtain⟨⟨cls2,dd2,data2,sl2⟩,ho2,hc2,n2,hd2⟩:=id hb;simp only at hc hd hc2 hd2;subst hc hd hc2 hd2;have e:vs.toArray++ws.toArray=(vs++ws).toArray:=by simp
 by_cases hw:ws=[]
 .exact concat_meets ⟨_,ho,rfl⟩ ⟨_,ho2,rfl⟩ noFill_tuple_add seq_tuple_add PySem.F.slot_tuple_add PySem.F.entry_tuple_add (PySem.F.args_tuple_add_2 _ _)
   (tuple_addW1 t b vs.toArray ws.toArray n n2 dd dd2 sl sl2 (by simpa using hv) (by simp[hw])) ⟨ho,ho2,h1 hw⟩
 .refine concat_meets ⟨_,ho,rfl⟩ ⟨_,ho2,rfl⟩ noFill_tuple_add seq_tuple_add PySem.F.slot_tuple_add PySem.F.entry_tuple_add (PySem.F.args_tuple_add_2 _ _)
   (tuple_addW2 t b vs.toArray ws.toArray n n2 dd dd2 sl sl2 (by simpa using hv) (by simpa using hw) (by rw[ua3,ua3];exact hsz)) ⟨ho,ho2,?_⟩
  rw[e];exact h2 hw
theorem ztb(n d:Nat)(hd:d<=n)(o:a7 Int):yam n d o<=n:=by
 cases o with
 |none=>exact hd
 |some v=>
  show(if v<0 then(v+(n:Int)).toNat else min v.toNat n)<=n;by_cases hv:v<0
  .rw[if_pos hv];lia
  .rw[if_neg hv];exact Nat.min_le_right _ _
theorem znj(v:Int)(n d:Nat):(if v<0 then max (v+(n:Int)) 0 else min v (n:Int))=((yam n d (some v):Nat):Int):=by
 show(if v<0 then max (v+(n:Int)) 0 else min v (n:Int))=(((if v<0 then(v+(n:Int)).toNat else min v.toNat n):Nat):Int);by_cases hv:v<0
 .simp only[if_pos hv];lia
 .simp only[if_neg hv];lia
theorem zjz(lo hi:a7 Int)(n:Nat):Builtin.Slice.sliceAdjust lo hi 1 (n:Int)=(((yam n 0 lo:Nat):Int),((yam n n hi:Nat):Int)):=by
 have h1:¬((1:Int)<0):=by lia
 unfold Builtin.Slice.sliceAdjust;simp only[h1,if_false];refine Prod.ext ?_ ?_
 .cases lo with
  |none=>rfl
  |some v=>exact znj v n 0
 .cases hi with
  |none=>rfl
  |some v=>exact znj v n n
theorem zjp(i j:Nat):Builtin.Slice.slicePlaces (i:Int) (j:Int) 1=j-i:=by
 unfold Builtin.Slice.slicePlaces;have h1:(1:Int)>0:=by lia
 simp only[h1,if_true,Int.ediv_one];split<;>lia
theorem ze2{v:Value}{o:a7 Int}{Q:a7 Int->Shared->Prop}(p:IsPart v o)(h:Q o s):wpAny (model prog w) A (Builtin.Slice.slicePartIndex v) Q E s:=by
 cases p with
 |none=>exact slicePart_none h
 |int i t=>exact slicePart_int h
theorem zb9{n:Nat}{Q:Int×Int×Nat->Shared->Prop}(hs:s.heap.IsSliceOf sl vl vu .none)(pl:IsPart vl lo)(pu:IsPart vu hi)(h:Q (((yam n 0 lo:Nat):Int),1,yam n n hi-yam n 0 lo) s):wpAny (model prog w) A (Builtin.Slice.sliceApplied (.ref sl) (pure (n:Int))) Q E s:=by
 obtain⟨os,hos,hcs,hds⟩:=id hs;unfold Builtin.Slice.sliceApplied Builtin.Slice.sliceFields;refine zxq (zxq (ub4 hos hds (x:=vl) rfl (zxq (ub4 hos hds (x:=vu) rfl (zxq (ub4 hos hds (x:=.none) rfl (zxs ?_)))))));refine zxq (slicePart_none ?_);show wpAny _ _ (if((1:Int)==0)=true then _ else _) _ _ s;rw[if_neg (by decide)];refine zxq (ze2 pl (zxq (ze2 pu (zxq (zxs ?_)))));show wpAny _ _ (match Builtin.Slice.sliceAdjust lo hi 1 (n:Int)with|(lo,hi)=>pure (lo,(1:Int),Builtin.Slice.slicePlaces lo hi 1)) _ _ s;rw[zjz lo hi n];show wpAny _ _ (pure (((yam n 0 lo:Nat):Int),(1:Int),Builtin.Slice.slicePlaces ((yam n 0 lo:Nat):Int) ((yam n n hi:Nat):Int) 1)) _ _ s;rw[zjp];exact zxs h
theorem zoc(xs:Array Value)(i k:Nat):((List.range k).filterMap fun(m:Nat)=>xs[((i:Int)+(m:Int)*1).toNat]?).toArray=((xs.toList.drop i).take k).toArray:=by
 have e:(fun(m:Nat)=>xs[((i:Int)+(m:Int)*1).toNat]?)=fun m=>xs[i+m]?:=by
  funext m;have:((i:Int)+(m:Int)*1).toNat=i+m:=by lia
  rw[this]
 rw[e];have:=pick_run xs i k;rw[List.filterMap_map]at this;have e2:((fun x=>xs[x]?)∘fun x=>i+x)=fun m=>xs[i+m]?:=rfl;rw[e2]at this;rw[this]
theorem getItem_tuple_cut{items:Array Value}(ht:IsTup s.heap t items)(hs:s.heap.IsSliceOf sl vl vu .none)(pl:IsPart vl lo)(pu:IsPart vu hi)(hw:¬(yam items.size 0 lo=0/\yam items.size items.size hi=items.size))(h:Q (.ref s.heap.objs.size) {s with heap:=s.heap.push {cls:=.type "tuple",data:=.seq ((items.toList.drop (yam items.size 0 lo)).take (yam items.size items.size hi-yam items.size 0 lo)).toArray} })(hsz:items.size<=sizeLine):wpAny (model prog w) A (getItem (.ref t) (.ref sl)) Q E s:=by
 have htake:sizeOk (.seq ((items.toList.drop (yam items.size 0 lo)).take (yam items.size items.size hi-yam items.size 0 lo)).toArray):=by show((items.toList.drop (yam items.size 0 lo)).take (yam items.size items.size hi-yam items.size 0 lo)).toArray.size<=sizeLine;rw[zyl,zy3,ue0,zx1];lia
 have hj:yam items.size items.size hi<=items.size:=ztb _ _ (zx3 _) hi;obtain⟨os,hos,hcs,hds⟩:=id hs;have hTs:s.TypeIs (.ref sl) "slice":=⟨os,hos,hcs⟩;unfold getItem
 try with_reducible refine uc2 ?_
 first|refine zxq (zxs ?_)|skip
 refine zxq (wpAny_sequenceKey ht.typeIs (by decide) ?_);refine zxq (zyf (name:=Str.ofString "__getitem__") ht.typeIs PyProof.Rows.slot_tuple_getitem
  (zyd PyProof.Rows.slot_tuple_getitem ht.typeIs entry_tuple_getitem ?_ (args_tuple_getitem _ _)))
 show wpAny _ _ (Builtin.Tuple.tupleItemsOf (.ref t) >>= _) _ _ s;refine zxq (tupleItemsOf_ ht ?_);refine zxq (wpAny_typeOf hTs ?_);rw[if_pos (by decide)];refine zxq (zb9 hs pl pu ?_);have hno:¬((((yam items.size 0 lo:Nat):Int)==0&&(1:Int)==1&&(yam items.size items.size hi-yam items.size 0 lo)==items.size)=true):=by intro q;rw[zxw,zxw]at q;have q1:((yam items.size 0 lo:Nat):Int)=0:=ua2 q.1.1;have q2:yam items.size items.size hi-yam items.size 0 lo=items.size:=ua2 q.2;exact hw ⟨by lia,by lia⟩
 show wpAny _ _ (if(((yam items.size 0 lo:Nat):Int)==0&&(1:Int)==1&&(yam items.size items.size hi-yam items.size 0 lo)==items.size)=true then _ else _) _ _ s;rw[if_neg hno,zoc]
 first
  |exact zxq (m:=Builtin.Tuple.tupleExact _) (zyj (zxs ⟨_,rfl,zxs h⟩) htake)
  |exact zxq (m:=Builtin.Tuple.tupleExact _) (zyj (zxq (zxs (zxs ⟨_,rfl,zxs h⟩))) htake)
  |exact zxq (zxq (m:=Builtin.Tuple.tupleExact _) (zyj (zxs (zxs ⟨_,rfl,zxs h⟩)) htake))
  |exact zxq (zxq (m:=Builtin.Tuple.tupleExact _) (zyj (zxs ⟨_,rfl,zxs h⟩) htake))
theorem get_whole{zs:Array Value}(ht:IsTup s.heap t zs)(hs:s.heap.IsSliceOf sl vl vu .none)(pl:IsPart vl lo)(pu:IsPart vu hi)(hw:yam zs.size 0 lo=0/\yam zs.size zs.size hi=zs.size)(h:Q (.ref t) s):wpAny (model prog w) A (getItem (.ref t) (.ref sl)) Q E s:=by
 obtain⟨os,hos,hcs,hds⟩:=id hs;have hT:s.TypeIs (.ref sl) "slice":=⟨os,hos,hcs⟩;unfold getItem
 try with_reducible refine uc2 ?_
 first|refine zxq (zxs ?_)|skip
 refine zxq (wpAny_sequenceKey ht.typeIs (by decide) ?_);refine zxq (zyf (name:=Str.ofString "__getitem__") ht.typeIs PyProof.Rows.slot_tuple_getitem (zyd PyProof.Rows.slot_tuple_getitem ht.typeIs PyProof.Rows.entry_tuple_getitem ?_ (PyProof.Rows.args_tuple_getitem _ _)));show wpAny _ _ (Builtin.Tuple.tupleItemsOf (.ref t) >>= _) _ _ s;refine zxq (tupleItemsOf_ ht ?_);refine zxq (wpAny_typeOf hT ?_);rw[if_pos (by decide)];refine zxq (zb9 hs pl pu ?_);have hyes:(((yam zs.size 0 lo:Nat):Int)==0&&(1:Int)==1&&(yam zs.size zs.size hi-yam zs.size 0 lo)==zs.size)=true:=by rw[hw.1,hw.2];simp
 show wpAny _ _ (if(((yam zs.size 0 lo:Nat):Int)==0&&(1:Int)==1&&(yam zs.size zs.size hi-yam zs.size 0 lo)==zs.size)=true then _ else _) _ _ s;rw[if_pos hyes];refine zxq (show wpAny _ _ (Builtin.Tuple.tupleIsExact (.ref t)) _ _ s from ?_);unfold Builtin.Tuple.tupleIsExact;refine zxq (wpAny_typeOf ht.typeIs (zxs ?_));simp only[beq_self_eq_true,if_true];exact zxq (wpAny_rule (zxs ⟨_,rfl,zxs h⟩))
theorem zgf(lo hi:a7 Int)(n:Nat):(sliceBounds lo hi none n).1=((yam n 0 lo:Nat):Int)/\(sliceBounds lo hi none n).2.1=((yam n n hi:Nat):Int)/\(sliceBounds lo hi none n).2.2=1:=by
 refine⟨?_,?_,rfl⟩
 .cases lo with
  |none=>simp[sliceBounds,yam]
  |some i=>
   simp only[sliceBounds,yam,Option.getD_none,show(1:Int)>0 by decide,if_true];by_cases h:i<0
   .simp only[h,if_true]<;>lia
   .simp only[h,if_false]<;>lia
 .cases hi with
  |none=>simp[sliceBounds,yam]
  |some i=>
   simp only[sliceBounds,yam,Option.getD_none,show(1:Int)>0 by decide,if_true];by_cases h:i<0
   .simp only[h,if_true]<;>lia
   .simp only[h,if_false]<;>lia
theorem slicePick_cut(qc:List Value)(lo hi:a7 Int):slicePick qc.toArray lo hi none=((qc.drop (yam qc.length 0 lo)).take (yam qc.length qc.length hi-yam qc.length 0 lo)).toArray:=by obtain⟨h1,h2,h3⟩:=zgf lo hi qc.toArray.size;unfold slicePick;rw[h1,h2,h3];simp only[sliceRange_one,pick_run,List.size_toArray]<;>rfl
theorem foldl_rep(qc:List Value):∀(k:Nat)(acc:List Value),List.foldl (fun x1 x2=>x1++x2) acc.toArray (List.replicate k qc.toArray)=(acc++(List.replicate k qc).flatten).toArray
 |0,acc=>by simp
 |k+1,acc=>by
  have e:acc.toArray++qc.toArray=(acc++qc).toArray:=by simp
  have e2:(acc++qc)++(List.replicate k qc).flatten=acc++(List.replicate (k+1) qc).flatten:=by rw[List.replicate_succ,List.flatten_cons,zyz]
  rw[<-e2,<-foldl_rep qc k (acc++qc),<-e,List.replicate_succ,List.foldl_cons]
end
end HT
section
namespace Nb
open PySem Spec PyProof.Rows Ev
variable {n:Nat}{qc:Array Value}
theorem zcp(h:n<=SZ):n<=sizeLine:=zyc h (by rw[ub5];exact zx3 _)
theorem Reps.app{F:Fz}{w:World}:∀{ts us:List T}{a b:List Value},Reps w F ts a->Reps w F us b->Reps w F (ts++us) (a++b)
 |[],_,_,_,h,q=>by cases h;exact q
 |_::_,_,_,_,⟨_,_,e,h1,h2⟩,q=>by subst e;exact .cons h1 (h2.app q)
theorem Reps.take{F:Fz}{w:World}:∀{ts:List T}{a:List Value}(n:Nat),Reps w F ts a->Reps w F (ts.take n) (a.take n)
 |_,_,0,_=>rfl
 |[],_,_+1,h=>by cases h;rfl
 |_::_,_,n+1,⟨_,_,e,h1,h2⟩=>by subst e;exact .cons h1 (h2.take n)
theorem Reps.drop{F:Fz}{w:World}:∀{ts:List T}{a:List Value}(n:Nat),Reps w F ts a->Reps w F (ts.drop n) (a.drop n)
 |_,_,0,h=>h
 |[],_,_+1,h=>by cases h;rfl
 |_::_,_,n+1,⟨_,_,e,h1,h2⟩=>by subst e;exact h2.drop n
theorem Reps.rep{F:Fz}{w:World}{ts:List T}{us:List Value}(h:Reps w F ts us):∀k:Nat,Reps w F (List.replicate k ts).flatten (List.replicate k us).flatten
 |0=>rfl
 |k+1=>by rw[List.replicate_succ,List.replicate_succ,List.flatten_cons,List.flatten_cons];exact h.app (h.rep k)
variable {Y:Yc}{N:Str->Nat->Prop}{F G:Fz}{s s1:Shared}{r:Ev.Env}{E:Value->Shared->Prop}{a b e:Expr}{f g h:Ev.Env->a7 T}{pos p2:Pos}{u v:Value}{ts us:List T}
theorem zl8{k:Nat}(h:F.In s.heap)(q:Reps Y.w F ts qc.toList)(z:qc.size<=sizeLine):Res Y.w F s (.tup ts) (.ref s.heap.objs.size) {s with heap:=s.heap.push {cls:=.type "tuple",data:=.seq qc},toks:=k}:=zds (us:=qc.toList) h q (by simpa using z)
theorem zl9{k:Nat}(h:F.In s.heap)(q:Reps Y.w F ts qc.toList)(z:qc.size<=sizeLine):Res Y.w F s (.lst ts) (.ref s.heap.objs.size) {s with heap:=s.heap.push {cls:=.type "list",data:=.seq qc},toks:=k}:=zdt (us:=qc.toList) h q (by simpa using z)
theorem zto{a b:Addr}{oa ob:Obj}{xs ys:Array Value}{m:Nat}(hF:F.In s.heap)(h1:F a=some oa)(c1:oa.cls=.type "tuple")(d1:oa.data=.seq xs n)(h2:F b=some ob)(c2:ob.cls=.type "tuple")(d2:ob.data=.seq ys m)(r1:Reps Y.w F ts xs.toList)(r2:Reps Y.w F us ys.toList)(hx:xs.size<=sizeLine)(hy:ys.size<=sizeLine)(hz:xs.size+ys.size<=sizeLine):wpAny Y.M Y.A (binaryOp .Add (.ref a) (.ref b)) (Res Y.w F s (.tup (ts++us))) E s:=by
 have ha:=hF _ _ h1;have hb:=hF _ _ h2;obtain⟨cls,dd,data,sl⟩:=oa;obtain⟨cls2,dd2,data2,sl2⟩:=ob;simp only at c1 d1 c2 d2;subst c1 d1 c2 d2;by_cases hxs:xs.toList=[]
 .have e:xs=#[]:=by simpa using hxs
  subst e;cases ts with
  |nil=>exact concat_meets ⟨_,ha,rfl⟩ ⟨_,hb,rfl⟩ noFill_tuple_add seq_tuple_add PySem.F.slot_tuple_add PySem.F.entry_tuple_add (PySem.F.args_tuple_add_2 _ _) (tuple_addW0 a b _ _ n m dd dd2 sl sl2 (by simp)) ⟨ha,hb,zat hF ⟨b,_,ys,m,rfl,h2,rfl,rfl,hy,r2⟩⟩
  |cons _ _=>obtain⟨_,_,e,_⟩:=r1;cases e
 .refine HT.cat_tup (vs:=xs.toList) (ws:=ys.toList) ⟨_,ha,rfl,n,rfl⟩ ⟨_,hb,rfl,m,rfl⟩ hxs (fun hw=>?_) (fun _=>?_) (by simpa using hz)
  .cases us with
   |nil=>rw[zy0];exact zax hF ⟨a,_,xs,n,rfl,h1,rfl,rfl,hx,r1⟩
   |cons _ _=>obtain⟨_,_,e,_⟩:=r2;rw[hw]at e;cases e
  .exact zds (k:=s.toks) hF (r1.app r2) (by simpa using hz)
theorem zp2:Op2 Y (binaryOp .Add) yd8:=fun{s F x y t u v E}S hx hy h=>by
 cases x with
 |int i=>cases y with
  |int j=>cases h;obtain⟨_,rfl⟩:=hx;obtain⟨_,rfl⟩:=hy;exact add_int (zat S.fh ⟨_,rfl⟩)
  |_=>cases h
 |lst i=>cases y with
  |lst j=>
   replace h:(if i.length+j.length<=SZ then some (T.lst (i++j))else none)=some t:=h;split at h
   .rename_i hz;cases h;obtain⟨a,xs,n,rfl,h1,z1,r1⟩:=hx;obtain⟨b,ys,m,rfl,h2,z2,r2⟩:=hy;have hz:xs.size+ys.size<=sizeLine:=by rw[zbf r1,zbf r2];exact zcp hz
    exact PySem.P.add_list (S.fh _ _ h1) (S.fh _ _ h2) (zl9 (k:=s.toks) S.fh (by simpa using r1.app r2) (by simpa using hz)) hz
   .cases h
  |_=>cases h
 |tup i=>cases y with
  |tup j=>
   replace h:(if i.length+j.length<=SZ then some (T.tup (i++j))else none)=some t:=h;split at h
   .rename_i hz;cases h;obtain⟨a,oa,xs,n,rfl,h1,c1,d1,z1,r1⟩:=hx;obtain⟨b,ob,ys,m,rfl,h2,c2,d2,z2,r2⟩:=hy;exact zto S.fh h1 c1 d1 h2 c2 d2 r1 r2 z1 z2 (by rw[zbf r1,zbf r2];exact zcp hz)
   .cases h
  |_=>cases h
 |_=>cases h
theorem zsb{a:Addr}{k:Int}{t:Tok}(hF:F.In s.heap)(h1:F a=some {cls:=.type "list",data:=.seq qc n})(r:Reps Y.w F ts qc.toList)(k0:0<=k)(k1:k<=1000)(hl:ts.length<=1000):wpAny Y.M Y.A (binaryOp .Mult (.ref a) (.int k t)) (Res Y.w F s (.lst (List.replicate k.toNat ts).flatten)) E s:=by
 have e:=hF _ _ h1;have hz:qc.size*k.toNat<=1000000:=by rw[zbf r];exact Nat.mul_le_mul hl (show k.toNat<=1000 by lia)
 have hsz:(1000000:Nat)<=sizeLine:=by decide
 have e63:(2:Int) ^ 63=9223372036854775808:=by decide
 have hfit:¬(!Builtin.List.listFitsIndex k)=true:=by rw[fitsIndex_both (by rw[e63];lia) (by rw[e63];lia)];exact zys
 have hlong:¬Builtin.List.listTooLong (qc.size*k.toNat)=true:=by unfold Builtin.List.listTooLong;simp;lia
 have hnew:List.foldl (fun x1 x2=>x1++x2) #[] (List.replicate (if qc.isEmpty=true then 0 else k.toNat) qc)=(List.replicate k.toNat qc.toList).flatten.toArray:=by
  have f0:∀m:Nat,List.foldl (fun x1 x2=>x1++x2) #[] (List.replicate m qc)=(List.replicate m qc.toList).flatten.toArray:=fun m=>by have:=HT.foldl_rep qc.toList m [];rw[List.nil_append]at this;exact this
  rw[f0];rcases qc with⟨qc⟩;cases qc with
  |nil=>simp
  |cons a r'=>rw[if_neg (by simp)]
 refine wpAny_binaryOp_repeat_ref (T:="list") (U:="int") (by decide) ⟨_,e,rfl⟩ (fun s'=>typeIs_int s' k t) noFill_list_mul PySem.F.fills_int_mul PySem.F.slot_int_rmul repeat_list PySem.F.slot_int_index.lookup
  (call_meets PySem.F.slot_int_rmul (typeIs_int s k t) PySem.F.entry_int_rmul (PySem.F.args_int_rmul_2 _ _) (int___rmul___int_list k t a qc n)
   ⟨e,rfl,⟨_,e,rfl⟩,call_meets PySem.F.slot_list_mul ⟨_,e,rfl⟩ PySem.F.entry_list_mul (PySem.F.args_list_mul_2 _ _) (AutoListH.list___mul___list_int_3 a qc n k t hfit (by lia) hlong) ⟨e,?_⟩⟩)
 rw[hnew];refine zdt (k:=s.toks) hF (r.rep k.toNat) ?_;rw[(r.rep k.toNat).length];have:(List.replicate k.toNat ts).flatten.length=k.toNat*ts.length:=by simp
 rw[this,Nat.mul_comm,<-zbf r];lia
theorem zuv:Op2 Y (binaryOp .Mult) mulT:=fun{s F x y t u v E}S hx hy h=>by
 cases x with
 |int i=>cases y with
  |int j=>
   replace h:(if(ybu i||ybu j)=true then some (T.int (i*j))else none)=some t:=h;split at h
   .rename_i hz;cases h;obtain⟨_,rfl⟩:=hx;obtain⟨_,rfl⟩:=hy;refine mul_int (zat S.fh ⟨_,rfl⟩) ?_;rw[Bool.or_eq_true]at hz;have e64:(2:Int) ^ 64=18446744073709551616:=by decide
    rcases hz with hz|hz<;>simp only[ybu,Bool.and_eq_true,decide_eq_true_eq]at hz
    .exact .of_left (intBits_le_64 (by rw[e64];exact hz.1) (by rw[e64];exact hz.2))
    .exact .of_right (intBits_le_64 (by rw[e64];exact hz.1) (by rw[e64];exact hz.2))
   .cases h
  |_=>cases h
 |lst i=>cases y with
  |int j=>
   replace h:(if 0<=j/\j<=1000/\i.length<=1000 then some (T.lst (List.replicate j.toNat i).flatten)else none)=some t:=h;split at h
   .rename_i hz;cases h;obtain⟨a,xs,n,rfl,h1,z1,r1⟩:=hx;obtain⟨_,rfl⟩:=hy;exact zsb S.fh h1 r1 hz.1 hz.2.1 hz.2.2
   .cases h
  |_=>cases h
 |_=>cases h
theorem zr1:Op2 Y (binaryOp .FloorDiv) yei:=fun{s F x y t u v E}S hx hy h=>by
 cases x with
 |int i=>cases y with
  |int j=>
   replace h:(if 0<j/\j<1073741824 then some (T.int (i/j))else none)=some t:=h;split at h
   .cases h;obtain⟨_,rfl⟩:=hx;obtain⟨_,rfl⟩:=hy;exact floordiv_int (by lia) (by rw[Int.fdiv_eq_ediv_of_nonneg i (by lia)];exact zat S.fh ⟨_,rfl⟩) (.inl (PyProof.noPylong_small (by lia)))
   .cases h
  |_=>cases h
 |_=>cases h
theorem zuw:Op2 Y (binaryOp .Mod) modT:=fun{s F x y t u v E}S hx hy h=>by
 cases x with
 |int i=>cases y with
  |int j=>
   replace h:(if 0<j then some (T.int (i%j))else none)=some t:=h;split at h
   .cases h;obtain⟨_,rfl⟩:=hx;obtain⟨_,rfl⟩:=hy;exact mod_int' (by lia) (by rw[Int.fmod_eq_emod_of_nonneg i (by lia)];exact zat S.fh ⟨_,rfl⟩)
   .cases h
  |_=>cases h
 |_=>cases h
end Nb
section
namespace Nb
open PySem Spec PyProof.Rows Ev
mutual
def drT:T->Nat
 |.tup xs=>ycz xs+1
 |_=>1
def ycz:List T->Nat
 |[]=>0
 |x::r=>drT x+ycz r
end
theorem zi6:∀a b:List T,ycz (a++b)=ycz a+ycz b
 |[],b=>by simp[ycz]
 |x::a,b=>by simp[ycz,zi6 a b,Nat.add_assoc]
theorem zdf{w:World}:∀a b:List T,yaq w (a++b)=yaq w a++yaq w b
 |[],b=>by simp[yaq]
 |x::a,b=>by simp[yaq,zdf a b]
variable {prog:Program}{w:World}{F:Fz}{E:Value->Shared->Prop}
theorem zeg:∀(n:Nat)(t:T){A:Around}{s:Shared}{v:Value}{Q:Int->Shared->Prop},yao n t=true->A.units+n<cLine->F.In s.heap->Rep w F t v->Q (yba w t) {s with toks:=s.toks+drT t}->wpAny (model prog w) A (pyHash v) Q E s:=fun n=>by
 induction n with
 |zero=>
  intro t A s v Q hk hA hF r q;cases t with
  |int i=>obtain⟨_,rfl⟩:=r;exact wpAny_pyHash_int q
  |str i=>obtain⟨_,rfl⟩:=r;exact wpAny_pyHash_str q
  |_=>simp[yao]at hk
 |succ n ih=>
  intro t A s v Q hk hA hF r h;cases t with
  |int i=>obtain⟨_,rfl⟩:=r;exact wpAny_pyHash_int h
  |str i=>obtain⟨_,rfl⟩:=r;exact wpAny_pyHash_str h
  |tup ts=>
   have hk:∀x∈ts,yao n x=true:=by simpa[yao]using hk
   obtain⟨a,o,items,m,rfl,f1,hc,hd,_,rs⟩:=r;have ho:=hF _ _ f1;have hT:s.TypeIs (.ref a) "tuple":=⟨o,ho,hc⟩;unfold pyHash
   first|unfold pyHashByItsType|skip
   first|refine zxq (wpAny_cRoomFor_or (.inr (by lia)) ?_)|skip
   refine zxq (wpAny_specialOf hT PySem.F.slot_tuple_hash.lookup ?_);show wpAny _ _ (if(some (Value.builtin "tuple.__hash__")==some Value.none)=true then _ else _) Q E s;rw[if_neg (by rw[beq_builtin_none];exact zys)];refine zxq (wpAny_specialOf hT PySem.F.slot_tuple_hash.lookup ?_);show wpAny _ _ (callSpecialIfBoundUnlessNone? (.ref a) "__hash__" _ >>= _) Q E s;refine zxq (wpAny_callSpecialIfBoundUnlessNone?_slot hT PySem.F.slot_tuple_hash (zyd PySem.F.slot_tuple_hash hT PySem.F.entry_tuple_hash ?_ (PySem.F.args_tuple_hash_1 _)));show wpAny _ _ (Builtin.Tuple.tupleItemsOf (.ref a) >>= _) _ _ s;refine zxq (wpAny_tupleItemsOf ho hd ?_);refine zxq ?_;rw[<-Array.forIn_toList];refine wpAny_forIn_list _
    (fun rest(b:Array Int)s'=>∃dn left,ts=dn++left/\Reps w F left rest/\b.toList=yaq w dn/\s'={s with toks:=s.toks+ycz dn})
    _ ?_ ?_ _ _ ⟨[],ts,rfl,rs,rfl,rfl⟩
   .rintro x rest b s' ⟨dn,left,rfl,hl,hb,rfl⟩;cases left with
    |nil=>cases hl
    |cons k left=>
     obtain⟨u,r',e,h1,h2⟩:=hl;cases e;refine wpAny_bind (ih k (hk k (by simp)) (show A.units+1+n<cLine by lia) hF h1 ?_);have fin:∃dn' left',dn++k::left=dn'++left'/\Reps w F left' rest/\(b.push (yba w k)).toList=yaq w dn'/\({s with toks:=s.toks+ycz dn+drT k}:Shared)={s with toks:=s.toks+ycz dn'}:=⟨dn++[k],left,by simp,h2,by rw[Array.toList_push,hb,zdf];rfl,by rw[zi6];simp[ycz,Nat.add_assoc]⟩
     first
      |exact zxs fin
      |exact zxq (zxs (zxs fin))
   .rintro b s' ⟨dn,left,rfl,hl,hb,rfl⟩;cases left with
    |cons _ _=>obtain⟨_,_,e,_⟩:=hl;cases e
    |nil=>
    rw[zy0]at h;show wpAny _ _ (retInt (Builtin.Tuple.tupleHashOf b.toList)) _ _ _;rw[hb];refine wpAny_ret_mkInt ?_;show wpAny _ _ (if(decide (-(2:Int) ^ 63<=Builtin.Tuple.tupleHashOf (yaq w dn))&&decide (Builtin.Tuple.tupleHashOf (yaq w dn)<2 ^ 63))=true then _ else _) Q E _;rw[yba,drT]at h;unfold reduceHash at h;by_cases hr:(decide (-(2:Int) ^ 63<=Builtin.Tuple.tupleHashOf (yaq w dn))&&decide (Builtin.Tuple.tupleHashOf (yaq w dn)<2 ^ 63))=true
    .rw[if_pos hr];rw[if_pos hr]at h;exact wpAny_pure (by simpa[Nat.add_assoc]using h)
    .rw[if_neg hr];rw[if_neg hr]at h;exact wpAny_bind (wpAny_rule (wpAny_pure (by simpa[Nat.add_assoc]using h)))
  |_=>simp[yao]at hk
theorem zn7:∀(n m:Nat)(t:T){A:Around}{s:Shared}{v:Value}{Q:Bool->Shared->Prop},yao n t=true->n<=m->F.In s.heap->Rep w F t v->Q true s->wpAny (model prog w) A (eqIsQuiet m v) Q E s:=fun n=>by
 induction n with
 |zero=>
  intro m t A s v Q hk hm hF r q;cases t with
  |int i=>obtain⟨_,rfl⟩:=r;rw[eqIsQuiet_byValue _ rfl];exact zxs q
  |str i=>obtain⟨_,rfl⟩:=r;rw[eqIsQuiet_byValue _ rfl];exact zxs q
  |_=>simp[yao]at hk
 |succ n ih=>
  intro m t A s v Q hk hm hF r h;cases t with
  |int i=>obtain⟨_,rfl⟩:=r;rw[eqIsQuiet_byValue _ rfl];exact zxs h
  |str i=>obtain⟨_,rfl⟩:=r;rw[eqIsQuiet_byValue _ rfl];exact zxs h
  |tup ts=>
   have hk:∀x∈ts,yao n x=true:=by simpa[yao]using hk
   obtain⟨m,rfl⟩:∃k,m=k+1:=⟨m-1,by lia⟩;obtain⟨a,o,items,_,rfl,f1,hc,hd,_,rs⟩:=r;have ho:=hF _ _ f1;have hT:s.TypeIs (.ref a) "tuple":=⟨o,ho,hc⟩;unfold eqIsQuiet;refine zxq (wpAny_specialOf hT PySem.F.slot_tuple_eq.lookup ?_);show wpAny _ _ (isInstance (.ref a) (.type "tuple") >>= _) _ _ s;refine zxq (wpAny_isInstance hT isSubtype_tuple_tuple ?_);simp only[Bool.not_true,Bool.false_eq_true,if_false];refine zxq (uc9 ho hd ?_);refine zxq ?_;show wpAny _ _ (forIn items _ _) _ _ s;rw[<-Array.forIn_toList];refine wpAny_forIn_list _ (fun rest r s'=>r.1=none/\s'=s/\∃left,Reps w F left rest/\∀x∈left,yao n x=true) _ ?_ ?_ _ _ ⟨rfl,rfl,ts,rs,hk⟩
   .rintro v rest r s' ⟨hr,rfl,left,hl,hall⟩;cases left with
    |nil=>cases hl
    |cons k left=>obtain⟨u,r',e,h1,h2⟩:=hl;cases e;refine zxq (ih m k (hall k zyo) (by lia) hF h1 ?_);simp only[Bool.not_true,Bool.false_eq_true,if_false];exact zxs ⟨rfl,rfl,left,h2,fun u hu'=>hall u (zyh _ hu')⟩
   .rintro⟨r1,r2⟩ s' ⟨hr,rfl,_⟩;simp only at hr;subst hr;exact zxs h
  |_=>simp[yao]at hk
open Classical in
instance:DecidableEq T:=Classical.typeDecidableEq T
theorem ziq:∀(n:Nat)(x y:T),yao n x=true->yao n y=true->dpP x y<=n/\Ev.eqT x y=decide (x=y):=fun n=>by
 induction n with
 |zero=>intro x y hx hy;cases x<;>cases y<;>first|(simp[yao]at hx hy;done)|(rename_i a b;exact⟨Nat.zero_le _,by by_cases h:a=b<;>simp[Ev.eqT,h]⟩)|exact⟨Nat.zero_le _,by simp[Ev.eqT]⟩
 |succ n ih=>
  intro x y hx hy;have two:∀xs ys:List T,(∀x∈xs,yao n x=true)->(∀y∈ys,yao n y=true)->ya9 xs ys<=n/\eqTs xs ys=decide (xs=ys):=fun xs=>by
   induction xs with
   |nil=>intro ys _ _;cases ys<;>simp[ya9,eqTs]
   |cons x xs ih2=>
    intro ys hx hy;cases ys with
    |nil=>simp[ya9,eqTs]
    |cons y ys=>obtain⟨a1,a2⟩:=ih x y (hx _ (by simp)) (hy _ (by simp));obtain⟨b1,b2⟩:=ih2 ys (fun z hz=>hx z (by simp[hz])) (fun z hz=>hy z (by simp[hz]));rw[ya9,eqTs,a2,b2];exact⟨Nat.max_le.mpr ⟨a1,b1⟩,by by_cases h1:x=y<;>by_cases h2:xs=ys<;>simp[h1,h2]⟩
  cases x<;>cases y<;>first
   |(simp[yao]at hx hy;done)
   |(rename_i xs ys;rw[dpP,Ev.eqT];obtain⟨a,b⟩:=two xs ys (by simpa[yao]using hx) (by simpa[yao]using hy);exact⟨by lia,by rw[b];by_cases h:xs=ys<;>simp[h]⟩)
   |(rename_i a b;exact⟨Nat.zero_le _,by by_cases h:a=b<;>simp[Ev.eqT,h]⟩)
   |exact⟨Nat.zero_le _,by simp[Ev.eqT]⟩
def yd7(w:World)(h:Heap)(t:T)(a:Addr):Prop:=isK t=true/\Rep w (fun b=>h.get? b) t (.ref a)
theorem zbx{t:T}(h:isK t=true):yao 4 t=true:=by
 cases t with
 |tup xs=>simpa[isK,yao]using h
 |_=>simp[isK]at h
theorem yfp{F G:Fz}(k:∀b o,F b=some o->(∀es ep,o.data≠.dict es ep)->G b=some o):∀(n:Nat)(t:T){v:Value},yao n t=true->Rep w F t v->Rep w G t v:=fun n=>by
 induction n with
 |zero=>intro t v hk r;cases t<;>first|exact r|(simp[yao]at hk;done)
 |succ n ih=>
  intro t v hq r;cases t with
  |tup ts=>
   have hk:∀x∈ts,yao n x=true:=by simpa[yao]using hq
   obtain⟨a,o,qc,m,e,f,c,d,z,r⟩:=r;refine⟨a,o,qc,m,e,k _ _ f (fun _ _ w=>by rw[d]at w;cases w),c,d,z,?_⟩;clear e f d z hq
   induction ts generalizing qc with
   |nil=>exact r
   |cons t ts ih2=>obtain⟨u,r',e,r1,r2⟩:=r;have:=ih2 (fun x hx=>hk x (by simp[hx])) r'.toArray (by simpa using r2);exact⟨u,r',e,ih t (hk t (by simp)) r1,by simpa using this⟩
  |int _=>exact r
  |str _=>exact r
  |_=>simp[yao]at hq
def zhy(prog:Program)(w:World):HeapKind prog w T where
 is:=yd7 w
 hash:=yba w
 draws:=drT
 room:=fun A=>A.units+50<cLine
 inj:=fun hx hy=>hx.2.inj hy.2
 keeps:=fun{h h' k a d o es ep}x ho hd hs=>⟨x.1,yfp (fun b o' e c=>(hs.2 b fun z=>by subst z;rw[ho]at e;cases e;exact c _ _ hd).trans e) 4 k (zbx x.1) x.2⟩
 pyHash:=fun hu hk h=>zeg (F:=fun b=>_) 4 _ (zbx hk.1) (by lia) (fun _ _ e=>e) hk.2 h
 eqBool:=fun{A E s x y a b Q}hu hx hy h=>by obtain⟨d1,d2⟩:=ziq 4 x y (zbx hx.1) (zbx hy.1);exact zm6 (F:=fun b=>s.heap.get? b) (fun _ _ e=>e) 4 A x y _ _ (by lia) d1 hx.2 hy.2 _ _ _ _ (by rw[d2];exact h)
 quiet:=fun hk h=>zn7 (F:=fun b=>_) 4 8 _ (zbx hk.1) (by lia) (fun _ _ e=>e) hk.2 h
end Nb
section
namespace Nb
open PySem Spec PyProof.Rows Ev
variable {prog:Program}{w:World}{F G:Fz}{A:Around}{E:Value->Shared->Prop}{s:Shared}{d b:Addr}{k:T}{ks:List T}{us:List Value}{es:Array DictEntry}{v u kv:Value}{o:Obj}{ep:Nat}
def ixK(ks:List T)(k:T):a7 Nat:=ks.findIdx? fun x=>Ev.eqT x k
theorem zmt:ybv ks k=(ixK ks k).isSome:=by unfold ybv ixK;rw[List.findIdx?_isSome]
theorem za2{β:Type}:∀{ks:List T}{us:List β},us.length=ks.length->yae ks us k=(ixK ks k).bind fun i=>us[i]?
 |[],us,_=>by cases us<;>rfl
 |x::ks,[],h=>by cases h
 |x::ks,u::us,h=>by
  have ih:=za2 (ks:=ks) (us:=us) (by simpa using h);unfold ixK at ih ⊢;rw[yae,List.findIdx?_cons];by_cases z:Ev.eqT x k=true
  .simp[z]
  .rw[if_neg z,if_neg z,ih];cases List.findIdx? (fun x=>Ev.eqT x k) ks<;>rfl
theorem zcc{β:Type}{x:β}:∀{ks:List T}{us:List β},us.length=ks.length->yap ks us k x=match ixK ks k with
  |some i=>us.set i x
  |none=>us++[x]
 |[],us,h=>by cases us<;>first|rfl|cases h
 |y::ks,[],h=>by cases h
 |y::ks,u::us,h=>by
  have ih:=zcc (x:=x) (ks:=ks) (us:=us) (by simpa using h);unfold ixK at ih ⊢;rw[yap,List.findIdx?_cons];by_cases z:Ev.eqT y k=true
  .simp[z]
  .rw[if_neg z,if_neg z,ih];cases List.findIdx? (fun x=>Ev.eqT x k) ks<;>rfl
theorem zcz:yad ks k=match ixK ks k with
  |some _=>ks
  |none=>ks++[k]:=by unfold yad;rw[zmt];cases ixK ks k<;>rfl
theorem zio(h:yac ks k=true):(isS k=true/\∀x∈ks,isS x=true)\/(isK k=true/\∀x∈ks,isK x=true):=by unfold yac at h;rw[Bool.or_eq_true,zxw,zxw,uc1,uc1]at h;exact h
theorem yfx(h:yac ks k=true):yao 4 k=true:=by
 rcases zio h with⟨h,_⟩|⟨h,_⟩
 .cases k<;>first|rfl|cases h
 .exact zbx h
theorem zqe{k:T}(h:isS k=true):∃x,k=.str x:=by cases k<;>first|exact⟨_,rfl⟩|cases h
theorem Reps.ix:∀{ts:List T}{us:List Value}{i:Nat}(r:Reps w F ts us)(h:i<us.length),∃t,ts[i]?=some t/\Rep w F t us[i]
 |[],_,_,r,h=>by cases r;cases h
 |t::ts,_,0,⟨u,r,e,r1,_⟩,h=>by subst e;exact⟨t,rfl,r1⟩
 |t::ts,_,i+1,⟨u,r,e,_,r2⟩,h=>by subst e;exact r2.ix (by simpa using h)
theorem zfc:∀{ts:List T}{i:Nat},(yaq w ts)[i]?=ts[i]?.map (yba w)
 |[],_=>rfl
 |t::ts,0=>rfl
 |t::ts,i+1=>by rw[yaq];exact zfc
theorem entry{i:Nat}(hs:es.toList.map (·.hash)=yaq w ks)(r:Reps w F ks (es.toList.map (·.key)))(h:i<es.size):∃t,ks[i]?=some t/\Rep w F t es[i].key/\es[i].hash=yba w t:=by obtain⟨t,e,q⟩:=r.ix (i:=i) (by simpa using h);refine⟨t,e,by simpa using q,?_⟩;have:=zx2 (·[i]?) hs;simp only[List.getElem?_map,zfc,e,Array.getElem?_toList,Array.getElem?_eq_getElem h,xms]at this;exact zyr this
theorem zot(h:ixK ks k=none):∀x∈ks,Ev.eqT x k=false:=by simpa[ixK,List.findIdx?_eq_none_iff]using h
theorem zhm{Q:a7 Nat->Shared->Prop}(hA:A.units+50<cLine)(hF:F.In s.heap)(ho:s.heap.get? d=some o)(hd:DicO w ks o es ep)(r:Reps w F ks (es.toList.map (·.key)))(hk:yac ks k=true)(rk:Rep w F k kv)(q:Q (ixK ks k) s):wpAny (model prog w) A (dictFind d kv (yba w k)) Q E s:=by
 have hl:es.size=ks.length:=by rw[<-r.length];simp
 rcases zio hk with⟨h1,h2⟩|⟨h1,h2⟩
 .obtain⟨x,rfl⟩:=zqe h1;obtain⟨tk,rfl⟩:=rk;have at':∀i(h:i<es.size),∃y t,ks[i]?=some (.str y)/\es[i].key=.str y t/\es[i].hash=hashStr w y:=fun i h=>by obtain⟨t,e,e1,e2⟩:=entry hd.hs r h;obtain⟨y,rfl⟩:=zqe (h2 t (zx4 e));obtain⟨t',e1⟩:=e1;exact⟨y,t',e,e1,e2⟩
  refine wpAny_dictFind_of (knd:=PySem.strKind prog w) (k:=x) (strKind_is ..) ho hd.dt (fun e he=>?_) ?_
  .obtain⟨i,hi,rfl⟩:=Array.getElem_of_mem he;obtain⟨y,t,_,e1,e2⟩:=at' i hi;exact⟨y,by rw[e1];exact strKind_is ..,e2⟩
  .have e:(es.findIdx? fun e=>(PySem.strKind prog w).is x e.key)=ixK ks (.str x):=by
    unfold ixK;rw[show(es.findIdx? fun e=>(PySem.strKind prog w).is x e.key)=es.toList.findIdx? fun e=>(PySem.strKind prog w).is x e.key by rcases es with⟨l⟩;simp];have hks:ks.length=es.toList.length:=by simpa using hl.symm
    rw[show(List.findIdx? (fun x_1=>Ev.eqT x_1 (T.str x)) ks)=List.findIdx? id (ks.map fun t=>Ev.eqT t (.str x)) by rw[List.findIdx?_map];rfl,show(List.findIdx? (fun e=>(PySem.strKind prog w).is x e.key) es.toList)=List.findIdx? id (es.toList.map fun e=>(PySem.strKind prog w).is x e.key) by rw[List.findIdx?_map];rfl];congr 1;refine List.ext_getElem? fun i=>?_;rw[zx0,zx0,zx9];by_cases hi:i<es.size
    .obtain⟨y,t,e,e1,e2⟩:=at' i hi;rw[e,ub2 hi,Option.map_some,Option.map_some,e1,Ev.eqT]
     first|rfl|(congr 1;done)
    .rw[Array.getElem?_eq_none (by lia),ud7 (by lia)];rfl
   rw[e];exact q
 .have kr:∀{t:T}{u:Value},isK t=true->Rep w F t u->∃a,u=.ref a/\yd7 w s.heap t a:=fun{t u}h r=>by
   cases t with
   |tup ts=>obtain⟨a,_,_,_,e,_⟩:=id r;exact⟨a,e,h,by rw[<-e];exact r.mono fun b o e=>hF b o e⟩
   |_=>cases h
  obtain⟨a,rfl,ik⟩:=kr h1 rk;have eq:∀{x},x∈ks->Ev.eqT x k=decide (x=k):=fun hx=>(ziq 4 _ _ (zbx (h2 _ hx)) (zbx h1)).2;have ad:∀i:Fin es.size,∃p:T×Addr×Value,ks[i.1]?=some p.1/\es[i.1]=entryOfKey (zhy prog w) p/\yd7 w s.heap p.1 p.2.1:=fun⟨i,h⟩=>by obtain⟨t,e,e1,e2⟩:=entry hd.hs r h;obtain⟨a,e3,e4⟩:=kr (h2 t (zx4 e)) e1;refine⟨(t,a,es[i].val),e,?_,e4⟩;show es[i]=⟨yba w t,.ref a,es[i].val⟩;rw[<-e2,<-e3]
  obtain⟨p,hp⟩:=Classical.axiomOfChoice ad;have hget:∀{j:Nat}{k':T}{z},(List.ofFn p)[j]?=some (k',z)->ks[j]?=some k':=fun{j k' z}h=>by
   obtain⟨hj,e⟩:=ome h;have hj':j<es.size:=by simpa using hj
   have:=(hp ⟨j,hj'⟩).1;rw[List.getElem_ofFn]at e;rw[e]at this;exact this
  have hmap:(List.ofFn p).map (·.1)=ks:=List.ext_getElem? fun i=>by
   rw[zx0];by_cases hi:i<es.size
   .rw[List.getElem?_eq_getElem (by simpa using hi),List.getElem_ofFn,Option.map_some,(hp ⟨i,hi⟩).1]
   .rw[ud7 (by simpa using hi),ud7 (by lia)];rfl
  refine wpAny_dictFind_heap (knd:=zhy prog w) (xs:=List.ofFn p) (k:=k) hA ik ho hd.dt ?_ (fun x hx=>?_) ?_ (fun h=>?_) fun j z h=>?_
  .refine List.ext_getElem? fun i=>?_;rw[zx0];by_cases hi:i<es.size
   .rw[List.getElem?_eq_getElem (by simpa using hi),List.getElem?_eq_getElem (by simpa using hi),List.getElem_ofFn,Option.map_some,<-(hp ⟨i,hi⟩).2.1];simp
   .rw[ud7 (by simpa using hi),ud7 (by simpa using hi)];rfl
  .obtain⟨i,rfl⟩:=List.mem_ofFn.mp hx;exact(hp i).2.2
  .rw[hmap];exact List.Pairwise.imp_of_mem (fun{x y}hx hy e z=>by subst z;rw[(ziq 4 _ _ (zbx (h2 _ hx)) (zbx (h2 _ hx))).2]at e;simp at e) hd.nd
  .have e:ixK ks k=none:=by unfold ixK;rw[List.findIdx?_eq_none_iff];intro x hx;rw[eq hx,decide_eq_false_iff_not];rintro rfl;rw[<-hmap]at hx;obtain⟨⟨x',z⟩,hz,e⟩:=omm hx;obtain⟨j,hj⟩:=List.mem_iff_getElem?.mp hz;cases e;exact h j z hj
   rw[e]at q;exact q
  .have e:=hget h;have:ixK ks k=some j:=by unfold ixK;rw[List.findIdx?_eq_some_iff_getElem];obtain⟨hj,e'⟩:=ome e;refine⟨hj,by rw[e',eq (e'▸ua5 hj)];simp,fun i hi=>?_⟩;have:=(List.pairwise_iff_getElem.mp hd.nd) i j (by lia) hj hi;rw[e']at this;simpa using this
   rw[this]at q;exact q
end Nb
section
namespace Nb
open PySem W Spec PyProof.Rows Ev
variable {A':Around}
variable {prog:Program}{w:World}{F G:Fz}{A:Around}{E:Value->Shared->Prop}{s:Shared}{d b:Addr}{k:T}{ks:List T}{us:List Value}{v u kv:Value}{h h':Heap}
abbrev Dat(w:World)(F:Fz)(h:Heap)(d:Addr)(ks:List T)(us:List Value):Prop:=OwnD w F h d ks (·=us)
theorem Dat.len(q:Dat w F h d ks us):us.length=ks.length:=by obtain⟨o,es,ep,_,_,_,r,e⟩:=q;subst e;rw[<-r.length];simp
theorem Dat.ty(q:Dat w F s.heap d ks us):s.TypeIs (.ref d) "dict":=by obtain⟨o,es,ep,h1,_,h2,_⟩:=q;exact⟨o,h1,h2.ex.1⟩
structure Rdy(A:Around)(w:World)(F:Fz)(s:Shared)(d:Addr)(ks:List T)(us:List Value)(k:T)(kv:Value):Prop where
 hA:A.units+52<cLine
 hF:F.In s.heap
 D:Dat w F s.heap d ks us
 hk:yac ks k=true
 rk:Rep w F k kv
theorem Rdy.in1(r:Rdy A w F s d ks us k kv):A.in1.units+50<cLine:=show A.units+1+50<cLine by have:=r.hA;lia
section
variable {Q:a7 Value->Shared->Prop}
theorem dget(hu:A'.units+50<cLine)(r:Rdy A w F s d ks us k kv)(q:Q (yae ks us k) {s with toks:=s.toks+drT k}):wpAny (model prog w) A' (dictGet d kv) Q E s:=by
 obtain⟨hA,hF,D,hk,rk⟩:=r;have hl:=D.len;obtain⟨o,es,ep,h1,_,h2,r,e⟩:=D;subst e;rw[za2 hl]at q;unfold dictGet
 try with_reducible refine uc2 ?_
 refine zxq (zeg 4 k (yfx hk) (by lia) hF rk (zxq (zhm (s:={s with toks:=s.toks+drT k}) hu hF h1 h2 r hk rk ?_)));cases e:ixK ks k with
 |none=>rw[e]at q;exact zxs q
 |some i=>rw[e]at q;refine zxq (uc6 (s:={s with toks:=s.toks+drT k}) h1 h2.dt (zxs ?_));simpa[List.getElem?_map]using q
end
theorem zvd(nd:ks.Pairwise fun a b=>Ev.eqT a b=false)(e:ixK ks k=none):(ks++[k]).Pairwise fun a b=>Ev.eqT a b=false :=
 List.pairwise_append.mpr ⟨nd,List.pairwise_singleton _ _,fun x hx y hy=>by rw[omg hy];exact zot e x hx⟩
theorem Dat.push(D:Dat w F s.heap d ks us)(e:ixK ks k=none)(rk:Rep w F k kv)(hz:ks.length<sizeLine):Dat w F (s.heap.update d (Obj.mapDictKeys (·.push ⟨yba w k,kv,v⟩))) d (yad ks k) (yap ks us k v):=by
 have hl:=D.len;obtain⟨o,es,ep,h1,hm,h2,r,z⟩:=D;subst z;have hz':es.size=ks.length:=by rw[<-r.length];simp
 rw[zcz,zcc hl,e];refine⟨_,_,ep+1,Heap.get?_update_self _ h1 (Obj.isFreed_of_dict (Obj.data_mapDictKeys h2.dt _)),hm,⟨h2.ex.mapDictKeys _,Obj.data_mapDictKeys h2.dt _,?_,zvd h2.nd e,?_⟩,?_,?_⟩
 .rw[Array.toList_push,zx7,h2.hs,zdf];rfl
 .rw[Array.size_push];lia
 .rw[Array.toList_push,zx7];exact r.app ⟨_,_,rfl,rk,rfl⟩
 .rw[Array.toList_push,zx7];rfl
theorem Dat.mod{i:Nat}(D:Dat w F s.heap d ks us)(e:ixK ks k=some i):Dat w F (s.heap.update d (Obj.mapDict (·.modify i fun e=>{e with val:=v}))) d (yad ks k) (yap ks us k v):=by
 have hl:=D.len;obtain⟨o,es,ep,h1,hm,h2,r,z⟩:=D;subst z;rw[zcz,zcc hl,e];have same:∀{α:Type}(f:DictEntry->α),(∀e:DictEntry,f {e with val:=v}=f e)->(es.modify i fun e=>{e with val:=v}).toList.map f=es.toList.map f:=fun f hf=>by
  refine List.ext_getElem? fun j=>?_;rw[Array.toList_modify,zx0,zx0,List.getElem?_modify];cases es.toList[j]? with
  |none=>rfl
  |some x=>by_cases hj:i=j<;>simp[hj,hf]
 refine⟨_,_,ep,Heap.get?_update_self _ h1 (Obj.isFreed_of_dict (Obj.data_mapDict h2.dt _)),hm,⟨h2.ex.mapDict _,Obj.data_mapDict h2.dt _,?_,h2.nd,?_⟩,?_,?_⟩
 .rw[same _ fun _=>rfl];exact h2.hs
 .simpa using h2.sz
 .rw[same _ fun _=>rfl];exact r
 .refine List.ext_getElem? fun j=>?_;rw[Array.toList_modify,zx0,List.getElem?_modify];by_cases hj:i=j
  .subst hj;by_cases hl:i<es.toList.length
   .rw[List.getElem?_eq_getElem hl,ua4 (by simpa using hl)];simp
   .rw[ud7 (by lia),ud7 (by simpa using hl)];rfl
  .rw[zyw hj,zx0];cases es.toList[j]?<;>simp[hj]
section
variable {Q:Unit->Shared->Prop}
theorem yfh(hu:A'.units+50<cLine)(r:Rdy A w F s d ks us k kv)(hz:ks.length<sizeLine)(q:∀h',Dat w F h' d (yad ks k) (yap ks us k v)->Heap.SameBut d s.heap h'->Q () {s with heap:=h',toks:=s.toks+drT k}):wpAny (model prog w) A' (dictSet d kv v) Q E s:=by
 obtain⟨hA,hF,D,hk,rk⟩:=r;obtain⟨o,es,ep,h1,hm,h2,r,e⟩:=id D;unfold dictSet
 try with_reducible refine uc2 ?_
 refine zxq (zeg 4 k (yfx hk) (by lia) hF rk ?_);unfold dictSetHashed
 try with_reducible refine uc2 ?_
 refine zxq (zhm (s:={s with toks:=s.toks+drT k}) hu hF h1 h2 r hk rk ?_);cases e:ixK ks k with
 |none=>exact zxq (wpAny_rule (wpAny_updateDictKeys (hz:=h2.sz) (s:={s with toks:=s.toks+drT k}) h1 h2.dt (q _ (D.push e rk hz) (ub3 ..))))
 |some i=>exact zxq (wpAny_rule (zxq (wpAny_updateDict (s:={s with toks:=s.toks+drT k}) h1 h2.dt (wpAny_point (q _ (D.mod e) (ub3 ..))))))
end
variable {Q:Value->Shared->Prop}
theorem dsd(hu:A'.units+50<cLine)(r:Rdy A w F s d ks us k kv)(hz:ks.length<sizeLine)(q1:∀u,yae ks us k=some u->Q u {s with toks:=s.toks+drT k})(q2:yae ks us k=none->∀h',Dat w F h' d (yad ks k) (yap ks us k v)->Heap.SameBut d s.heap h'->Q v {s with heap:=h',toks:=s.toks+drT k}):wpAny (model prog w) A' (dictSetDefault d kv v) Q E s:=by
 obtain⟨hA,hF,D,hk,rk⟩:=r;have hl:=D.len;obtain⟨o,es,ep,h1,hm,h2,r,e⟩:=id D;subst e;rw[za2 hl]at q1 q2;unfold dictSetDefault;refine uc2 (zxq (zeg 4 k (yfx hk) (by lia) hF rk ?_));refine zxq (zhm (s:={s with toks:=s.toks+drT k}) hu hF h1 h2 r hk rk ?_);cases e:ixK ks k with
 |none=>rw[e]at q2;exact zxq (wpAny_rule (zxq (wpAny_updateDictKeys (hz:=h2.sz) (s:={s with toks:=s.toks+drT k}) h1 h2.dt (zxs (q2 rfl _ (D.push e rk hz) (ub3 ..))))))
 |some i=>
  rw[e]at q1;refine zxq (uc6 (s:={s with toks:=s.toks+drT k}) h1 h2.dt ?_);have hi:i<es.size:=by rw[<-zx1,<-zxt (f:=fun e=>e.val),hl];unfold ixK at e;rw[List.findIdx?_eq_some_iff_getElem]at e;exact e.1
  rw[ub2 hi];exact wpAny_bind (wpAny_rule (wpAny_pure (q1 _ (by simp[hi]))))
theorem zc6{Q:Bool->Shared->Prop}(r:Rdy A w F s d ks us k kv)(q:Q (ybv ks k) {s with toks:=s.toks+drT k}):wpAny (model prog w) A (contains (.ref d) kv) Q E s:=by
 have hd:(d==sysModules)=false:=by obtain⟨_,_,_,_,h,_⟩:=r.D;exact h
 unfold contains
 try with_reducible refine uc2 ?_
 refine zxq (wpAny_specialOf r.D.ty slot_dict_contains.lookup ?_);show wpAny _ _ (if(some (Value.builtin "dict.__contains__")==some Value.none)=true then _ else _) _ E s;rw[if_neg (by rw[beq_builtin_none];exact zys)];refine zxq (wpAny_callSpecialUnlessNone?_slot (name:=Str.ofString "__contains__") r.D.ty slot_dict_contains
  (zyd slot_dict_contains r.D.ty entry_dict_contains ?_ (args_dict_contains _ _)))
 show wpAny _ _ (dictGet d kv >>= _) _ _ s;refine zxq (dget r.in1 r ?_);have hl:=r.D.len;rw[zmt]at q;rw[za2 hl];cases e:ixK ks k with
 |some i=>
  rw[e]at q;have hi:i<us.length:=by rw[hl];unfold ixK at e;rw[List.findIdx?_eq_some_iff_getElem]at e;exact e.1
  rw[zxv,zxu hi];show wpAny _ _ (ret (.bool true)) _ _ _;exact zxs ⟨_,rfl,wpAny_truthy_bool q⟩
 |none=>rw[e]at q;show wpAny _ _ (Builtin.Dict.pendingKey? d kv >>= _) _ _ _;exact zxq (wpAny_pendingKey_other hd (zxs ⟨_,rfl,wpAny_truthy_bool q⟩))
theorem zss(r:Rdy A w F s d ks us k kv)(q:Q (.bool (ybv ks k)) {s with toks:=s.toks+drT k}):wpAny (model prog w) A (compareOp .In kv (.ref d)) Q E s :=
 show wpAny _ _ (do return .bool (<-contains (.ref d) kv)) Q E s from zxq (zc6 r (zxs q))
theorem zjq(r:Rdy A w F s d ks us k kv)(q:Q (.bool (!ybv ks k)) {s with toks:=s.toks+drT k}):wpAny (model prog w) A (compareOp .NotIn kv (.ref d)) Q E s :=
 show wpAny _ _ (do return .bool (!(<-contains (.ref d) kv))) Q E s from zxq (zc6 r (zxs q))
theorem zgu(r:Rdy A w F s d ks us k kv)(hv:yae ks us k=some v)(q:Q v {s with toks:=s.toks+drT k}):wpAny (model prog w) A (getItem (.ref d) kv) Q E s:=by
 unfold getItem
 try with_reducible refine uc2 ?_
 refine zxq (wpAny_sequenceKey r.D.ty (by decide) ?_);refine zxq (zyf (name:=Str.ofString "__getitem__") r.D.ty slot_dict_getitem (zyd slot_dict_getitem r.D.ty entry_dict_getitem ?_ (args_dict_getitem _ _)));show wpAny _ _ (dictGet d kv >>= _) _ _ s;refine zxq (dget r.in1 r ?_);rw[hv];exact zxs ⟨v,rfl,zxs q⟩
theorem zdn{Q:Unit->Shared->Prop}(r:Rdy A w F s d ks us k kv)(hz:ks.length<sizeLine)(q:∀h',Dat w F h' d (yad ks k) (yap ks us k v)->Heap.SameBut d s.heap h'->Q () {s with heap:=h',toks:=s.toks+drT k}):wpAny (model prog w) A (setItem (.ref d) kv v) Q E s:=by
 unfold setItem
 try with_reducible refine uc2 ?_
 refine zxq (wpAny_sequenceKey r.D.ty (by decide) ?_);refine zxq (zyf (name:=Str.ofString "__setitem__") r.D.ty slot_dict_setitem (zyd slot_dict_setitem r.D.ty entry_dict_setitem ?_ (args_dict_setitem _ _ _)));show wpAny _ _ (Builtin.Dict.notOrdered "__setitem__" ⟨[.ref d,kv,v],[]⟩ >>= _) _ _ s;refine zxq (wpAny_notOrdered_dict r.D.ty ?_);show wpAny _ _ (dictSet d kv v >>= _) _ _ s;exact zxq (yfh r.in1 r hz fun h' D hs=>zxs ⟨.none,rfl,zxs (q h' D hs)⟩)
theorem zd0(r:Rdy A w F s d ks us k kv)(hz:ks.length<sizeLine)(q1:∀u,yae ks us k=some u->Q u {s with toks:=s.toks+drT k})(q2:yae ks us k=none->∀h',Dat w F h' d (yad ks k) (yap ks us k v)->Heap.SameBut d s.heap h'->Q v {s with heap:=h',toks:=s.toks+drT k}):wpAny (model prog w) A (call (.builtin "dict.setdefault") [.ref d,kv,v]) Q E s:=by
 have hd:(d==sysModules)=false:=by obtain⟨_,_,_,_,h,_⟩:=r.D;exact h
 refine zyd PySem.F.slot_dict_setdefault r.D.ty PySem.F.entry_dict_setdefault ?_ (PySem.F.args_dict_setdefault_3 _ _ _);unfold Builtin.«dict.setdefault»;refine zxq ?_;unfold Builtin.Dict.keyAndDefault;refine zxq (wpAny_notOrdered_dict r.D.ty ?_);show wpAny _ _ (pure (d,kv,some v)) _ _ s;refine zxs ?_;show wpAny _ _ (if(d==sysModules)=true then _ else(dictSetDefault d kv v >>= _)) _ _ s;rw[if_neg (by rw[hd];exact zys)];exact zxq (dsd r.in1 r hz (fun u e=>zxs ⟨_,rfl,q1 u e⟩) fun e h' D hs=>zxs ⟨_,rfl,q2 e h' D hs⟩)
theorem zo3(r:Rdy A w F s d ks us k kv)(q:Q ((yae ks us k).getD v) {s with toks:=s.toks+drT k}):wpAny (model prog w) A (call (.builtin "dict.get") [.ref d,kv,v]) Q E s:=by
 have hd:(d==sysModules)=false:=by obtain⟨_,_,_,_,h,_⟩:=r.D;exact h
 refine zyd PySem.F.slot_dict_get r.D.ty PySem.F.entry_dict_get ?_ (PySem.F.args_dict_get_3 _ _ _);unfold Builtin.«dict.get»;refine zxq ?_;unfold Builtin.Dict.keyAndDefault;refine zxq (wpAny_notOrdered_dict r.D.ty ?_);show wpAny _ _ (pure (d,kv,some v)) _ _ s;refine zxs ?_;show wpAny _ _ (dictGet d kv >>= _) _ _ s;refine zxq (dget r.in1 r ?_);cases e:yae ks us k with
 |some u=>rw[e]at q;exact zxs ⟨_,rfl,q⟩
 |none=>rw[e]at q;exact zxq (wpAny_missed_other hd (zxs ⟨_,rfl,q⟩))
end Nb
section
namespace Nb
open PySem Spec PyProof.Rows Ev
variable {Y:Yc}{N:Str->Nat->Prop}{F G:Fz}{s s1:Shared}{r:Ev.Env}{E:Value->Shared->Prop}{a b c e:Expr}{f g h:Ev.Env->a7 T}{pos p2:Pos}{u v:Value}{ts us ks vs:List T}{t:T}{rest:List Expr}
theorem Rep.dat(hF:F.In s.heap)(r:Rep Y.w F (.dic ks vs) u):∃d us,u=.ref d/\Dat Y.w F s.heap d ks us/\Reps Y.w F vs us:=by obtain⟨d,o,es,ep,e,f,m,q,r1,r2⟩:=r;exact⟨d,_,e,⟨o,es,ep,hF _ _ f,m,q,r1,rfl⟩,r2⟩
theorem rdy{d:Addr}{us:List Value}(hu:Y.Rm)(S:F.In s.heap)(D:Dat Y.w F s.heap d ks us)(hk:yac ks t=true)(rk:Rep Y.w F t v):Rdy Y.A Y.w F s d ks us t v:=⟨by have:Y.A.units+100<cLine:=hu;lia,S,D,hk,rk⟩
theorem zuy(hu:Y.Rm)(neg:Bool):Op2 Y (compareOp (if neg then .NotIn else .In)) fun x y=>(inC x y).map fun b=>.bl (neg != b):=fun{s F x y t u v E}S hx hy h=>by
 obtain⟨bb,h1,rfl⟩:=oms h;have seq:∀{ts:List T}{a:Addr}{qc:Array Value},(if dpI x ts=true then some (ts.any fun z=>Ev.eqT z x)else none)=some bb->(s.heap.IsTuple a qc\/s.heap.IsList a qc)->Reps Y.w F ts qc.toList->wpAny Y.M Y.A (compareOp (if neg then .NotIn else .In) u (.ref a)) (Res Y.w F s (.bl (neg != bb))) E s:=fun{ts a qc}h p r=>by
  split at h
  .rename_i hd;cases h;cases neg with
   |true=>exact(zqh hu S.fh hx hd p r).2 (zax S.fh (by cases ts.any fun z=>Ev.eqT z x<;>rfl))
   |false=>exact(zqh hu S.fh hx hd p r).1 (zax S.fh (by cases ts.any fun z=>Ev.eqT z x<;>rfl))
  .cases h
 cases y with
 |tup ts=>obtain⟨a,o,qc,n,rfl,f,c,d,_,r⟩:=hy;exact seq h1 (.inl ⟨o,S.fh _ _ f,c,n,d⟩) r
 |lst ts=>obtain⟨a,qc,n,rfl,f,_,r⟩:=hy;exact seq h1 (.inr ⟨_,S.fh _ _ f,rfl,n,rfl⟩) r
 |dic ks vs=>
  replace h1:(if yac ks x=true then some (ybv ks x)else none)=some bb:=h1;split at h1
  .rename_i hk;cases h1;obtain⟨d,us,rfl,D,_⟩:=hy.dat S.fh;cases neg with
   |true=>exact zjq (rdy hu S.fh D hk hx) (zat S.fh (by cases ybv ks x<;>rfl))
   |false=>exact zss (rdy hu S.fh D hk hx) (zat S.fh (by cases ybv ks x<;>rfl))
  .cases h1
 |_=>cases h1
theorem zr0(hu:Y.Rm):Op2 Y (compareOp .In) (yaw .isin):=fun S hx hy h=>zuy hu false S hx hy (by simpa[yaw]using h)
theorem zoe(hu:Y.Rm):Op2 Y (compareOp .NotIn) (yaw .notin):=fun S hx hy h=>zuy hu true S hx hy (by simpa[yaw]using h)
theorem Rep.none(r:Rep Y.w F t u):(u==Value.none)=(match t with|.non=>true|_=>false):=by cases t<;>first|(cases r;rfl)|(obtain⟨_,e⟩:=r;subst e;rfl)|(obtain⟨_,_,_,_,e,_⟩:=r;subst e;rfl)|(obtain⟨_,_,_,e,_⟩:=r;subst e;rfl)|(obtain⟨e,_⟩:=r;subst e;rfl)
theorem zux:Op2 Y (compareOp .Is) (yaw .isN):=fun{s F x y t u v E}S hx hy h=>by
 cases y with
 |non=>cases hy;refine is_none_gen (zax S.fh ?_);rw[hx.none];cases x<;>cases h<;>rfl
 |_=>cases x<;>cases h
theorem zry:Op2 Y (compareOp .IsNot) (yaw .notN):=fun{s F x y t u v E}S hx hy h=>by
 cases y with
 |non=>cases hy;refine isnot_none_gen (zax S.fh ?_);rw[hx.none];cases x<;>cases h<;>rfl
 |_=>cases x<;>cases h
theorem zrz:Op2 Y (compareOp .IsNot) (yaw .notF):=fun{s F x y t u v E}S hx hy h=>by
 cases y with
 |bl b=>
  cases b with
  |true=>cases x<;>cases h
  |false=>
   cases hy;cases x with
   |bl b=>cases h;cases hx;refine isnot_bool (zax S.fh ?_);cases b<;>rfl
   |non=>cases h;cases hx;exact zxs (a:=Value.bool (Value.none != Value.bool false)) (zax S.fh rfl)
   |_=>cases h
 |_=>cases x<;>cases h
theorem zu1{op:BoolOp}(h:Oke Y N a f):Oke Y N (.BoolOp op [a] pos) f:=fun A q=>BoolOp_one (h A q)
theorem zu9(ha:Oke Y N a f)(hb:Oke Y N (.BoolOp .And (b::rest) pos) g):Oke Y N (.BoolOp .And (a::b::rest) pos) fun r=>(f r).bind fun x=>match x with
  |.bl true=>g r
  |.bl false=>some (.bl false)
  |_=>none:=fun A q=>by
 obtain⟨x,e,q⟩:=obs q;refine BoolOp_and (thn (ha A e) fun v s1 z=>?_);obtain⟨G,u,q1⟩:=z;cases x with
 |bl d=>
  cases q1;refine wpAny_truthy_bool ?_;cases d with
  |true=>exact thn (hb (A.up u) q) fun w s2 z=>Res.mk u z
  |false=>cases q;exact⟨G,u,rfl⟩
 |_=>cases q
theorem zw9(ha:Oke Y N a f)(hb:Oke Y N (.BoolOp .Or (b::rest) pos) g):Oke Y N (.BoolOp .Or (a::b::rest) pos) fun r=>(f r).bind fun x=>match x with
  |.bl true=>some (.bl true)
  |.bl false=>g r
  |_=>none:=fun A q=>by
 obtain⟨x,e,q⟩:=obs q;refine BoolOp_or (thn (ha A e) fun v s1 z=>?_);obtain⟨G,u,q1⟩:=z;cases x with
 |bl d=>
  cases q1;refine wpAny_truthy_bool ?_;cases d with
  |false=>exact thn (hb (A.up u) q) fun w s2 z=>Res.mk u z
  |true=>cases q;exact⟨G,u,rfl⟩
 |_=>cases q
theorem zu2(ha:Oke Y N a f):Oke Y N (.UnaryOp .Not a pos) fun r=>(f r).bind fun x=>match x with
  |.bl b=>some (.bl (!b))
  |_=>none:=fun A q=>by
 obtain⟨x,e,q⟩:=obs q;refine UnaryOp_ (thn (ha A e) fun v s1 z=>?_);obtain⟨G,u,q1⟩:=z;cases x with
 |bl d=>cases q;cases q1;exact not_of (wpAny_truthy_bool ⟨G,u,rfl⟩)
 |_=>cases q
theorem zp5(ha:Oke Y N a f):Oke Y N (.UnaryOp .USub a pos) fun r=>(f r).bind fun x=>match x with
  |.int i=>some (.int (-i))
  |_=>none:=fun A q=>by
 obtain⟨x,e,q⟩:=obs q;refine UnaryOp_ (thn (ha A e) fun v s1 z=>?_);obtain⟨G,u,q1⟩:=z;cases x with
 |int d=>cases q;obtain⟨_,rfl⟩:=q1;exact P.neg_int (Res.mk u (zat u.fh ⟨_,rfl⟩))
 |_=>cases q
def Okw(Y:Yc)(N:Str->Nat->Prop)(e:Expr)(f:Ev.Env->a7 T):Prop :=
 ∀{s F r t E}(wh:Sem Value),At Y N r F s->f r=some t->wpAny Y.M Y.A (isTrue e Y.env wh) (fun b s'=>∃G,Up F s G s'/\t=.bl b) E s
theorem Okw.okb(h:Okw Y N e f):Okb Y N e f:=fun A q=>h _ A q
theorem zkc(ha:Okb Y N a f):Okw Y N (.BoolOp .And [a] pos) f:=fun wh A q=>isTrue_and (thn (ha A q) fun c s1 z=>by cases c with
 |true=>exact isTrue_and_nil z
 |false=>exact z)
theorem ztv(ha:Okb Y N a f):Okw Y N (.BoolOp .Or [a] pos) f:=fun wh A q=>isTrue_or (thn (ha A q) fun c s1 z=>by cases c with
 |false=>exact isTrue_or_nil z
 |true=>exact z)
theorem zkd(ha:Okb Y N a f)(hb:Okw Y N (.BoolOp .And (b::rest) pos) g):Okw Y N (.BoolOp .And (a::b::rest) pos) fun r=>(f r).bind fun x=>match x with
  |.bl true=>g r
  |.bl false=>some (.bl false)
  |_=>none:=fun wh A q=>by
 obtain⟨x,e,q⟩:=obs q;refine isTrue_and (thn (ha A e) fun d s1 z=>?_);obtain⟨G,u,rfl⟩:=z;cases d with
 |true=>exact thn (hb wh (A.up u) q) fun w s2 ⟨G2,u2,z⟩=>⟨G2,u.trans u2,z⟩
 |false=>cases q;exact⟨G,u,rfl⟩
theorem zwx(ha:Okb Y N a f)(hb:Okw Y N (.BoolOp .Or (b::rest) pos) g):Okw Y N (.BoolOp .Or (a::b::rest) pos) fun r=>(f r).bind fun x=>match x with
  |.bl true=>some (.bl true)
  |.bl false=>g r
  |_=>none:=fun wh A q=>by
 obtain⟨x,e,q⟩:=obs q;refine isTrue_or (thn (ha A e) fun d s1 z=>?_);obtain⟨G,u,rfl⟩:=z;cases d with
 |false=>exact thn (hb wh (A.up u) q) fun w s2 ⟨G2,u2,z⟩=>⟨G2,u.trans u2,z⟩
 |true=>cases q;exact⟨G,u,rfl⟩
theorem zpw{op:CmpOp}{R:T->T->a7 T}(ho:Op2 Y (compareOp op) R)(ha:Oke Y N a f)(hb:Oke Y N b g)(hm:behindInMarks op b=false)(hR:∀{x y t},R x y=some t->∃b,t=.bl b):Okb Y N (.Compare a [op] [b] pos) fun r=>(f r).bind fun x=>(g r).bind fun y=>R x y:=fun{s F r t E}A e=>by
 obtain⟨bb,rfl⟩:∃b,t=.bl b:=by obtain⟨x,_,e⟩:=obs e;obtain⟨y,_,e⟩:=obs e;exact hR e
 exact wpAny_isTrue_Compare1 (thn (two ha hb A e ho) fun v s1 z=>thn z fun u s2 z=>thn z fun c s3 z=>by obtain⟨G,u,rfl⟩:=z;exact wpAny_truthy_bool ⟨G,u,rfl⟩) hm
theorem znh{o:Co}{x y:T}(h:yaw o x y=some t):∃b,t=.bl b:=by
 cases o<;>simp only[yaw,eqC,neC]at h
 all_goals first
  |(split at h<;>first|(cases h;done)|(cases h;exact⟨_,rfl⟩))
  |(obtain⟨_,_,rfl⟩:=oms h;exact⟨_,rfl⟩)
  |(cases x<;>cases y<;>simp[ltC]at h<;>exact⟨_,h.symm⟩)
theorem ztx{tk:Nat}{Q:Bool->Shared->Prop}{bb:Bool}(hF:F.In s.heap)(r:Rep Y.w F t u)(h:yft t=some bb)(q:∀tk,Q bb {s with toks:=tk}):wpAny Y.M Y.A (truthy u) Q E s:=by
 have hl:(sizeLine:Nat)<2 ^ 63:=by rw[ub5];decide
 have emp:∀{ts:List T}{qc:Array Value},Reps Y.w F ts qc.toList->(!qc.isEmpty)=!ts.isEmpty:=fun{ts qc}r=>by
  rcases qc with⟨l⟩;cases ts with
  |nil=>cases r;rfl
  |cons _ _=>obtain⟨_,_,e,_⟩:=r;simp only at e;subst e;rfl
 cases t with
 |non=>cases r;cases h;exact truthy_none (q s.toks)
 |bl b=>cases r;cases h;exact wpAny_truthy_bool (q s.toks)
 |int i=>obtain⟨_,rfl⟩:=r;cases h;exact P.truthy_int (q s.toks)
 |lst ts=>obtain⟨a,qc,n,rfl,f,z,r⟩:=r;cases h;exact wpAny_truthy_list ⟨_,hF _ _ f,rfl,n,rfl⟩ (by lia) (by rw[emp r];exact q _)
 |tup ts=>obtain⟨a,o,qc,n,rfl,f,c,d,z,r⟩:=r;cases h;exact truthy_tuple ⟨o,hF _ _ f,c,n,d⟩ (by lia) (by rw[emp r];exact q _)
 |_=>cases h
theorem zt3(h:Oke Y N e f)(he:∀w,isTrue e Y.env w=(do let v <-w;standAt e.pos;holding [v] (truthy v))):Okb Y N e fun r=>(f r).bind fun x=>(yft x).map .bl:=fun A q=>by obtain⟨x,e,q⟩:=obs q;obtain⟨bb,q1,rfl⟩:=oms q;refine isTrue_plain (thn (h A e) fun v s1 z=>?_) (he _);obtain⟨G,u,r⟩:=z;exact ztx (tk:=0) u.fh r q1 fun tk=>⟨G,u.trans (Up.tok u.fh),rfl⟩
theorem zu4(hc:Okb Y N c f)(ha:Oke Y N a g)(hb:Oke Y N b h):Oke Y N (.IfExp c a b pos) fun r=>(f r).bind fun x=>match x with
  |.bl true=>g r
  |.bl false=>h r
  |_=>none:=fun A q=>by
 obtain⟨x,e,q⟩:=obs q;refine wpAny_IfExp (thn (hc A e) fun d s1 z=>?_);obtain⟨G,u,rfl⟩:=z;cases d with
 |true=>exact thn (ha (A.up u) q) fun w s2 z=>Res.mk u z
 |false=>exact thn (hb (A.up u) q) fun w s2 z=>Res.mk u z
end Nb
section
namespace Nb
open PySem Spec PyProof.Rows Ev
structure Walk(Y:Yc)(tg:Expr)(qc:List T)(F:Fz)(fp:List Addr)(it:Addr)(tn:Nat->Heap->Prop):Prop where
 obj:∀{i h},tn i h->∀b∈fp,∃o,h.get? b=some o
 keep:∀{i h h'},tn i h->(∀b∈fp,∀o,h.get? b=some o->h'.get? b=some o)->tn i h'
 item:∀{i x s G E},F.le G->G.In s.heap->(∀b∈fp,G b=none)->tn i s.heap->qc[i]?=some x->
  wpAny Y.M Y.A (pyNext (.ref it)) (fun r s1=>∃u,r=some u/\wpAny Y.M Y.A (letOwnedTupleGo tg (.ref it) u) (fun _ s2=>∃G2,UpX fp G s G2 s2/\Rep Y.w G2 x u/\tn (i+1) s2.heap) E s1) E s
 done:∀{i s G E},F.le G->G.In s.heap->(∀b∈fp,G b=none)->tn i s.heap->qc.length=i->
  wpAny Y.M Y.A (pyNext (.ref it)) (fun r s1=>r=none/\UpX fp G s G s1) E s
 self:∀{i s Q E},tn i s.heap->Q (.ref it) s->wpAny Y.M Y.A (pyIter (.ref it)) Q E s
variable {B:Bd}{pn:List (Addr×a7 Obj)}{ad:Nat->List Addr}{τ:List Sl}{F G:Fz}{s s':Shared}{fp:List Addr}
end Nb
section
namespace Nb
open PySem Spec PyProof.Rows Ev
variable {B:Bd}{pn:List (Addr×a7 Obj)}{ad:Nat->List Addr}{τ:List Sl}{F G:Fz}{s s':Shared}{fp:List Addr}{tg iter:Expr}{body:List Stmt}{pos:Pos}{g:Ev.Env->a7 (List T)}{f:List Sl->a7 Out}{E:Value->Shared->Prop}
def ybc(fp:List Addr)(h:Heap):List (Addr×a7 Obj):=fp.filterMap fun b=>(h.get? b).map fun o=>(b,some o)
theorem zd7{F:Fz}{h:Heap}{p:Addr×a7 Obj}(hp:p∈ybc fp h):p.1∈fp/\PinOk F h p:=by obtain⟨b,hb,e⟩:=ud5.mp hp;obtain⟨o,q,rfl⟩:=oms e;exact⟨hb,q⟩
theorem Fr.pinned(h:B.Fr pn ad τ F s)(hf:∀b∈fp,F b=none/\Off B.toYc B.N B.s0 (B.tbp++pn) ad b):B.Fr (pn++ybc fp s.heap) ad τ F s:=by
 have sp:∀{p},p∈B.tbp++(pn++ybc fp s.heap)->p∈B.tbp++pn\/p∈ybc fp s.heap:=fun hp=>oma ((zyz ..).symm▸hp);have sm:∀{p},p∈ybc fp s.heap->p.2.isNone=false:=fun hp=>by obtain⟨b,_,e⟩:=ud5.mp hp;obtain⟨o,_,rfl⟩:=oms e;rfl
 refine{h with pin:=fun p hp=>?_};rcases sp hp with q|q
 .obtain⟨p1,p2,p3⟩:=h.pin p q;exact⟨p1,⟨p2.1,fun q' h' e=>(sp h').elim (fun w=>p2.2 q' w e) fun w=>absurd e.symm ((hf _ (zd7 (F:=F) w).1).2.p p q)⟩,p3⟩
 .obtain⟨hb,e⟩:=zd7 q;obtain⟨n,o⟩:=hf _ hb;exact⟨⟨o.z,n,o.l,o.c⟩,⟨e,fun q' h' e'=>(sp h').elim (fun w=>absurd e' (o.p q' w)) fun w=>(sm w).trans (sm q).symm⟩,o.a⟩
theorem Fr.unpin{q:List (Addr×a7 Obj)}(h:B.Fr (pn++q) ad τ F s):B.Fr pn ad τ F s:={h with pin:=fun p hp=>let⟨p1,p2,p3⟩:=h.pin p (by rw[<-zyz];exact List.mem_append_left _ hp);⟨p1,⟨p2.1,fun q hq=>p2.2 q (by rw[<-zyz];exact List.mem_append_left _ hq)⟩,p3⟩}
theorem Fr.off(h:B.Fr pn ad τ F s){b:Addr}(z:s.heap.get? b=none):Off B.toYc B.N B.s0 (B.tbp++pn) ad b:=by
 have w:∀{c},(∃o,s.heap.get? c=some o)->c≠b:=fun⟨o,hc⟩ e=>by rw[e,z]at hc;cases hc
 obtain⟨m,n⟩:=h.ns.2;exact⟨h.up.old z,(w (Heap.Ns.has n)).symm,fun x hx c e=>by obtain⟨v,o,q,_⟩:=(h.cell x hx c e).2;exact w ⟨o,q⟩,fun i e=>w (h.own i b e).2 rfl,fun p hp=>w (h.pin p hp).2.1.1.ex⟩
def OkI(Y:Yc)(N:Str->Nat->Prop)(tg iter:Expr)(g:Ev.Env->a7 (List T)):Prop :=
 ∀{s F r qc E},At Y N r F s->g r=some qc->wpAny Y.M Y.A (eval iter Y.env) (fun v s1=>wpAny Y.M Y.A (pyIter v) (fun itv s2=>∃it fp tn G,itv=.ref it/\Up F s G s2/\(∀b∈fp,s.heap.get? b=none/\G b=none)/\Walk Y tg qc G fp it tn/\tn 0 s2.heap) E s1) E s
def PG(B:Bd)(tg:Expr)(is:List Nat):Prop:=∀{pn ad τ F s x u τ'},B.Fr pn ad τ F s->Rep B.w F x u->ybs is x τ=some τ'->wpAny B.M B.A (assign tg B.env u) (fun _ s'=>∃ad',B.Fr pn ad' τ' F s') No s
theorem no{α:Type}{t:Sem α}{Q:α->Shared->Prop}{M:Model}{A:Around}(h:wpAny M A t Q No s):wpAny M A t Q E s:=zyt h (fun _ _ q=>q) fun _ _ q=>q.elim
theorem yeu{e:Value}(hm:B.Fm)(hF:B.Fr pn ad τ F s)(z:B.PE o e s'):notedBy B.M B.A B.env (fun e s2=>cameBackBy B.M B.A B.env (B.PE o) e s2) e s':=by obtain⟨x,n,rfl,z1,z2⟩:=z;obtain⟨l,hl⟩:=hm.st;have fr:=hF.toSt.frames;rw[hl]at fr z1 z2;exact zyt (zfp (E:=No) fr z2 hm.fr z1) (fun _ s2 ⟨q1,q2⟩=>zpo hm.fr q2 q1 fun s3 w1 w2=>⟨x,n,rfl,by rw[hl];exact w1,by rw[hl];exact w2⟩) fun _ _ q=>q.elim
theorem zum{is:List Nat}(hm:B.Fm)(vs:List Nat)(hi:OkI B.toYc (Nn B.N) tg iter g)(hg:PG B tg is)(hb:PSs B body f)(hs:∀x,foldedSetIterable iter B.env x=pure x):PS B (.For tg iter body [] pos) fun τ=>(g (ygg (frzAt vs τ))).bind fun qc=>ybk (fun x τ=>(ybs is x τ).bind f) qc (frzAt vs τ):=fun{pn ad τ F s o}hF q=>by
 obtain⟨qc,e1,q⟩:=obs q;obtain⟨G,ad',le,h'⟩:=hF.frzAt vs;refine wpAny_For (thn (hi h'.at e1) fun v s1 h1=>thn h1 fun itv s2 h2=>?_) hs;obtain⟨it,fp,tn,G2,rfl,u2,fr,W,t0⟩:=h2;have h2:=h'.after u2;refine codeAny_forLoop_any (fun n s'=>∃i ad τ F,B.Fr pn ad τ F s'/\G2.le F/\tn i s'.heap/\(∀b∈fp,F b=none/\Off B.toYc B.N B.s0 (B.tbp++pn) ad b)/\n+i=qc.length/\ybk (fun x τ=>(ybs is x τ).bind f) (qc.drop i) τ=some o) ?_ qc.length
  ⟨0,ad',_,G2,h2,fun _ _ e=>e,t0,fun b hb=>⟨(fr b hb).2,h'.off (fr b hb).1⟩,rfl,q⟩
 rintro n s3 ⟨i,ad3,τ3,F3,h3,le3,t3,of3,hn,q3⟩;cases hx:qc[i]? with
 |none=>have hl:=List.getElem?_eq_none_iff.mp hx;rw[List.drop_eq_nil_of_le hl]at q3;cases q3;refine thn (W.done le3 h3.up.fh (fun b hb=>(of3 b hb).1) t3 (by lia)) fun r s4 z=>?_;obtain⟨rfl,u4⟩:=z;exact wpAny_execs_nil ⟨_,_,(le.trans u2.ff).trans (le3.trans u4.ff),Fr.turned h3 (fun b hb=>(of3 b hb).2) u4⟩
 |some x=>
  obtain⟨hil,ex⟩:=ome hx;rw[List.drop_eq_getElem_cons hil,ex]at q3;obtain⟨o1,q4,q3⟩:=obs q3;obtain⟨τ4,eb,q4⟩:=obs q4;refine thn (W.item le3 h3.up.fh (fun b hb=>(of3 b hb).1) t3 hx) fun r s4 z=>?_;obtain⟨u,rfl,z⟩:=z;refine thn z fun _ s5 z=>?_;obtain⟨G5,u5,r5,t5⟩:=z;have h5:=Fr.turned h3 (fun b hb=>(of3 b hb).2) u5;have h5p:=Fr.pinned (fp:=fp) h5 fun b hb=>⟨u5.fn b hb,(of3 b hb).2⟩;refine thn (no (hg h5p r5 eb)) fun _ s6 z=>?_;obtain⟨ad6,h6⟩:=z;refine zyt (hb h6 q4) (fun fl s7 z7=>?_) fun e s7 z7=>yeu (o:=o) hm hF (by obtain⟨x,n,rfl,z7⟩:=z7;cases q3;exact⟨x,n,rfl,z7⟩);cases fl<;>cases o1<;>first|exact z7.elim|skip
  .obtain⟨ad7,F7,le7,h7⟩:=z7;have pk:∀b∈fp,∃o,s5.heap.get? b=some o/\s7.heap.get? b=some o/\F7 b=none/\Off B.toYc B.N B.s0 (B.tbp++pn) ad7 b:=fun b hb=>by obtain⟨o,eo⟩:=W.obj t5 b hb;obtain⟨p1,⟨p3,_⟩,p6⟩:=h7.pin (b,some o) (zym _ (zym _ (ud5.mpr ⟨b,hb,by rw[eo];rfl⟩)));exact⟨o,eo,p3,p1.f,p1.z,p1.l,p1.c,p6,(of3 b hb).2.p⟩
   refine⟨n-1,by lia,i+1,ad7,_,F7,h7.unpin,(le3.trans u5.ff).trans le7,W.keep t5 fun b hb o e=>?_,fun b hb=>(pk b hb).choose_spec.2.2,by lia,q3⟩;obtain⟨o',w1,w2,_⟩:=pk b hb;rw[e]at w1;cases w1;exact w2
  .cases q3;exact z7
end Nb
section
namespace Nb
open PySem W Spec PyProof.Rows
variable {Q:a7 Value->Shared->Prop}
def RawD(g:Heap)(d:Addr)(en:Array DictEntry)(ep:Nat):Prop:=∃o,g.get? d=some o/\o.ExactDict/\o.data=.dict en ep
section
variable {prog:Program}{w:World}{A:Around}{E:Value->Shared->Prop}{s:Shared}{d j:Addr}{en:Array DictEntry}{ep i:Nat}
theorem RawD.ty(r:RawD s.heap d en ep):s.TypeIs (.ref d) "dict":=let⟨o,a,b,_⟩:=r;⟨o,a,b.1⟩
theorem RawD.to{g g':Heap}(r:RawD g d en ep)(k:∀o,g.get? d=some o->g'.get? d=some o):RawD g' d en ep:=let⟨o,a,b⟩:=r;⟨o,k o a,b⟩
theorem zh5{Q:Value->Shared->Prop}(hm:(d==sysModules)=false)(r:RawD s.heap d en ep)(q:Q (.ref s.heap.objs.size) {s with heap:=s.heap.push {cls:=.type "dict_keyiterator",data:=.fields #[.ref d,.int 0 0,.int en.size 0,.int ep 0]} }):wpAny (model prog w) A (pyIter (.ref d)) Q E s:=by
 obtain⟨o,a,b,c⟩:=id r;refine wpAny_pyIter_slot r.ty PySem.F.slot_dict_iter (zyd PySem.F.slot_dict_iter r.ty PySem.F.entry_dict_iter ?_ (PySem.F.args_dict_iter_1 _));unfold Builtin.«dict.__iter__»;refine zxq ?_;unfold Builtin.Dict.dictSlotNone;refine zxq (wpAny_notOrdered_dict r.ty ?_);show wpAny _ _ (pure (Value.ref d)) _ _ s;refine zxs (show wpAny _ _ (Builtin.Dict.showsAll d >>= _) _ _ s from ?_);unfold Builtin.Dict.showsAll;rw[if_neg (by rw[hm];exact zys)];refine zxq (zxs (zxq (uc6 a c (zxq (wpAny_dictEpoch a c ?_)))));refine zxq (zyj (zxs ⟨_,rfl, "dict_keyiterator",_,⟨_,zxx _ rfl,rfl⟩,PySem.F.slot_dict_keyiterator_next.lookup,?_⟩));simpa[rawInt]using q
theorem zh4(t:s.heap.IsKeyIter j d i en.size ep)(r:RawD s.heap d en ep)(hi:i<en.size)(q:∀g,g.IsKeyIter j d (i+1) en.size ep->Heap.SameBut j s.heap g->Q (some en[i].key) {s with heap:=g}):wpAny (model prog w) A (pyNext (.ref j)) Q E s:=by
 obtain⟨o,a,b,c⟩:=id t;obtain⟨od,ad,bd,cd⟩:=id r;unfold pyNext;refine zxq (zy1 (zyf (name:=Str.ofString "__next__") t.typeIs PySem.F.slot_dict_keyiterator_next (zyd PySem.F.slot_dict_keyiterator_next t.typeIs PySem.F.entry_dict_keyiterator_next ?_ (PySem.F.args_dict_keyiterator_next_1 _))));refine zxq (zxs (zxq (zxq ?_)))
 first|refine zxq (uc8 t.typeIs (zxs (zxq (ud0 a c ?_))))|refine zxq (wpAny_typeNameOf_keyiter t.typeIs (zxs (zxq (ud0 a c ?_))))
 simp only[show Builtin.Dict_items.ownsTuple "dict_keyiterator"=false by decide,zyx,if_false];refine(show wpAny _ _ (if(Value.ref d==Value.none)=true then _ else _) _ _ s from ?_);rw[if_neg (show ¬((Value.ref d==Value.none)=true)from zys)];refine zxq (zxs (zxq (uc6 ad cd ?_)));rw[if_neg (by simp)];refine zxq (zxs (zxq (wpAny_dictEpoch ad cd ?_)));rw[if_neg (by simp)];refine zxs ?_;simp only[show ¬((i:Int)<0)from by lia,if_false,Int.toNat_natCast,Array.getElem?_eq_getElem hi];refine zxq ?_
 first|refine zxq (uc8 t.typeIs (zxs (zxq (wpAny_isOneOf_keyiter t.typeIs ?_))))|refine zxq (wpAny_typeNameOf_keyiter t.typeIs (zxs (zxq (wpAny_isOneOf_keyiter t.typeIs ?_))))
 refine(show wpAny _ _ (setField (.ref j) 1 (rawInt ((i:Int)+1)) >>= _) _ _ s from wpAny_bind (wpAny_setField a c (by simp) ?_));have t':(s.heap.update j (Obj.mapFields (·.setIfInBounds 1 (rawInt ((i:Int)+1))))).IsKeyIter j d (i+1) en.size ep :=
  ⟨_,Heap.get?_update_self _ a (Obj.isFreed_of_fields (ud4 c _)),(Obj.cls_mapFields ..).trans b,by rw[ud4 c];simp[rawInt]⟩
 refine zxq (uc2 (zxq (wpAny_isOneOf_keyiter (s:={s with heap:=s.heap.update j (Obj.mapFields (·.setIfInBounds 1 (rawInt ((i:Int)+1))))}) t'.typeIs ?_)));show wpAny _ _ (pure en[i].key) _ _ _;exact zxs (zxs ⟨_,rfl,zxs (q _ t' (ub3 ..))⟩)
theorem zh6(hh:A.handled=none)(t:s.heap.IsKeyIter j d i en.size ep)(r:RawD s.heap d en ep)(hi:en.size<=i)(q:∀g,Heap.ExtBut j s.heap g->Q none {s with heap:=g}):wpAny (model prog w) A (pyNext (.ref j)) Q E s:=by
 obtain⟨o,a,b,c⟩:=id t;obtain⟨od,ad,bd,cd⟩:=id r;unfold pyNext;refine zxq (zy1 (zyf (name:=Str.ofString "__next__") t.typeIs PySem.F.slot_dict_keyiterator_next (zyd PySem.F.slot_dict_keyiterator_next t.typeIs PySem.F.entry_dict_keyiterator_next ?_ (PySem.F.args_dict_keyiterator_next_1 _))));refine zxq (zxs (zxq (zxq ?_)))
 first|refine zxq (uc8 t.typeIs (zxs (zxq (ud0 a c ?_))))|refine zxq (wpAny_typeNameOf_keyiter t.typeIs (zxs (zxq (ud0 a c ?_))))
 simp only[show Builtin.Dict_items.ownsTuple "dict_keyiterator"=false by decide,zyx,if_false];refine(show wpAny _ _ (if(Value.ref d==Value.none)=true then _ else _) _ _ s from ?_);rw[if_neg (show ¬((Value.ref d==Value.none)=true)from zys)];refine zxq (zxs (zxq (uc6 ad cd ?_)));rw[if_neg (by simp)];refine zxq (zxs (zxq (wpAny_dictEpoch ad cd ?_)));rw[if_neg (by simp)];refine zxs ?_;simp only[show ¬((i:Int)<0)from by lia,if_false,Int.toNat_natCast,Array.getElem?_eq_none hi];refine zxq ?_
 first|refine zxq (uc8 t.typeIs (zxs ?_))|refine zxq (wpAny_typeNameOf_keyiter t.typeIs (zxs ?_))
 refine(show wpAny _ _ (setField (.ref j) 0 .none >>= _) _ _ s from wpAny_bind (wpAny_setField a c (by simp) ?_));refine(show wpAny _ _ (newExc (.type "StopIteration") [] >>= _) _ _ _ from zxq ?_);simp only[newExc,newTuple];refine zxq (zyj ?_ (by size_fits));refine wpAny_bind (m:=firstArgMember _ _) (wpAny_of_eq (a:=Value.none) (by first|rfl|(simp only[firstArgMember];rfl)) (wpAny_newObj_type ?_ (by size_fits)));simp only[raiseNew];refine zxq (wpAny_handled ?_);rw[show A.in1.handled=none from hh];refine zxq (zxs (wpAny_throw ?_));exact zxq (wpAny_isInstance (T:="StopIteration") (b:=true) ⟨_,zxx _ rfl,rfl⟩ isSubtype_stop (zxs (q _ (((ub3 ..).extBut.push _).push _))))
end
end Nb
section
namespace Nb
open PySem Spec PyProof.Rows Ev
variable {Y:Yc}{tg:Expr}{F G:Fz}{s s':Shared}{a it:Addr}{ts:List T}{E:Value->Shared->Prop}
theorem UpX.one{h':Heap}{k:Nat}(hf:F.In s.heap)(hn:F it=none)(hs:∀b o,b≠it->s.heap.get? b=some o->h'.get? b=some o):UpX [it] F s F {s with heap:=h',toks:=k} :=
 ⟨fun b o hb e=>hs b o (by simpa using hb) e,rfl,id,fun _ _ e=>e,fun b o e=>hs b o (fun w=>by rw[w,hn]at e;cases e) (hf b o e),fun _ w=>.inl w,fun b hb=>by rw[omg hb];exact hn⟩
theorem zo2{M:Model}{A:Around}{u:Value}{o:Obj}{n:String}{vs:Array Value}{Q:Unit->Shared->Prop}(ho:s.heap.get? it=some o)(hc:o.cls=.type n)(hd:o.data=.fields vs)(hn:["enumerate", "zip", "dict_itemiterator", "dict_reverseitemiterator", "odict_iterator", "itertools.zip_longest", "itertools.pairwise"].contains n=false)(hQ:Q () s):wpAny M A (letOwnedTupleGo tg (.ref it) u) Q E s:=by
 unfold letOwnedTupleGo;cases tg<;>first
  |exact zxs hQ
  |(cases u<;>first
    |exact zxs hQ
    |(refine zxq (wpAny_load ho ?_)
      rw[hc,hd];show wpAny M A (if(["enumerate", "zip", "dict_itemiterator", "dict_reverseitemiterator", "odict_iterator", "itertools.zip_longest", "itertools.pairwise"].contains n&&vs[0]?==some (rawInt _))=true then _ else _) Q E s;rw[if_neg (by intro h;rw[hn,Bool.false_and]at h;cases h)];exact zxs hQ))
theorem zj5(hh:Y.A.handled=none)(h:Rep Y.w F (.lst ts) (.ref a)):Walk Y tg ts F [it] it fun i h=>h.IsListIter it a i:=by
 obtain⟨_,qc,n,e,h1,h2,h3⟩:=h;cases e;refine⟨fun q b hb=>?_,fun q k=>?_,fun{i x s G E}le hi fn q e=>?_,fun{i s G E}le hi fn q e=>?_,fun q=>wpAny_pyIter_listiter q⟩
 .rw[omg hb];obtain⟨o,e,_⟩:=q;exact⟨o,e⟩
 .exact q.at fun o e=>k it (by simp) o e
 .obtain⟨u,hu,ru⟩:=h3.get e;refine wpAny_pyNext_list_item q ⟨_,hi _ _ (le _ _ h1),rfl,n,rfl⟩ (x:=u) (by simpa using hu) fun h' st' sb=>?_;obtain⟨o,e,c,d⟩:=id st';exact⟨u,rfl,zo2 (s:={s with heap:=h'}) e c d (by decide) ⟨G,UpX.one (k:=s.toks) hi (fn it (by simp)) (fun b o hb e=>(sb.2 b hb).trans e) ,ru.mono le,st'⟩⟩
 .refine wpAny_pyNext_list_end hh q ⟨_,hi _ _ (le _ _ h1),rfl,n,rfl⟩ (by rw[Array.getElem?_eq_none_iff,<-Array.length_toList,h3.length];exact Nat.le_of_eq e) fun h' eb=>⟨rfl,UpX.one (k:=s.toks) hi (fn it (by simp)) fun b o hb e=>eb b o hb e⟩
theorem zjf(hh:Y.A.handled=none)(h:Rep Y.w F (.tup ts) (.ref a)):Walk Y tg ts F [it] it fun i h=>h.IsTupleIter it a i:=by
 obtain⟨_,o,qc,n,e,h1,hc,hd,h2,h3⟩:=h;cases e;have tp:∀{s:Shared}{G:Fz},F.le G->G.In s.heap->s.heap.IsTuple a qc:=fun le hi=>⟨o,hi _ _ (le _ _ h1),hc,n,hd⟩;refine⟨fun q b hb=>?_,fun q k=>?_,fun{i x s G E}le hi fn q e=>?_,fun{i s G E}le hi fn q e=>?_,fun q=>wpAny_pyIter_tupleiter q⟩
 .rw[omg hb];obtain⟨o,e,_⟩:=q;exact⟨o,e⟩
 .exact q.at fun o e=>k it (by simp) o e
 .obtain⟨u,hu,ru⟩:=h3.get e;refine wpAny_pyNext_tuple_item q (tp le hi) (x:=u) (by simpa using hu) fun h' st' sb=>?_;obtain⟨o,e,c,d⟩:=id st';exact⟨u,rfl,zo2 (s:={s with heap:=h'}) e c d (by decide) ⟨G,UpX.one (k:=s.toks) hi (fn it (by simp)) (fun b o hb e=>(sb.2 b hb).trans e),ru.mono le,st'⟩⟩
 .exact wpAny_pyNext_tuple_end hh q (tp le hi) (by rw[Array.getElem?_eq_none_iff,<-Array.length_toList,h3.length];exact Nat.le_of_eq e) fun h' eb=>⟨rfl,UpX.one (k:=s.toks) hi (fn it (by simp)) fun b o hb e=>eb b o hb e⟩
theorem zj7{ks vs:List T}(hh:Y.A.handled=none)(h:Rep Y.w F (.dic ks vs) (.ref a)):∃en ep,(∀{s:Shared}{G:Fz},Fz.le F G->G.In s.heap->RawD s.heap a en ep)/\Walk Y tg ks F [it] it fun i h=>h.IsKeyIter it a i en.size ep:=by
 obtain⟨_,o,en,ep,e,h1,_,d,h2,_⟩:=h;cases e;have rd:∀{s:Shared}{G:Fz},F.le G->G.In s.heap->RawD s.heap a en ep:=fun le hi=>⟨o,hi _ _ (le _ _ h1),d.ex,d.dt⟩;have hl:en.size=ks.length:=by rw[<-h2.length,zxt,zx1]
 refine⟨en,ep,rd,fun q b hb=>?_,fun q k=>?_,fun{i x s G E}le hi fn q e=>?_,fun{i s G E}le hi fn q e=>?_,fun q=>wpAny_pyIter_keyiter q⟩
 .rw[omg hb];obtain⟨o,e,_⟩:=q;exact⟨o,e⟩
 .exact q.at fun o e=>k it (by simp) o e
 .obtain⟨u,hu,ru⟩:=h2.get e;have hi':i<en.size:=by rw[hl];exact(ome e).1
  refine zh4 (Q:=_) q (rd le hi) hi' fun h' st' sb=>?_;obtain⟨o,e,c,d⟩:=id st';have ek:en[i].key=u:=by rw[zx0,zx9,ub2 hi']at hu;exact zyr hu
  exact⟨_,rfl,zo2 (s:={s with heap:=h'}) e c d (by decide) ⟨G,UpX.one (k:=s.toks) hi (fn it (by simp)) (fun b o hb e=>(sb.2 b hb).trans e),ek▸ru.mono le,st'⟩⟩
 .have:i=en.size\/en.size<i:=by lia
  exact zh6 hh q (rd le hi) (by lia) fun h' eb=>⟨rfl,UpX.one (k:=s.toks) hi (fn it (by simp)) fun b o hb e=>eb b o hb e⟩
theorem Up.side{o:Obj}{k:Nat}(h:F.In s.heap):Up F s F {s with heap:=s.heap.push o,toks:=k}:=⟨fun _ _ e=>zxr _ e,rfl,id,fun _ _ e=>e,fun b u e=>zxr _ (h b u e),fun _ z=>.inl z⟩
theorem zlh(cm:Y.calm){N:Str->Nat->Prop}{e:Expr}{f:Ev.Env->a7 T}(he:Oke Y N e f):OkI Y N tg e fun r=>(f r).bind fun x=>items .plain [x]:=fun{s F r qc E}A q=>by
 obtain⟨x,e1,q⟩:=obs q;refine thn (he A e1) fun v s1 z=>?_;obtain⟨G,u,r1⟩:=z;have fn:∀b∈[s1.heap.objs.size],s.heap.get? b=none/\G b=none:=fun b hb=>by rw[omg hb];exact⟨u.old zac,u.fh.none zac⟩
 cases x with
 |lst ts=>cases q;obtain⟨a,ts',n,rfl,h1,_⟩:=id r1;exact wpAny_pyIter_list ⟨_,u.fh _ _ h1,rfl,n,rfl⟩ ⟨_,_,_,G,rfl,u.trans (Up.side (k:=s1.toks) u.fh),fn,zj5 (A.hd cm) r1,_,zxx _ rfl,rfl,rfl⟩
 |tup ts=>cases q;obtain⟨a,o,ts',n,rfl,h1,hc,hd,_⟩:=id r1;exact ub8 ⟨o,u.fh _ _ h1,hc,n,hd⟩ ⟨_,_,_,G,rfl,u.trans (Up.side (k:=s1.toks) u.fh),fn,zjf (A.hd cm) r1,_,zxx _ rfl,rfl,rfl⟩
 |dic ks vs=>cases q;obtain⟨a,o,en,ep,rfl,h1,hm,d,_⟩:=id r1;obtain⟨en',ep',rd,W⟩:=zj7 (tg:=tg) (it:=s1.heap.objs.size) (A.hd cm) r1;exact zh5 hm (rd (fun _ _ e=>e) u.fh) ⟨_,_,_,G,rfl,u.trans (Up.side (k:=s1.toks) u.fh),fn,W,_,zxx _ rfl,rfl,rfl⟩
 |_=>cases q
end Nb
section
namespace Nb
open PySem Spec PyProof.Rows Ev
variable {B:Bd}{pn:List (Addr×a7 Obj)}{ad:Nat->List Addr}{τ:List Sl}{F G:Fz}{s s':Shared}{x:Str}{i:Nat}{is:List Nat}{e:Expr}{es:List Expr}{pos:Pos}{t:T}{u:Value}
theorem Fr.setv(h:B.Fr pn ad τ F s)(hx:B.N[i]?=some x)(hl:Loc B.env.scope x)(r:Rep B.w F t u):wpAny B.M B.A (storeName B.env x u) (fun _ s'=>∃ad',B.Fr pn ad' (τ.set i (.val t)) F s') No s :=
 h.store (d:=[]) (sl:=.val t) hx hl (fun _ w=>nomatch w) (fun _ lk=>⟨u,lk,r⟩) fun s2 _ _ h2=>⟨_,h2⟩
theorem zrv(hx:B.N[i]?=some x)(hl:Loc B.env.scope x):PG B (.Name x pos) [i]:=fun h r e=>by cases e;exact wpAny_assign_Name (Fr.setv h hx hl r)
def PGs(B:Bd)(es:List Expr)(is:List Nat):Prop:=∀{pn ad τ F s xs us τ'},B.Fr pn ad τ F s->Reps B.w F xs us->yat is xs τ=some τ'->wpAny B.M B.A (assignInOrder ((assignEach es B.env).map (·.2)) us) (fun _ s'=>∃ad',B.Fr pn ad' τ' F s') No s
theorem zrt:PGs B [] []:=fun{pn ad τ F s xs us τ'}h r e=>by
 cases xs with
 |nil=>cases e;cases r;exact assignInOrder_nil ⟨_,h⟩
 |cons _ _=>cases e
theorem zod{p:Pos}(hx:B.N[i]?=some x)(hl:Loc B.env.scope x)(h2:PGs B es is)(hs:(assignEach (.Name x p::es) B.env).map (·.2)=assign (.Name x p) B.env::(assignEach es B.env).map (·.2)):PGs B (.Name x p::es) (i::is):=fun{pn ad τ F s xs us τ'}h r e=>by
 cases xs with
 |nil=>cases e
 |cons t ts=>obtain⟨u,ur,rfl,r1,r2⟩:=r;rw[hs];refine assignInOrder_cons (thn (wpAny_assign_Name (Fr.setv h hx hl r1)) fun _ s1 z=>?_);obtain⟨ad1,h1⟩:=z;exact h2 h1 r2 e
theorem ze3:∀{is:List Nat}{xs:List T}{τ τ':List Sl},yat is xs τ=some τ'->xs.length=is.length
 |[],[],_,_,_=>rfl
 |[],_::_,_,_,e=>nomatch e
 |_::_,[],_,_,e=>nomatch e
 |_::_,_::_,_,_,e=>zx2 (·+1) (ze3 e)
theorem zuq{k}(cm:B.calm)(h:PGs B es is)(h2:2<=is.length)(hn:(assignEach es B.env).length=is.length)(hst:(assignEach es B.env).findIdx? (·.1)=none):PG B (.Tuple es k pos) is:=fun{pn ad τ F s x u τ'}hF r e=>by
 have:∃xs,x=.tup xs/\yat is xs τ=some τ':=by
  rcases is with _|⟨i0,_|⟨i1,ir⟩⟩
  .simp at h2
  .simp at h2
  .cases x with
   |tup xs=>exact⟨xs,rfl,e⟩
   |_=>cases e
 obtain⟨xs,rfl,e'⟩:=this;obtain⟨a,o,qc,n,rfl,h1,hc,hd,_,rs⟩:=r;have hl:=ze3 e';refine assign_Tuple_tuple (hF.toSt.hd cm) ⟨o,hF.up.fh _ _ h1,hc,n,hd⟩ (by rw[hn,<-hl,<-rs.length,zx1]) hst fun h' hx=>?_;have u:Up F s F {s with heap:=h'}:=⟨fun b o e=>hx b o (zye (zx5 e)) e,rfl,id,fun _ _ e=>e,fun b o e=>hx b o (zye (zx5 (hF.up.fh b o e))) (hF.up.fh b o e),fun _ z=>.inl z⟩;exact h (hF.after u) rs e'
end Nb
section
namespace Nb
open PySem Spec PyProof.Rows Ev
variable {a:Addr}{d:List Addr}
variable {B:Bd}{pn:List (Addr×a7 Obj)}{ad:Nat->List Addr}{τ:List Sl}{F G:Fz}{s s':Shared}{x:Str}{i:Nat}{is:List Nat}{e:Expr}{es:List Expr}{pos p:Pos}{Y:Yc}{N:Str->Nat->Prop}
def OkO(Y:Yc)(N:Str->Nat->Prop)(e:Expr)(g:Ev.Env->a7 Sl):Prop :=
 ∀{s F r sl E},At Y N r F s->g r=some sl->wpAny Y.M Y.A (eval e Y.env) (fun u s'=>∃a G,u=.ref a/\Up F s G s'/\G a=none/\s.heap.get? a=none/\OwnOk Y.w G s'.heap [a] sl) E s
theorem zr2{f:Ev.Env->a7 (List T)}{n:Nat}(hl:∀{r ts},f r=some ts->ts.length=n)(h:Oks Y N es f):OkO Y N (.List es pos) fun r=>if n<=1000 then(f r).map .own else none:=fun A q=>by
 split at q
 .rename_i hn;obtain⟨ts,q1,rfl⟩:=oms q;refine wpAny_List_spliced (thn (h pos A q1) fun us s1 z=>?_);obtain⟨G,u,r⟩:=z;have z:us.length<=sizeLine:=ze1 (by rw[r.length,hl q1];exact hn);exact⟨z,_,G,rfl,u.trans (Up.side (k:=s1.toks) u.fh),u.fh.none zac,u.old zac,rfl,us.toArray,0,Heap.get?_push_size _ rfl,by simpa using z,by simpa using r⟩
 .cases q
theorem Fr.ownOff(h:B.Fr pn ad τ F s)(sa:s.heap.get? a=none)(u1:Up F s G s')(ga:G a=none)(ho:∃o,s'.heap.get? a=some o):∀b∈[a],(Mine B.toYc B.N B.s0 G b/\∃o,s'.heap.get? b=some o)/\(∀k,k≠i->b∉ad k)/\∀p∈B.tbp++pn,p.1≠b:=fun b hb=>by obtain⟨o1,o2,o3,o4,o5⟩:=Fr.off h sa;rw[omg hb];exact⟨⟨⟨o1,ga,o2,o3⟩,ho⟩,fun k _=>o4 k,o5⟩
theorem OwnOk.ex{sl:Sl}{h:Heap}{w:World}(q:OwnOk w F h (a::d) sl):∃o,h.get? a=some o:=by
 cases sl with
 |own _=>obtain⟨_,_,_,q,_⟩:=q;exact⟨_,q⟩
 |dic _ _=>obtain⟨_,_,_,_,q,_⟩:=q;exact⟨_,q⟩
 |dl _ _=>obtain⟨⟨_,_,_,q,_⟩,_⟩:=q;exact⟨_,q⟩
 |dd _ _=>obtain⟨⟨_,_,_,q,_⟩,_⟩:=q;exact⟨_,q⟩
 |_=>exact q.elim
theorem SlOk.mk{sl:Sl}(lk:Look Y s.heap x (.ref a))(q:OwnOk Y.w F s.heap (a::d) sl):SlOk Y F s x (a::d) sl:=by cases sl<;>first|exact q.elim|exact⟨⟨a,rfl,lk⟩,q⟩
theorem ze5{g:Ev.Env->a7 Sl}(he:OkO B.toYc (Nn B.N) e g)(is:List Nat)(hx:B.N[i]?=some x)(hl:Loc B.env.scope x)(hs:swapsWith e (some (.Name x p)) pos.line B.env=pure false):PS B (.Assign [.Name x p] e pos) fun τ=>(g (ygg (frzAt is τ))).bind fun sl=>some (.nx ((frzAt is τ).set i sl)):=fun hF q=>by
 obtain⟨sl,q1,e⟩:=obs q;cases e;obtain⟨G,ad',le,h'⟩:=hF.frzAt is;refine wpAny_Assign_Name (thn (he h'.at q1) fun u s1 z=>?_) hs;obtain⟨a,G1,rfl,u1,ga,sa,ow⟩:=z;exact(h'.after u1).store (d:=[a]) (sl:=sl) hx hl (Fr.ownOff h' sa u1 ga ow.ex) (fun k lk=>.mk lk (ow.to (fun b hb o e=>(k b hb).trans e) fun _ _ e=>e)) fun s2 _ _ h2=>⟨_,_,le.trans u1.ff,h2⟩
end Nb
section
namespace Nb
open PySem Spec PyProof.Rows Ev
variable {Q:Value->Shared->Prop}
variable {B:Bd}{pn:List (Addr×a7 Obj)}{ad:Nat->List Addr}{τ:List Sl}{F G:Fz}{s s' s1:Shared}{x y:Str}{i j:Nat}{is:List Nat}{e:Expr}{es:List Expr}{pos p px apos cpos:Pos}{Y:Yc}{E:Value->Shared->Prop}{t:T}{ts us:List T}{u:Value}{a:Addr}{g:Ev.Env->a7 (List T)}{h:Ev.Env->a7 T}
def Nm(x:Str):Prop:=(x==("__debug__":Str))=false/\(x==("__classdict__":Str))=false
theorem zdd(ok:Y.Ok)(n:Nm x)(l:Look Y s.heap x u)(q:Q u s):wpAny Y.M Y.A (eval (.Name x pos) Y.env) Q E s:=by
 rcases l with⟨k,m,z,e⟩|⟨k|k,c,e,z⟩
 .exact wpAny_Name (wpAny_loadName_local ok.kind k z e q) n.1
 .exact wpAny_Name (wpAny_loadName_cell ok.kind k e z q) n.1
 .exact wpAny_Name (wpAny_loadName_free ok.kind k e z q n.2) n.1
theorem quiet(ok:Y.Ok):interactive Y.env=false:=by simp[interactive,ok.kind]
structure Plain(Y:Yc)(pos:Pos)(es:List Expr):Prop where
 few:((backTo pos (starEach es Y.env)).all (fun x=>!x.1)&&(backToKw pos (keywordEach [] Y.env)).all (fun x=>x.1.isSome)&&decide (es.length+([]:List Keyword).length+(if([]:List Keyword).isEmpty then 0 else 1)<30))=true
 pl:(backTo pos (starEach es Y.env)).any (·.1)=false
 hd:es=[]\/∃x r,backTo pos (starEach es Y.env)=(false,x)::r
theorem zhs{id:String}{v:Value}(pl:Plain Y pos es)(h:wpAny Y.M Y.A (spliced (backTo pos (starEach es Y.env))) (fun us s1=>wpAny Y.M Y.A (call (.builtin id) (v::us)) Q E s1) E s):wpAny Y.M Y.A (callWith pos (.builtin id) [v] (backTo pos (starEach es Y.env)) []) Q E s:=by
 refine Calls.callWith_builtin pl.pl ?_;rcases pl.hd with rfl|⟨x,r,e⟩
 .unfold evalArgs;show wpAny Y.M Y.A (spliced [] >>= _) _ _ s;exact zxq (zyt h (fun us s1 q=>zxq (zxs (uc2 (zxq (zxs (zxq (zxs (zxs q)))))))) fun _ _ q=>q)
 .rw[e]at h ⊢;exact Calls.evalArgs_plain h
theorem zic{T id:String}{name:Str}(pa:PlainAttrs T)(slot:Slot T name id)(hty:typeOf (.builtin id)=pure (.type "method_descriptor"))(h:B.Fr pn ad τ F s)(n:Nm x)(l:Look B.toYc s.heap x (.ref a))(ht:∃o,s.heap.get? a=some o/\o.cls=.type T/\o.dict=none)(ha:Oks B.toYc (Nn B.N) es g)(q:g (ygg τ)=some ts)(hline:(apos.endLine==cpos.line)=true)(pl:Plain B.toYc cpos es)(k:∀G s1 us,B.Fr pn ad τ G s1->Up F s G s1->Reps B.w G ts us->wpAny B.M B.A (call (.builtin id) (.ref a::us)) Q E s1):wpAny B.M B.A (eval (.Call (.Attribute (.Name x px) name apos) es [] cpos) B.env) Q E s:=by
 obtain⟨o,h1,h2,h3⟩:=ht;refine wpAny_Call_method_late rfl pl.few hline rfl (zdd h.ok n l ⟨T,id,pa,slot,hty,⟨o,h1,h2⟩,fun b e=>?_,zhs pl (thn (ha cpos h.at q) fun us s1 z=>?_)⟩)
 .cases e;exact⟨o,h1,h3⟩
 .obtain⟨G,u,r⟩:=z;exact k G s1 us (h.after u) u r
theorem Fr.ownL(h:B.Fr pn ad τ F s)(hx:B.N[i]?=some x)(ht:τ[i]?=some (.own ts)):∃a qc n,ad i=[a]/\Look B.toYc s.heap x (.ref a)/\s.heap.get? a=some {cls:=.type "list",data:=.seq qc n}/\qc.size<=sizeLine/\qc.size=ts.length/\Reps B.w F ts qc.toList:=by
 obtain⟨⟨a,e,l⟩,q⟩:=h.slot i x _ hx ht;cases hd:ad i with
 |nil=>rw[hd]at e;cases e
 |cons b as=>rw[hd]at e q;cases e;obtain⟨rfl,qc,n,q1,q2,q3⟩:=q;exact⟨a,qc,n,rfl,l,q1,q2,by rw[<-q3.length,zx1],q3⟩
theorem Fr.lset{qc its':Array Value}{n n' k:Nat}{f:Obj->Obj}(h:B.Fr pn ad τ F s)(hx:B.N[i]?=some x)(ht:τ[i]?=some (.own ts))(ha:ad i=[a])(l:Look B.toYc s.heap x (.ref a))(e:s.heap.get? a=some {cls:=.type "list",data:=.seq qc n})(hf:f {cls:=.type "list",data:=.seq qc n}={cls:=.type "list",data:=.seq its' n'})(r:Reps B.w F us its'.toList)(hz:its'.size<=sizeLine):∃ad',B.Fr pn ad' (τ.set i (.own us)) F {s with heap:=s.heap.update a f,toks:=k}:=by
 have e':(s.heap.update a f).get? a=some {cls:=.type "list",data:=.seq its' n'}:=by rw[Heap.get?_update_self f e (by rw[hf];rfl),hf]
 exact⟨_,h.own' (d:=[a]) hx ht (fun b hb=>by rw[ha]at hb;exact hb) (fun b hb=>.inl (by rw[ha];exact hb)) (fun b hb=>by rw[omg hb];exact⟨_,e'⟩)
  (fun b o hb q=>(Heap.get?_update_other _ _ fun w=>hb (ue1.mpr w.symm)).trans q) rfl id fun lk=>.mk (lk _ l) ⟨rfl,its',n',e',hz,r⟩⟩
theorem zuk{id:String}{name:Str}{R:List T->List T->a7 (List T)}(pa_list:PlainAttrs "list")(slot:Slot "list" name id)(hty:typeOf (.builtin id)=pure (.type "method_descriptor"))(is:List Nat)(hx:B.N[i]?=some x)(n:Nm x)(ha:Oks B.toYc (Nn B.N) es g)(hline:(apos.endLine==cpos.line)=true)(pl:Plain B.toYc cpos es)(run:∀{s F ts us us' vs a qc n}{Q E:Value->Shared->Prop},F.In s.heap->s.heap.get? a=some {cls:=.type "list",data:=.seq qc n}->qc.size<=sizeLine->qc.size=us.length->Reps B.w F us qc.toList->Reps B.w F ts vs->R us ts=some us' ->(∀f its' n' k,f {cls:=.type "list",data:=.seq qc n}={cls:=.type "list",data:=.seq its' n'}->its'.size<=sizeLine->Reps B.w F us' its'.toList->Q .none {s with heap:=s.heap.update a f,toks:=k})->wpAny B.M B.A (call (.builtin id) (.ref a::vs)) Q E s):PS B (.Expr (.Call (.Attribute (.Name x px) name apos) es [] cpos) pos) fun τ=>(g (ygg (frzAt is τ))).bind fun ts=>match(frzAt is τ)[i]? with
   |some (.own us)=>(R us ts).map fun us'=>.nx ((frzAt is τ).set i (.own us'))
   |_=>none:=fun hF q=>by
 obtain⟨ts,q1,q⟩:=obs q;obtain⟨G,ad',le,h'⟩:=hF.frzAt is;split at q
 .rename_i us hu;obtain⟨us',hr,rfl⟩:=oms q;obtain⟨a,qc,m,e1,l,e2,_⟩:=h'.ownL hx hu;refine wpAny_Expr_any (zic pa_list slot hty h' n l ⟨_,e2,rfl,rfl⟩ ha q1 hline pl fun G1 s1 vs h1 u r=>?_) (quiet hF.ok);obtain⟨a',its',m',e1',l',e2',z,z2,r2⟩:=h1.ownL hx hu;rw[e1]at e1';cases e1';refine run h1.up.fh e2' z z2 r2 r hr fun f its' n' k hf z' r'=>?_;obtain⟨ad2,h2⟩:=h1.lset (k:=k) hx hu e1 l' e2' hf r' z';exact⟨_,_,le.trans u.ff,h2⟩
 .cases q
theorem yeb(e:s.heap.get? a=some {cls:=.type "list",data:=.seq qc n}):s.TypeIs (.ref a) "list":=⟨_,e,rfl⟩
theorem zgh(is:List Nat)(hx:B.N[i]?=some x)(n:Nm x)(he:Oke B.toYc (Nn B.N) e h)(h1:starEach [e] B.env=[(false,eval e B.env)])(hline:(apos.endLine==cpos.line)=true)(pl:Plain B.toYc cpos [e]):PS B (.Expr (.Call (.Attribute (.Name x px) "append" apos) [e] [] cpos) pos) fun τ=>(h (ygg (frzAt is τ))).bind fun t=>match(frzAt is τ)[i]? with
   |some (.own us)=>if us.length<SZ then some (.nx ((frzAt is τ).set i (.own (us++[t]))))else none
   |_=>none:=fun hF q=>by
 refine zuk (R:=fun us ts=>match ts with
  |[t]=>if us.length<SZ then some (us++[t])else none
  |_=>none) PySem.F.plainAttrs_list PySem.F.slot_list_append PySem.F.type_list_append is hx n (za5 he zcq h1) hline pl (fun{s G ts us us' vs a qc n Q E}hf e2 z z2 r rs q k=>?_) hF ?_
 .rcases ts with _|⟨t,_|_⟩<;>first|(cases q;done)|skip
  obtain⟨u,vr,rfl,r1,r2⟩:=rs;cases r2;replace q:(if us.length<SZ then some (us++[t])else none)=some us':=q;split at q
  .rename_i hz;cases q;have hz':qc.size+1<=sizeLine:=by rw[z2];exact zcp hz
   exact call_meets PySem.F.slot_list_append (yeb e2) PySem.F.entry_list_append (PySem.F.args_list_append_2 _ _) (PySem.list_append a qc n u z) ⟨e2,k (Obj.mapSeq (·.push u)) _ _ _ rfl (by rw[Array.size_push];exact hz') (by simpa using r.app (Reps.cons r1 rfl:Reps _ _ [t] [u]))⟩
  .cases q
 .obtain⟨t,q1,q⟩:=obs q;dsimp only;rw[q1];dsimp only[xbs];split at q
  .rename_i us e;split at q
   .cases q;rw[if_pos (by assumption)];rfl
   .cases q
  .cases q
theorem zk5(is:List Nat)(hx:B.N[i]?=some x)(n:Nm x)(he:Oke B.toYc (Nn B.N) e h)(h1:starEach [e] B.env=[(false,eval e B.env)])(hline:(apos.endLine==cpos.line)=true)(pl:Plain B.toYc cpos [e]):PS B (.Expr (.Call (.Attribute (.Name x px) "extend" apos) [e] [] cpos) pos) fun τ=>(h (ygg (frzAt is τ))).bind fun t=>match(frzAt is τ)[i]?,t with
   |some (.own us),.lst vs=>if us.length+vs.length<=SZ then some (.nx ((frzAt is τ).set i (.own (us++vs))))else none
   |_,_=>none:=fun hF q=>by
 refine zuk (R:=fun us ts=>match ts with
  |[.lst vs]=>if us.length+vs.length<=SZ then some (us++vs)else none
  |_=>none) PySem.F.plainAttrs_list PySem.F.slot_list_extend PySem.F.type_list_extend is hx n (za5 he zcq h1) hline pl (fun{s G ts us us' vs a qc n Q E}hf e2 z z2 r rs q k=>?_) hF ?_
 .split at q
  .rename_i ws;obtain⟨u,vr,rfl,⟨b,js,m,rfl,b1,b2,b3⟩,r2⟩:=rs;cases r2;split at q
   .rename_i hz;cases q;have zj:js.size=ws.length:=by rw[<-b3.length,zx1]
    have hz':qc.size+js.size<=sizeLine:=by rw[z2,zj];exact zcp hz
    exact call_meets PySem.F.slot_list_extend (yeb e2) PySem.F.entry_list_extend (PySem.F.args_list_extend_2 _ _) (AutoSeq1.list_extend_list_list_0 a qc n b js m (by unfold Builtin.List.listTooLong;simp;lia) z (by lia)) ⟨e2,hf _ _ b1,k (Obj.mapSeq (·++js)) _ _ _ rfl (by rw[Array.size_append];exact hz') (by simpa using r.app b3)⟩
   .cases q
  .cases q
 .obtain⟨t,q1,q⟩:=obs q;dsimp only;rw[q1];dsimp only[xbs];split at q
  .rename_i us vs e;rw[e];split at q
   .cases q;dsimp only;rw[if_pos (by assumption)];rfl
   .cases q
  .cases q
theorem zjx{α:Type}(l:List α):l.eraseIdx (l.length-1)=l.dropLast:=by rw[List.dropLast_eq_take,List.eraseIdx_eq_take_drop_succ];simp;lia
theorem zlc(hF:B.Fr pn ad τ F s)(hx:B.N[i]?=some x)(n:Nm x)(hline:(apos.endLine==cpos.line)=true)(ht:τ[i]?=some (.own ts))(hl:ts[ts.length-1]?=some t)(k:∀ad' G s1 u,F.le G->B.Fr pn ad' (τ.set i (.own ts.dropLast)) G s1->Rep B.w G t u->Q u s1):wpAny B.M B.A (eval (.Call (.Attribute (.Name x px) "pop" apos) [] [] cpos) B.env) Q E s:=by
 obtain⟨a,qc,m,e1,l,e2,_⟩:=hF.ownL hx ht;refine zic PySem.F.plainAttrs_list PySem.F.slot_list_pop PySem.F.type_list_pop hF n l ⟨_,e2,rfl,rfl⟩ zcq rfl hline ⟨rfl,rfl,.inl rfl⟩ fun G1 s1 vs h1 u r=>?_;cases r;obtain⟨a',its',m',e1',l',e2',z,z2,r2⟩:=h1.ownL hx ht;rw[e1]at e1';cases e1';obtain⟨v,hv,rv⟩:=r2.get hl;refine call_meets PySem.F.slot_list_pop (yeb e2') PySem.F.entry_list_pop (PySem.F.args_list_pop_1 _) (MeetsSeq.list_pop_last a its' m' v (by rw[z2,<-zx9];exact hv) z) ⟨e2',?_⟩;have el:(its'.eraseIdxIfInBounds (its'.size-1)).toList=its'.toList.dropLast:=by rcases its' with⟨l⟩;rw[zyl,List.eraseIdxIfInBounds_toArray,zjx]
 have rd:Reps B.w G1 ts.dropLast its'.toList.dropLast:=by have:=r2.length;rw[List.dropLast_eq_take,List.dropLast_eq_take,this];exact r2.take _
 obtain⟨ad2,h2⟩:=h1.lset (k:=s1.toks) (us:=ts.dropLast) (f:=Obj.mapSeq (·.eraseIdxIfInBounds (its'.size-1))) hx ht e1 l' e2' rfl (by rw[el];exact rd) (by rw[<-zx1,el,List.length_dropLast,zx1];lia);exact k _ _ _ _ u.ff h2 rv
end Nb
section
namespace Nb
open PySem Spec PyProof.Rows Ev
variable {Y:Yc}{N:Str->Nat->Prop}{F G:Fz}{s s1:Shared}{r:Ev.Env}{E:Value->Shared->Prop}{a b c e:Expr}{f g h:Ev.Env->a7 T}{pos p2:Pos}{u v:Value}{ts us ks vs:List T}{t:T}{rest:List Expr}{x y:T}
def zf9(b:Expr):Prop:=∀o i,subscripted b false o i=operate [o,i] (getItem o i)
theorem zki{value slice:Expr}{o i:Value}{T id:String}{Q:Value->Shared->Prop}(hl:typeLookup (.type T) "__getitem__"=pure (some (.builtin id)))(hs:zf9 slice)(hT:s.TypeIs o T)(h:wpAny Y.M Y.A (getItem o i) Q E s):wpAny Y.M Y.A (subscriptTail value slice o i) Q E s:=tail_any hT hl h (hs o i)
theorem zmg{n j:Nat}{i:Int}(h:ixI n i=some j):j<n/\seqIndex? i n=some j/\(if 0<=i then i.toNat=j else(i+(n:Int)).toNat=j /\ -(n:Int)<=i):=by
 unfold ixI at h;split at h
 .rename_i h0;split at h
  .rename_i h1;cases h;exact⟨by lia,seqIndex_of h0 h1,by rw[if_pos h0]⟩
  .cases h
 .split at h
  .rename_i h0 h1;cases h;exact⟨by lia,seqIndex_neg (by lia) h1,by rw[if_neg h0];exact⟨rfl,h1⟩⟩
  .cases h
theorem zvu{value slice:Expr}(hu:Y.Rm)(hF:F.In s.heap)(hx:Rep Y.w F x u)(hy:Rep Y.w F y v)(h:ya6 x y=some t)(hs:zf9 slice):wpAny Y.M Y.A (subscriptTail value slice u v) (Res Y.w F s t) E s:=by
 have l63:(sizeLine:Nat)<2 ^ 63:=by rw[ub5];decide
 have dic:∀{ks vs:List T},x=.dic ks vs->ya6 (.dic ks vs) y=some t->wpAny Y.M Y.A (subscriptTail value slice u v) (Res Y.w F s t) E s:=fun{ks vs}e h=>by
  subst e;replace h:(if yac ks y=true then yae ks vs y else none)=some t:=h;split at h
  .rename_i hk;obtain⟨d,us,rfl,D,rv⟩:=hx.dat hF;rw[za2 (by rw[<-rv.length];exact D.len)]at h;obtain⟨i,e1,e2⟩:=obs h;obtain⟨w,e3,rw'⟩:=rv.get e2;exact zki slot_dict_getitem.lookup hs D.ty (zgu (rdy hu hF D hk hy) (v:=w) (by rw[za2 D.len,e1];exact e3) (zat hF rw'))
  .cases h
 have seq:∀{ts:List T}{qc:Array Value}{i:Int},yb3 ts i=some t->Reps Y.w F ts qc.toList->∃j w,ixI qc.size i=some j/\qc[j]?=some w/\Rep Y.w F t w:=fun{ts qc i}h r=>by obtain⟨j,e1,e2⟩:=obs h;obtain⟨w,e3,rw'⟩:=r.get e2;exact⟨j,w,by rw[zbf r];exact e1,by rw[<-zx9];exact e3,rw'⟩
 cases x with
 |tup ts=>
  cases y with
  |int i=>
   obtain⟨_,rfl⟩:=hy;obtain⟨a,o,qc,n,rfl,f,c,d,z,r⟩:=hx;obtain⟨j,w,e1,e2,e3⟩:=seq h r;obtain⟨q1,q2,q3⟩:=zmg e1;have hi : -(qc.size:Int)<=i/\i<qc.size:=by split at q3<;>lia
   have p:IsTup s.heap a qc:=⟨o,hF _ _ f,c,n,d⟩;exact zki PyProof.Rows.slot_tuple_getitem.lookup hs p.typeIs (getItem_tuple (j:=j) p (by lia) (by lia) q2 e2 (zax hF e3))
  |_=>cases h
 |lst ts=>
  cases y with
  |int i=>
   obtain⟨_,rfl⟩:=hy;obtain⟨a,qc,n,rfl,f,z,r⟩:=hx;obtain⟨j,w,e1,e2,e3⟩:=seq h r;obtain⟨q1,q2,q3⟩:=zmg e1;have p:s.heap.IsList a qc:=⟨_,hF _ _ f,rfl,n,rfl⟩;refine zki slot_list_getitem.lookup hs p.typeIs ?_;split at q3
   .rename_i h0;exact wpAny_getItem_list p h0 (by lia) (by rw[q3];exact e2) (zax hF e3)
   .rename_i h0;exact wpAny_getItem_list_neg p (by lia) q3.2 (by lia) (by rw[q3.1];exact e2) (zax hF e3)
  |_=>cases h
 |dic ks vs=>exact dic rfl h
 |_=>cases y<;>cases h
theorem zu5(hu:Y.Rm)(ha:Oke Y N a f)(hb:Oke Y N b g)(hs:zf9 b):Oke Y N (.Subscript a b pos) fun r=>(f r).bind fun x=>(g r).bind fun y=>ya6 x y:=fun A e=>by obtain⟨x,e1,e⟩:=obs e;obtain⟨y,e2,e⟩:=obs e;refine Subscript_ (thn (ha A e1) fun v s1 z=>?_);obtain⟨G,u1,q1⟩:=z;refine thn (hb (A.up u1) e2) fun u s2 z=>?_;obtain⟨G2,u2,q2⟩:=z;exact thn (zvu hu u2.fh (q1.mono u2.ff) q2 e hs) fun w s3 z=>Res.mk (u1.trans u2) z
def Okp(Y:Yc)(N:Str->Nat->Prop)(e:a7 Expr)(f:Ev.Env->a7 (a7 T)):Prop :=
 ∀{s F r o E},At Y N r F s->(f r).bind asI=some o->wpAny Y.M Y.A (evalPart e Y.env) (fun u s'=>∃G,Up F s G s'/\IsPart u o) E s
theorem zog:Okp Y N none fun _=>some none:=fun A q=>by cases q;rw[evalPart_none];exact zxs ⟨_,Up.tok A.fh,.none⟩
theorem zof(h:Oke Y N a f):Okp Y N (some a) fun r=>(f r).map some:=fun A q=>by
 obtain⟨o,e1,q⟩:=obs q;obtain⟨t,e2,rfl⟩:=oms e1;rw[evalPart_some];refine thn (h A e2) fun u s1 z=>?_;obtain⟨G,u1,q1⟩:=z;cases t with
 |int i=>cases q;obtain⟨_,rfl⟩:=q1;exact⟨G,u1,.int ..⟩
 |_=>cases q
theorem zf3{qc:Array Value}{lo hi:a7 Int}(r:Reps Y.w F ts qc.toList):Reps Y.w F (cut ts lo hi) ((qc.toList.drop (yam qc.size 0 lo)).take (yam qc.size qc.size hi-yam qc.size 0 lo)):=by unfold cut;rw[zbf r];exact(r.drop _).take _
theorem zu0{lo hi:a7 Expr}{g h:Ev.Env->a7 (a7 T)}(ha:Oke Y N a f)(hl:Okp Y N lo g)(hh:Okp Y N hi h):Oke Y N (.Subscript a (.Slice lo hi none p2) pos) fun r=>(f r).bind fun x=>(g r).bind fun l=>(h r).bind fun u=>(asI l).bind fun l'=>(asI u).bind fun u'=>yfy x l' u':=fun{s F r t E}A e=>by
 obtain⟨x,e1,e⟩:=obs e;obtain⟨l,e2,e⟩:=obs e;obtain⟨u,e3,e⟩:=obs e;obtain⟨l',e4,e⟩:=obs e;obtain⟨u',e5,e⟩:=obs e;refine Subscript_ (thn (ha A e1) fun v s1 z=>?_);obtain⟨G,u1,q1⟩:=z;refine wpAny_Slice (thn (hl (A.up u1) (ud8.mpr ⟨l,e2,e4⟩)) fun vl s2 z=>?_);obtain⟨G2,u2,pl⟩:=z;refine thn (hh ((A.up u1).up u2) (ud8.mpr ⟨u,e3,e5⟩)) fun vu s3 z=>?_;obtain⟨G3,u3,pu⟩:=z;rw[evalPart_none];refine zxs ?_;have up:=(u1.trans u2).trans u3;have u4:Up F s G3 {s3 with heap:=s3.heap.push {cls:=.type "slice",data:=.fields #[vl,vu,.none]} }:=up.trans (Up.side (k:=s3.toks) u3.fh);have q4:=q1.mono (u2.ff.trans u3.ff);show wpAny Y.M Y.A (subscriptTail a (.Slice lo hi none p2) v (.ref s3.heap.objs.size)) (Res Y.w F s t) E {s3 with heap:=s3.heap.push {cls:=.type "slice",data:=.fields #[vl,vu,.none]} };have sl:=Heap.IsSliceOf.new s3.heap vl vu .none;cases x with
 |tup ts=>
  cases e;obtain⟨b,o,qc,n,rfl,f,c,d,z,r⟩:=q4;have p:IsTup (s3.heap.push {cls:=.type "slice",data:=.fields #[vl,vu,.none]}) b qc:=⟨o,u4.fh _ _ f,c,n,d⟩;refine tail_any (ops:=[.ref s3.heap.objs.size,.ref b]) p.typeIs PyProof.Rows.slot_tuple_getitem.lookup ?_ (by with_unfolding_all rfl);by_cases hw:yam qc.size 0 l'=0/\yam qc.size qc.size u'=qc.size
  .refine HT.get_whole p sl pl pu hw (Res.mk u4 (zax u4.fh ⟨b,o,qc,n,rfl,f,c,d,z,?_⟩));have:=zf3 (lo:=l') (hi:=u') r;rw[hw.1,hw.2,List.drop_zero,List.take_of_length_le (by simp)]at this;exact this
  .refine HT.getItem_tuple_cut p sl pl pu hw (Res.mk u4 (zds (k:=s3.toks) u4.fh (zf3 r) ?_)) z;rw[zy3,ue0,zx1];lia
 |lst ts=>cases e;obtain⟨b,qc,n,rfl,f,z,r⟩:=q4;have p:(s3.heap.push {cls:=.type "slice",data:=.fields #[vl,vu,.none]}).IsList b qc:=⟨_,u4.fh _ _ f,rfl,n,rfl⟩;refine tail_any (ops:=[.ref s3.heap.objs.size,.ref b]) p.typeIs slot_list_getitem.lookup ?_ (by with_unfolding_all rfl);refine wpAny_getItem_list_slice p sl pl pu .none (by simp) ?_ z;have ez:=HT.slicePick_cut qc.toList l' u';rw[Array.toArray_toList,zx1]at ez;rw[ez];refine Res.mk u4 (zdt (k:=s3.toks) u4.fh (zf3 r) ?_);rw[zy3,ue0,zx1];lia
 |_=>cases e
end Nb
section
namespace Nb
open PySem Spec PyProof.Rows Ev
variable {ys:Array (Int×Tok)}
variable {Y:Yc}{N:Str->Nat->Prop}{F G:Fz}{s s1:Shared}{r:Ev.Env}{E:Value->Shared->Prop}{a b c e o:Expr}{f g h:Ev.Env->a7 T}{pos p p2 apos cpos:Pos}{u v:Value}{ts us ks vs:List T}{t:T}{x:Str}{h':Heap}{k:Nat}
theorem Up.kept(hF:F.In s.heap)(hk:∀b o,s.heap.get? b=some o->h'.get? b=some o):Up F s F {s with heap:=h',toks:=k}:=⟨hk,rfl,id,fun _ _ e=>e,fun b o e=>hk b o (hF b o e),fun _ z=>.inl z⟩
theorem Up.laid{a:Addr}{o:Obj}(hF:F.In s.heap)(hk:∀b o,s.heap.get? b=some o->h'.get? b=some o)(z:s.heap.get? a=none)(e:h'.get? a=some o):Up F s (fup F a o) {s with heap:=h',toks:=k} :=
 ⟨hk,rfl,id,zbm (hF.none z),fun b u q=>by
  unfold fup at q;split at q
  .rename_i w;cases q;rw[w];exact e
  .exact hk _ _ (hF b u q),fun b q=>by
  unfold fup at q;split at q
  .rename_i w;exact .inr (by rw[w];exact z)
  .exact .inl q⟩
def Bl(Y:Yc)(f:Value)(g:T->a7 T):Prop:=∀{s F x t u E},St Y.toPc Y.A Y.stack F s->Rep Y.w F x u->g x=some t->wpAny Y.M Y.A (call f [u]) (Res Y.w F s t) E s
theorem l63:(sizeLine:Nat)<2 ^ 63:=by rw[ub5];decide
theorem zwm:Bl Y (.builtin "len") (yb2 .len):=fun{s F x t u E}S r h=>by
 have:=l63;cases x with
 |tup ts=>cases h;obtain⟨a,o,qc,n,rfl,f,c,d,z,r⟩:=r;exact len_tuple ⟨o,S.fh _ _ f,c,n,d⟩ (by lia) (zat S.fh ⟨_,by rw[zbf r]⟩)
 |lst ts=>cases h;obtain⟨a,qc,n,rfl,f,z,r⟩:=r;exact Calls.call_len_list ⟨_,S.fh _ _ f,rfl,n,rfl⟩ (by lia) (zat S.fh ⟨_,by rw[zbf r]⟩)
 |_=>cases h
theorem zwn:Bl Y (.type "int") (yb2 .toInt):=fun{s F x t u E}S r h=>by
 cases x with
 |int i=>cases h;obtain⟨_,rfl⟩:=r;exact call_int_int (zax S.fh ⟨_,rfl⟩)
 |bl b=>cases h;cases r;exact call_int_bool (zat S.fh ⟨_,rfl⟩)
 |_=>cases h
theorem ztj:Bl Y (.type "list") (yb2 .toList):=fun{s F x t u E}S r h=>by
 have fin:∀{ts:List T}{qc:Array Value},Reps Y.w F ts qc.toList->qc.size<=sizeLine->∀h' c',(∀b o',s.heap.get? b=some o'->h'.get? b=some o')->h'.get? s.heap.objs.size=some {cls:=.type "list",dict:=none,data:=.seq qc c',slots:=#[]}->Res Y.w F s (.lst ts) (.ref s.heap.objs.size) {s with heap:=h'}:=fun{ts qc}r z h' c' kp e=>⟨_,Up.laid (k:=s.toks) S.fh kp zac e,_,qc,c',rfl,zbs,z,r.mono (zbm (S.fh.none zac))⟩;cases x with
 |tup ts=>cases h;obtain⟨a,o,qc,n,rfl,f,c,d,z,r⟩:=r;exact call_list_seq a (.inr rfl) (S.fh _ _ f) c d (fun h' c' kp e=>fin r z h' c' kp e) z
 |lst ts=>cases h;obtain⟨a,qc,n,rfl,f,z,r⟩:=r;exact call_list_seq a (.inl rfl) (S.fh _ _ f) rfl rfl (fun h' c' kp e=>fin r z h' c' kp e) z
 |_=>cases h
theorem zpl:Bl Y (.type "tuple") (yb2 .toTuple):=fun{s F x t u E}S r h=>by
 cases x with
 |tup ts=>cases h;obtain⟨a,o,qc,n,rfl,f,c,d,z,r⟩:=r;exact call_tuple_same ⟨o,S.fh _ _ f,c,n,d⟩ (zax S.fh ⟨a,o,qc,n,rfl,f,c,d,z,r⟩)
 |lst ts=>cases h;obtain⟨a,qc,n,rfl,f,z,r⟩:=r;exact call_tuple_list ⟨_,S.fh _ _ f,rfl,n,rfl⟩ (fun h' kp=>Res.mk (Up.kept (k:=s.toks) S.fh kp) (zl8 (k:=s.toks) (s:={s with heap:=h'}) (Up.kept (k:=s.toks) S.fh kp).fh r z)) z
 |_=>cases h
theorem ziu:∀{ts:List T}{us:List Value}{ns:List Int},Reps Y.w F ts us->ycn ts=some ns->∃ys:Array (Int×Tok),us=(intItems ys).toList/\ns=ys.toList.map (·.1)
 |[],_,_,h,e=>by cases h;cases e;exact⟨#[],by simp[intItems],rfl⟩
 |t::ts,_,_,⟨u,r,e1,h1,h2⟩,e=>by
  subst e1;cases t with
  |int i=>obtain⟨k,rfl⟩:=h1;obtain⟨ms,e1,rfl⟩:=oms e;obtain⟨ys,q1,q2⟩:=ziu h2 e1;exact⟨#[(i,k)]++ys,by rw[q1];simp[intItems],by rw[q2];simp⟩
  |_=>cases e
theorem zwl(cm:Y.calm){f:Value}{g:List Int->a7 T}{k:Array (Int×Tok)->Nat}(M:∀{s l ys Q E},Y.A.handled=none->s.heap.IsList l (intItems ys)->0<ys.size->(∀v h' tk,(intItems ys)[k ys]?=some v->(∀b o,s.heap.get? b=some o->h'.get? b=some o)->Q v {s with heap:=h',toks:=tk})->wpAny Y.M Y.A (call f [.ref l]) Q E s)(B:∀ys,0<ys.size->g (ys.toList.map (·.1))=some (.int (numAt ys (k ys))))(Z:g []=none):Bl Y f (yfm g):=fun{s F x t u E}S r h=>by
 cases x with
 |lst ts=>
  obtain⟨ns,hns,h⟩:=obs h;obtain⟨a,qc,n,rfl,f,z,r⟩:=r;obtain⟨ys,q1,rfl⟩:=ziu r hns;have e:qc=intItems ys:=Array.toList_inj.mp q1;subst e;have hsz:0<ys.size:=Nat.pos_of_ne_zero fun w=>by rw[show ys.toList=[]from by simpa using w,List.map_nil,Z]at h;cases h
  rw[B ys hsz]at h;cases h;refine M (S.hd cm) ⟨_,S.fh _ _ f,rfl,n,rfl⟩ hsz fun v h' tk hv hk=>?_;obtain⟨t',rfl⟩:=intItems_at hv;exact⟨F,Up.kept S.fh hk,_,rfl⟩
 |_=>cases h
theorem zp9{i:Nat}(h:i<ys.size):numAt ys i∈ys.toList.map (·.1):=by rw[numAt_eq];exact getD_mem (by rw[zxt,zx1];exact h)
theorem zqt{a:Int}(h:a∈ys.toList.map (·.1)):∃j,j<=ys.size-1/\a=numAt ys j:=by obtain⟨j,hj,rfl⟩:=mem_getD h;rw[zxt,zx1]at hj;exact⟨j,by lia,(numAt_eq ..).symm⟩
theorem zpm(cm:Y.calm):Bl Y (.builtin "min") (yb2 .least)  :=zwl cm min_intList (fun ys h=>by obtain⟨b1,b2⟩:=argBest_lt (numAt ys) (ys.size-1);rw[yds,List.min?_eq_some_iff.mpr ⟨zp9 (Nat.lt_of_le_of_lt b1 (by lia)),fun a ha=>by obtain⟨j,hj,rfl⟩:=zqt ha;exact b2 j hj⟩];rfl) rfl
theorem zti(cm:Y.calm):Bl Y (.builtin "max") (yb2 .most)  :=zwl cm max_intList (fun ys h=>by obtain⟨b1,b2⟩:=argBest_gt (numAt ys) (ys.size-1);rw[yey,List.max?_eq_some_iff.mpr ⟨zp9 (Nat.lt_of_le_of_lt b1 (by lia)),fun a ha=>by obtain⟨j,hj,rfl⟩:=zqt ha;exact b2 j hj⟩];rfl) rfl
theorem zg1:∀{ts:List T}{us:List Value}{bs:List Bool},Reps Y.w F ts us->zdm ts=some bs->us=bs.map .bool
 |[],_,_,h,e=>by cases h;cases e;rfl
 |t::ts,_,_,⟨u,r,e1,h1,h2⟩,e=>by
  subst e1;cases t with
  |bl i=>cases h1;obtain⟨ms,e1,rfl⟩:=oms e;rw[zg1 h2 e1];rfl
  |_=>cases e
theorem zg5:∀(l:List Bool),((List.range l.length).any fun i=>(l[i]?).getD true)=l.any id
 |[]=>rfl
 |a::l=>by rw[zya,List.range_succ_eq_map,ub7,List.any_map,ub7,<-zg5 l];rfl
theorem zwo(cm:Y.calm):Bl Y (.builtin "any") (yb2 .any):=fun{s F x t u E}S r h=>by
 cases x with
 |lst ts=>
  obtain⟨bs,hb,rfl⟩:=oms h;obtain⟨l,qc,n,rfl,f,z,r⟩:=r;have ei:=zg1 r hb;have hl:s.heap.IsList l qc:=⟨_,S.fh _ _ f,rfl,n,rfl⟩;refine call_any_walk (wpAny_pyIter_list hl ?_);refine⟨s.heap.objs.size,[s.heap.objs.size,l],[s.heap.objs.size],qc.size,_,_,fun i=>(bs[i]?).getD true,rfl,Walks.list (A:=Y.A.in1) (S.hd cm) _ l (zye (zx5 (S.fh _ _ f))) qc,
   ⟨⟨_,zxx _ rfl,rfl,rfl⟩,hl.push _⟩,fun i v s' Q' E' hP hQ=>?_,fun h' tk hk=>?_⟩
  .have hP':(bs.map Value.bool)[i]?=some v:=by rw[<-ei];simpa using hP
   rw[zx0]at hP';obtain⟨b,hb,rfl⟩:=oms hP';replace hQ:Q' ((bs[i]?).getD true) s':=hQ;rw[hb]at hQ;exact wpAny_truthy_bool hQ
  .have e:qc.size=bs.length:=by rw[<-zx1,ei,zxt]
   rw[e,zg5];exact⟨F,Up.kept S.fh fun b o eo=>hk b o (fun hm=>by rw[omg hm]at eo;exact zy5 _ (zx5 eo)) (zxr _ eo),rfl⟩
 |_=>cases h
theorem ye9(ha:Oke Y N a f)(hs:starEach [a] Y.env=[(false,eval a Y.env)]):Oks Y N [a] fun r=>(f r).bind fun x=>some [x]:=fun{s F r ts E}pos A q=>by refine za5 ha zcq (by rw[hs];rfl) pos A ?_;exact q
theorem zu7{u:Value}{g:T->a7 T}(hc:Bl Y u g)(hu:(∃id,u=.builtin id)\/∃T,u=.type T)(hg:Gl Y x)(hm:Y.mg x=none)(hv:bootBuiltins x=some u)(hn:x≠"__name__")(hd:(x==("__debug__":Str))=false)(ha:Oke Y N a f)(hs:starEach [a] Y.env=[(false,eval a Y.env)]):Oke Y N (.Call (.Name x p) [a] [] pos) fun r=>(f r).bind g:=fun{s F r t E}A q=>by
 obtain⟨x1,e1,q⟩:=obs q;refine wpAny_Call_Name_kw (zcf A hg hm hv ?_ hn hd);have main:=thn (ye9 ha hs pos A (ts:=[x1]) (E:=E) (by simp only[e1];rfl)) fun us s1 ⟨G,u1,r1⟩=>show wpAny Y.M Y.A (call u us) (Res Y.w F s t) E s1 by obtain⟨w,z,rfl,h1,h2⟩:=r1;cases h2;exact thn (hc (A.up u1).toSt h1 q) fun _ _ z=>Res.mk u1 z
 rcases hu with⟨id,rfl⟩|⟨T,rfl⟩
 .exact PyProof.Rows.callWith_builtin1 main (by rw[hs];rfl) rfl
 .exact PyProof.Rows.callWith_type1 main (by rw[hs];rfl) rfl
def tyS:Ty->String
 |.tint=>"int"
 |.tbool=>"bool"
theorem zvr{x:T}{k:Ty}(hF:F.In s.heap)(r:Rep Y.w F x u)(hq:yec x k=some t):wpAny Y.M Y.A (call (.builtin "isinstance") [u,.type (tyS k)]) (Res Y.w F s t) E s:=by
 suffices w:(∀a,x≠.adr a)->wpAny Y.M Y.A (call (.builtin "isinstance") [u,.type (tyS k)]) (Res Y.w F s (.bl (yee x k))) E s by cases x<;>first|(cases hq;exact w fun _ z=>nomatch z)|cases hq
 intro nx;have fT:Res Y.w F s (.bl (yee x k)) (.bool (yee x k)) s:=zax hF rfl;have fF:Res Y.w F s (.bl (yee x k)) (.bool (yee x k)) {s with toks:=s.toks+1}:=zat hF rfl;cases x with
 |non=>cases r;cases k<;>first|exact IsiPair.NoneType_int fF|exact IsiPair.NoneType_bool fF
 |bl b=>cases r;cases k<;>first|exact IsiPair.bool_int fT|exact IsiPair.bool_bool fT
 |int b=>obtain⟨_,rfl⟩:=r;cases k<;>first|exact IsiPair.int_int fT|exact IsiPair.int_bool fF
 |str b=>obtain⟨_,rfl⟩:=r;cases k<;>first|exact IsiPair.str_int fF|exact IsiPair.str_bool fF
 |tup ts=>obtain⟨a,o,qc,n,rfl,f,c,_⟩:=r;cases k<;>first|exact IsiPair.tuple_int (hF _ _ f) c fF|exact IsiPair.tuple_bool (hF _ _ f) c fF
 |lst ts=>obtain⟨a,qc,n,rfl,f,_⟩:=r;cases k<;>first|exact IsiPair.list_int (hF _ _ f) rfl fF|exact IsiPair.list_bool (hF _ _ f) rfl fF
 |adr a=>exact absurd rfl (nx a)
 |dic ks ts=>obtain⟨a,o,es,ep,rfl,f,_,q,_⟩:=r;cases k<;>first|exact IsiPair.dict_int (hF _ _ f) q.ex.1 fF|exact IsiPair.dict_bool (hF _ _ f) q.ex.1 fF
theorem zlm{ty:Str}{k:Ty}(hb:bootBuiltins ty=some (.type (tyS k)))(hn:ty≠"__name__")(hd:(ty==("__debug__":Str))=false)(hmt:Y.mg ty=none)(hgt:Gl Y ty)(hm:Y.mg "isinstance"=none)(hg:Gl Y "isinstance")(ha:Oke Y N a f)(hs:starEach [a,.Name ty p2] Y.env=(false,eval a Y.env)::starEach [.Name ty p2] Y.env):Oke Y N (.Call (.Name "isinstance" p) [a,.Name ty p2] [] pos) fun r=>(f r).bind fun x=>yec x k:=fun{s F r t E}A q=>by
 obtain⟨x1,e1,q⟩:=obs q;refine wpAny_Call_Name_kw (zcf A hg hm boot_isinstance ?_ (by decide) (by decide));refine PyProof.Rows.callWith_builtin1 ?_ hs rfl;rw[hs];refine Calls.spliced_cons (thn (ha A e1) fun u s1 z=>?_);obtain⟨G,u1,r1⟩:=z;refine Calls.spliced_cons (zcf (A.up u1) hgt hmt hb ?_ hn hd);exact Calls.spliced_nil (thn (zvr u1.fh r1 q) fun _ _ z=>Res.mk u1 z)
theorem zo7{x y:T}(hx:ycu x=true)(hy:ycu y=true):dpP x y=0:=by cases x<;>cases y<;>first|(cases hx;done)|(cases hy;done)|rfl
theorem zo8{y:T}{xs:List T}(hy:ycu y=true)(hx:xs.all ycu=true):dpI y xs=true:=by unfold dpI;rw[uc1]at hx ⊢;intro z hz;rw[zo7 (hx z hz) hy];rfl
theorem zh8:∀{ts:List T}{x:T}{i:Nat},zbv x ts=some i->∃t,ts[i]?=some t/\Ev.eqT t x=true/\∀(j:Nat)u,j<i->ts[j]?=some u->Ev.eqT u x=false
 |[],_,_,h=>by cases h
 |y::ts,x,i,h=>by
  simp only[Ev.zbv]at h;split at h
  .rename_i e;cases h;exact⟨y,rfl,e,fun j u hj=>absurd hj (Nat.not_lt_zero _)⟩
  .rename_i e;obtain⟨k,e1,rfl⟩:=oms h;obtain⟨t,h1,h2,h3⟩:=zh8 e1;refine⟨t,by simpa using h1,h2,fun j u hj hu=>?_⟩;cases j with
   |zero=>cases hu;simpa using e
   |succ j=>exact h3 j u (by lia) (by simpa using hu)
def Ml(Y:Yc)(id:String)(m:Mt):Prop:=∀{s F x y t u v E},St Y.toPc Y.A Y.stack F s->Rep Y.w F x u->Rep Y.w F y v->yb7 m x y=some t->wpAny Y.M Y.A (call (.builtin id) [u,v]) (Res Y.w F s t) E s
theorem zii(hu:Y.Rm):Ml Y "list.index" .index:=fun{s F x y t u v E}S hx hy h=>by
 cases x with
 |lst ts=>
  replace h:(if((ycu y&&ts.all ycu)||dpI y ts)=true then(zbv y ts).map fun(i:Nat)=>T.int (i:Int)else none)=some t:=h;split at h
  .rename_i hf;have hf:dpI y ts=true:=by
    rw[Bool.or_eq_true]at hf;rcases hf with hf|hf
    .rw[zxw]at hf;exact zo8 hf.1 hf.2
    .exact hf
   obtain⟨i,hi,rfl⟩:=oms h;obtain⟨a,qc,n,rfl,f,z,r⟩:=hx;obtain⟨t0,a1,a2,a3⟩:=zh8 hi;obtain⟨e,he⟩:=zfu S.fh (A:=Y.A.in1) (show Y.A.units+1+30<cLine by have:Y.A.units+100<cLine:=hu;lia) hy;obtain⟨e1,e2⟩:=he hf r;have hz:=zbf r;have hj:i<qc.size:=by rw[hz];exact(ome a1).1
   have get:∀(m:Nat)(hm:m<qc.size),∃tm,ts[m]?=some tm/\e qc[m]=Ev.eqT tm y:=fun m hm=>by refine⟨ts[m]'(by lia),zxu (by lia),?_⟩;have:=zx2 (fun l:List Bool=>l[m]?) e2;simp only[List.getElem?_map,Array.getElem?_toList,Array.getElem?_eq_getElem hm,List.getElem?_eq_getElem (show m<ts.length by lia),xms]at this;exact zyr this
   have ho:=S.fh _ _ f;refine call_meets PySem.F.slot_list_index ⟨_,ho,rfl⟩ PySem.F.entry_list_index (PySem.F.args_list_index_2 _ _) (PySem.SeqAt.list_indexAt a qc n _ _ v e i hj (by have:=l63;unfold sizeLine at z;lia) ?_ ?_) ⟨ho,?_,?_⟩
   .obtain⟨tm,g1,g2⟩:=get i hj;rw[g2];rw[a1]at g1;cases g1;exact a2
   .intro m hm hmi;obtain⟨tm,g1,g2⟩:=get m hm;rw[g2];exact a3 m tm hmi g1
   .exact fun y hy=>e1 y (by simpa using hy)
   .exact zat S.fh ⟨_,rfl⟩
  .cases h
 |_=>cases y<;>cases h
theorem zij(hu:Y.Rm):Ml Y "list.count" .count:=fun{s F x y t u v E}S hx hy h=>by
 cases x with
 |lst ts=>
  replace h:(if dpI y ts=true then some (T.int ((ts.filter fun z=>Ev.eqT z y).length:Nat))else none)=some t:=h;split at h
  .rename_i hf;cases h;obtain⟨a,qc,n,rfl,f,z,r⟩:=hx;obtain⟨e,he⟩:=zfu S.fh (A:=Y.A.in1) (show Y.A.units+1+30<cLine by have:Y.A.units+100<cLine:=hu;lia) hy;obtain⟨e1,e2⟩:=he hf r;have ho:=S.fh _ _ f;refine call_meets PySem.F.slot_list_count ⟨_,ho,rfl⟩ PySem.F.entry_list_count (PySem.F.args_list_count_2 _ _) (PySem.SeqAt.list_countAt a qc n _ _ v e) ⟨ho,fun y hy=>e1 y (by simpa using hy),?_⟩;refine zat S.fh ⟨s.toks,?_⟩;have:=zx2 (fun l:List Bool=>l.countP id) e2;simp only[List.countP_map,Function.comp_def,id]at this;rw[show qc.toList.countP e=qc.toList.countP (fun x=>e x)from rfl,this,List.countP_eq_length_filter]
  .cases h
 |_=>cases y<;>cases h
theorem zid{nm:Str}{id:String}{m:Mt}(sl:Slot "list" nm id)(ty:typeOf (.builtin id)=pure (.type "method_descriptor"))(hm:Ml Y id m)(ho:Oke Y N o f)(ha:Oke Y N a g)(hbase:attributeBase o nm Y.env (eval o Y.env)=eval o Y.env)(hs:starEach [a] Y.env=[(false,eval a Y.env)])(hl:(apos.endLine==cpos.line)=true):Oke Y N (.Call (.Attribute o nm apos) [a] [] cpos) fun r=>(f r).bind fun x=>(g r).bind fun y=>yb7 m x y:=fun{s F r t E}A q=>by
 obtain⟨x1,e1,q⟩:=obs q;obtain⟨x2,e2,q⟩:=obs q;refine wpAny_Call_method_late hbase (by rw[hs];rfl) hl rfl (thn (ho A e1) fun v s1 z=>?_);obtain⟨G,u1,r1⟩:=z;have hl:∃ts,x1=.lst ts:=by cases x1<;>first|exact⟨_,rfl⟩|(cases m<;>cases x2<;>cases q)
 obtain⟨ts,rfl⟩:=hl;obtain⟨b,qc,n,ev,f,z,rr⟩:=r1;have r1:Rep Y.w G (.lst ts) v:=⟨b,qc,n,ev,f,z,rr⟩;subst ev;refine⟨"list",_,PySem.F.plainAttrs_list,sl,ty,⟨_,u1.fh _ _ f,rfl⟩,fun c e=>by cases e;exact⟨_,u1.fh _ _ f,rfl⟩,?_⟩;refine Calls.callWith_builtin (by rw[hs];rfl) ?_;rw[hs];refine Calls.evalArgs_plain (Calls.spliced_cons (thn (ha (A.up u1) e2) fun w s2 z=>Calls.spliced_nil ?_));obtain⟨G2,u2,r2⟩:=z;exact thn (hm ((A.up u1).up u2).toSt (r1.mono u2.ff) r2 q) fun _ _ z=>Res.mk (u1.trans u2) z
end Nb
section
namespace Nb
open PySem Spec PyProof.Rows Ev
structure ErC(K:W.Frag)(D:Addr):Prop where
 ga:W.findIn K (.ref D) "__getattribute__"=some (some (.builtin "BaseException.__getattribute__"))
 gn:W.findIn K (.ref D) "__getattr__"=some none
 sb:W.mroIn K D (.type "BaseException")=some true
 hd:W.hasDictIn K D=true
 ha:W.findIn K (.ref D) "__class__"=some (some (.builtin "object.__class__"))
 hn:W.specialIn K (.builtin "object.__class__") "__get__"=some (some (.builtin "getset_descriptor.__get__"))
 ht:W.takesIn K (.builtin "object.__class__")=some true
 hm:W.mroIn K D (.type "object")=some true
 na:W.findIn K (.ref D) "at"=some none
section
variable {P:Program}{w:World}{A:Around}{E:Value->Shared->Prop}{s:Shared}{K:W.Frag}{a D:Addr}{o:Obj}{od:a7 Obj}{name:Str}{tk:Tok}{fill expr:Bool}{Q:Value->Shared->Prop}
theorem zmy:builtinKind "BaseException.__getattribute__"=some .slot:=by decide +kernel
theorem zi0:splitId "BaseException.__getattribute__"=some ("BaseException", "__getattribute__"):=by decide +kernel
theorem zwh(X:K.In s.heap)(J:W.InstAt s.heap a o D od)(k:ErC K D)(q:∀R:Result->Shared->Prop,(∀v s',W.handedIn v=true->Q v s'->R (.ok (.ret v)) s')->codeAny (model P w) A (.call (.builtin "BaseException.__getattribute__") ⟨[.ref a,.str name tk],[]⟩) R s):wpAny (model P w) A (getAttrBy (.ref a) (.str name tk) fill expr) Q E s:=by
 have e0:onTheHeap (Value.builtin "BaseException.__getattribute__")=false:=rfl;have e1:(onTheHeap (Value.ref D)&&Value.builtin "BaseException.__getattribute__"==Value.builtin "object.__getattribute__")=false:=by rw[show(Value.builtin "BaseException.__getattribute__"==Value.builtin "object.__getattribute__")=false by decide +kernel];rfl
 unfold getAttrBy;refine uc2 (zxq ((J.type (M:=model P w)).here (zxq ((W.looks_findIn X k.ga).here ?_))));dsimp only;rw[e1,if_neg zys];unfold getAttrByItsOwn hookBefore;rw[if_pos (show onTheHeap (.ref D)=true from rfl)];refine zxq ((W.looks_findIn X k.gn).here (zxq (zy1 (uc2 ?_))));unfold callGetattribute;rw[e0,Bool.and_false,if_neg zys];unfold boundAndCalled;rw[PySem.F.excAttr_ValueError.ga.bind];refine zxq (zxs ?_);refine wpAny_call (q _ fun v s' hv hq=>?_);exact W.handed_on hv hq
theorem zqk(X:K.In s.heap)(J:W.InstAt s.heap a o D od)(k:ErC K D):W.Looks (model P w) s.heap (isInstance (.ref a) (.type "BaseException")) true:=(J.type (M:=model P w)).andThen (W.looks_mroIn X k.sb)
theorem zql:∃miss:Value->Sem Fin,Builtin.«object.__getattribute__» ⟨[.ref a,.str name tk],[]⟩=(typeOf (.ref a) >>= fun tp=>Builtin.ObjectAttr.find (.ref a) tp name >>= fun r=>match r with
  |.value v=>ret v
  |.bind g b=>Builtin.ObjectAttr.bindTo g b (.ref a) tp
  |.missing=>miss tp):=⟨_,rfl⟩
theorem zv2(X:K.In s.heap)(J:W.InstAt s.heap a o D od)(k:ErC K D)(hf:W.findObj K D od name=some (.value v))(q:R (.ok (.ret v)) s):codeAny (model P w) A (.call (.builtin "BaseException.__getattribute__") ⟨[.ref a,.str name tk],[]⟩) R s:=by
 refine codeAny_call_builtin PySem.F.excAttr_ValueError.ga.plain PySem.F.entry_bexc_ga (@W.check_slot (model P w) _ _ s "BaseException.__getattribute__" "BaseException" "__getattribute__" (.ref a) [.str name tk] [] _ zmy zi0 (zqk X J k) (PySem.F.args_bexc_ga _ _) ?_);obtain⟨miss,e⟩:=zql (a:=a) (name:=name) (tk:=tk);rw[e];refine zxq ((J.type (M:=model P w)).here (zxq ((W.looks_find (M:=model P w) X J hf).here ?_)));exact zxs q
theorem zv3(X:K.In s.heap)(J:W.InstAt s.heap a o D od)(k:ErC K D)(hf:W.findObj K D od name=some (.bind (.builtin "getset_descriptor.__get__") (.builtin "object.__class__")))(q:R (.ok (.ret (.ref D))) s):codeAny (model P w) A (.call (.builtin "BaseException.__getattribute__") ⟨[.ref a,.str name tk],[]⟩) R s:=by
 refine codeAny_call_builtin PySem.F.excAttr_ValueError.ga.plain PySem.F.entry_bexc_ga (@W.check_slot (model P w) _ _ s "BaseException.__getattribute__" "BaseException" "__getattribute__" (.ref a) [.str name tk] [] _ zmy zi0 (zqk X J k) (PySem.F.args_bexc_ga _ _) ?_);obtain⟨miss,e⟩:=zql (a:=a) (name:=name) (tk:=tk);rw[e];refine zxq ((J.type (M:=model P w)).here (zxq ((W.looks_find (M:=model P w) X J hf).here ?_)));refine zxq (uc2 (wpAny_call (W.class_get (ox:=o) (od:=od) X J k.hm ?_)));exact zxs q
theorem zv0(X:K.In s.heap)(J:W.InstAt s.heap a o D od)(k:ErC K D)(hf:W.findObj K D od name=some (.value v))(hh:W.handedIn v=true)(q:Q v {s with toks:=s.toks+1}):wpAny (model P w) A (getAttr (.ref a) name expr) Q E s:=by unfold getAttr;refine zxq (wpAny_mkText ?_);exact zwh (s:={s with toks:=s.toks+1}) X J k fun R hR=>zv2 (s:={s with toks:=s.toks+1}) X J k hf (hR v _ hh q)
theorem zsz{Q:a7 Value->Shared->Prop}{od:Obj}(X:K.In s.heap)(J:W.InstAt s.heap a o D (some od))(k:ErC K D)(q:Q (some (.ref D)) {s with toks:=s.toks+1}):wpAny (model P w) A (getAttr? (.ref a) "__class__") Q E s:=by have hf:W.findObj K D (some od) "__class__"=some (.bind (.builtin "getset_descriptor.__get__") (.builtin "object.__class__")):=W.findObj_data (by obtain⟨cd,hc,_⟩:=W.any_some k.hd;rw[hc];rfl) k.ha k.hn k.ht;unfold getAttr? getAttrBy?;refine zxq (wpAny_mkText (zxq (zy1 ?_)));exact zwh (s:={s with toks:=s.toks+1}) X J k fun R hR=>zv3 (s:={s with toks:=s.toks+1}) X J k hf (hR _ _ rfl (zxs q))
theorem zoo{od:Obj}(k:ErC K D):W.KitX K (.ref a) (.ref D) (fun h=>W.InstAt h a o D (some od)) where
 ty:=fun _ _ _ I=>I.type
 it:=fun _ _ X _=>by
  obtain⟨cdD,hcD,_⟩:=W.any_some k.hd;unfold W.clsIn at hcD;split at hcD
  .rename_i ho;intro A' Q' E' s' kk q;unfold isType loadHead;exact zxq (wpAny_loadPart (kk _ _ (X _ _ ho)) (zxs q))
  .cases hcD
 ne:=fun h tp dd qc n sl X htp=>by
  obtain⟨cdD,hcD,_⟩:=W.any_some k.hd;refine Bool.eq_false_iff.mpr fun q=>?_;have e:D=tp:=Value.ref.inj (ue3.mp q);subst e;unfold W.clsIn at hcD;split at hcD
  .rename_i ho;cases(X _ _ ho).symm.trans htp
  .cases hcD
 ca:=fun X I q=>zsz X I k q
end
def ErAt(F:Fz)(a D:Addr)(n:Int):Prop:=∃o dx od k,F a=some o/\o.cls=.ref D/\o.dict=some dx/\(∃vs,o.data=.fields vs)/\F dx=some od/\W.lookIn "at" od=some (some (.int n k))
theorem ErAt.mono{F G:Fz}{a D:Addr}{n:Int}(h:ErAt F a D n)(le:F.le G):ErAt G a D n:=let⟨o,dx,od,k,e1,e2,e3,e4,e5,e6⟩:=h;⟨o,dx,od,k,le _ _ e1,e2,e3,e4,le _ _ e5,e6⟩
theorem ErAt.inst{F:Fz}{a D:Addr}{n:Int}{h:Heap}(e:ErAt F a D n)(hF:F.In h):∃o od k,W.InstAt h a o D (some od)/\W.lookIn "at" od=some (some (.int n k)):=by obtain⟨o,dx,od,k,e1,e2,e3,⟨vs,hv⟩,e5,e6⟩:=e;exact⟨o,od,k,⟨hF _ _ e1,e2,by unfold W.notCls;rw[hv],by rw[e3];exact hF _ _ e5⟩,e6⟩
section
variable {Y:Yc}{N:Str->Nat->Prop}{F:Fz}{s:Shared}{r:Ev.Env}{e:Expr}{f:Ev.Env->a7 T}{a D:Addr}{n:Int}{p1 p3 pos:Pos}{x:Str}{C:Value}{b:Bool}
def ybx(a:Addr)(t:T):T->a7 T
 |.adr b=>if b=a then some t else none
 |_=>none
theorem zc3{a:Addr}{t x y:T}(h:ybx a t x=some y):x=.adr a/\y=t:=by
 cases x with
 |adr b=>
  replace h:(if b=a then some t else none)=some y:=h;split at h
  .rename_i e;subst e;cases h;exact⟨rfl,rfl⟩
  .cases h
 |_=>cases h
theorem zp7(hI:∀{F},Y.I F->ErAt F a D n)(ec:ErC Y.K D)(ki:W.kitOne Y.K (.ref D) C=some b)(he:Oke Y N e f)(hc:∀{s F r Q E},At Y N r F s->Q C s->wpAny Y.M Y.A (eval (.Name x p3) Y.env) Q E s)(hm:Y.mg "isinstance"=none)(hg:Gl Y "isinstance")(hs:starEach [e,.Name x p3] Y.env=(false,eval e Y.env)::starEach [.Name x p3] Y.env):Oke Y N (.Call (.Name "isinstance" p1) [e,.Name x p3] [] pos) fun r=>(f r).bind (ybx a (.bl b)):=fun{s F r t E}A q=>by
 obtain⟨x1,e1,q⟩:=obs q;obtain⟨rfl,rfl⟩:=zc3 q;refine wpAny_Call_Name_kw (zcf A hg hm boot_isinstance ?_ (by decide) (by decide));refine PyProof.Rows.callWith_builtin1 ?_ hs rfl;rw[hs];refine Calls.spliced_cons (thn (he A e1) fun u s1 z=>?_);obtain⟨G,u1,rfl,_⟩:=z;have A1:=A.up u1;refine Calls.spliced_cons (hc A1 ?_);obtain⟨o,od,k,J,_⟩:=(hI A1.inv).inst u1.fh;exact Calls.spliced_nil (W.kia_one (zoo (od:=od) ec) (A.mod.kin.keeps A1.bk) J ki (fun z=>nomatch z) fun tk=>⟨G,u1.trans (Up.tok u1.fh),rfl⟩)
theorem zu8(hI:∀{F},Y.I F->ErAt F a D n)(ec:ErC Y.K D)(he:Oke Y N e f)(hb:attributeBase e "at" Y.env (eval e Y.env)=eval e Y.env):Oke Y N (.Attribute e "at" pos) fun r=>(f r).bind (ybx a (.int n)):=fun{s F r t E}A q=>by
 obtain⟨x1,e1,q⟩:=obs q;obtain⟨rfl,rfl⟩:=zc3 q;refine Attribute_any_ (thn (he A e1) fun u s1 z=>?_) (by rw[arm_eval_Attribute,hb]);obtain⟨G,u1,rfl,_⟩:=z;have A1:=A.up u1;obtain⟨o,od,k,J,l⟩:=(hI A1.inv).inst u1.fh;exact zv0 (A.mod.kin.keeps A1.bk) J ec (W.findObj_own ec.hd ec.na rfl l) rfl ⟨G,u1.trans (Up.tok u1.fh),_,rfl⟩
end
end Nb
section
namespace Nb
open PySem Spec PyProof.Rows Ev
variable {B:Bd}{pn:List (Addr×a7 Obj)}{ad:Nat->List Addr}{τ:List Sl}{F G:Fz}{s s' s1:Shared}{x y:Str}{i j:Nat}{is:List Nat}{e c:Expr}{es:List Expr}{pos p px apos cpos:Pos}{Y:Yc}{E:Value->Shared->Prop}{t:T}{ts us:List T}{u:Value}{a:Addr}{g:Ev.Env->a7 (List T)}{h:Ev.Env->a7 T}{f:List Sl->a7 Out}{body:List Stmt}
theorem zun(is:List Nat)(he:Oke B.toYc (Nn B.N) e h)(hs:swapsWith e none pos.line B.env=pure false):PS B (.Expr e pos) fun τ=>(h (ygg (frzAt is τ))).bind fun _=>some (.nx τ):=fun hF q=>by obtain⟨t,q1,e⟩:=obs q;cases e;obtain⟨G,ad',le,h'⟩:=hF.frzAt is;exact wpAny_Expr_any (thn (he h'.at q1) fun u s1 ⟨G1,u1,_⟩=>⟨_,_,fun _ _ e=>e,hF.after (u1.back le)⟩) (quiet hF.ok) hs
theorem zuj(hx:B.N[i]?=some x)(n:Nm x)(hline:(apos.endLine==cpos.line)=true):PS B (.Expr (.Call (.Attribute (.Name x px) "pop" apos) [] [] cpos) pos) fun τ=>match τ[i]? with
  |some (.own ts)=>if ts=[]then none else some (.nx (τ.set i (.own ts.dropLast)))
  |_=>none:=fun hF q=>by
 dsimp only at q;split at q
 .rename_i ts ht;split at q
  .cases q
  .rename_i hn;cases q;exact wpAny_Expr_any (zlc hF hx n hline ht (List.getLast?_eq_getElem?▸List.getLast?_eq_some_getLast hn) fun ad' G s1 u le h _=>⟨_,_,le,h⟩) (quiet hF.ok)
 .cases q
theorem zrn(hx:B.N[i]?=some x)(n:Nm x)(hy:B.N[j]?=some y)(hl:Loc B.env.scope y)(hline:(apos.endLine==cpos.line)=true):PS B (.Assign [.Name y p] (.Call (.Attribute (.Name x px) "pop" apos) [] [] cpos) pos) fun τ=>match τ[i]? with
  |some (.own ts)=>(match ts[ts.length-1]? with
   |some t=>if i=j then none else some (.nx ((τ.set i (.own ts.dropLast)).set j (.val t)))
   |none=>none)
  |_=>none:=fun hF q=>by
 dsimp only at q;split at q
 .rename_i ts ht;split at q
  .rename_i t hl';split at q
   .cases q
   .cases q;exact wpAny_Assign_Name (zlc hF hx n hline ht hl' fun ad' G s1 u le h r=>h.store (d:=[]) (sl:=.val t) hy hl (fun _ w=>nomatch w) (fun _ lk=>⟨u,lk,r⟩) fun s2 _ _ h2=>⟨_,_,le,h2⟩)
  .cases q
 .cases q
theorem zn9(hm:B.Fm)(is:List Nat)(hc:Okb B.toYc (Nn B.N) c h)(hb:PSs B body f):PS B (.While c body [] pos) fun τ=>ybg f (fun τ=>h (ygg (frzAt is τ))) 1000 τ:=fun{pn ad τ F s o}hF q=>by
 refine wpAny_While (codeAny_whileLoop (fun n s'=>∃ad τ' G,F.le G/\B.Fr pn ad τ' G s'/\ybg f (fun τ=>h (ygg (frzAt is τ))) n τ'=some o) ?_ 1000 ⟨ad,τ,F,fun _ _ e=>e,hF,q⟩);rintro n s1 ⟨ad1,τ1,G,le,h1,q1⟩;cases n with
 |zero=>cases q1
 |succ n=>
  rw[ybg]at q1;obtain⟨t,q2,q1⟩:=obs q1;obtain⟨G2,ad2,le2,h2⟩:=h1.frzAt is;refine thn (hc h2.at q2) fun b s2 z=>?_;obtain⟨G3,u,z⟩:=z;subst z;have h3:=h1.after (u.back le2);cases b with
  |false=>cases q1;exact wpAny_execs_nil ⟨ad1,G,le,h3⟩
  |true=>
   obtain⟨o1,q3,q1⟩:=obs q1;rw[if_pos rfl];refine zyt (hb h3 q3) (fun fl s3 z=>?_) fun e s3 z=>yeu (o:=o) hm hF (by obtain⟨x,n,rfl,z⟩:=z;cases q1;exact⟨x,n,rfl,z⟩);cases fl<;>cases o1<;>first|exact z.elim|skip
   .obtain⟨ad4,G4,le4,h4⟩:=z;exact⟨n,zy8 _,ad4,_,G4,le.trans le4,h4,q1⟩
   .cases q1;exact z
theorem zq8{qc:Array Value}{n j:Nat}{k:Int}{tk:Tok}{v:Value}{Q:Unit->Shared->Prop}(e:s.heap.get? a=some {cls:=.type "list",data:=.seq qc n})(hz:qc.size<=sizeLine)(hj:ixI qc.size k=some j)(q:Q () {s with heap:=s.heap.update a (Obj.mapSeq (·.setIfInBounds j v))}):wpAny Y.M Y.A (setItem (.ref a) (.int k tk) v) Q E s:=by
 have hn:sizeLine<2 ^ 63:=by rw[ub5];decide
 unfold ixI at hj;split at hj
 .rename_i h0;split at hj
  .rename_i h1;cases hj;exact PySem.W.ki_setAt e h0 (by lia) h1 q
  .cases hj
 .split at hj
  .rename_i h0 h1;cases hj;exact PySem.W.ki_setBack e (by lia) h1 (by lia) q
  .cases hj
theorem Reps.set{F:Fz}{w:World}:∀{ts:List T}{us:List Value}{t:T}{u:Value}(j:Nat),Reps w F ts us->Rep w F t u->Reps w F (ts.set j t) (us.set j u)
 |[],_,_,_,_,h,_=>by cases h;rfl
 |_::_,_,_,_,0,⟨_,_,e,_,h2⟩,r=>by subst e;exact .cons r h2
 |_::_,_,_,_,j+1,⟨_,_,e,h1,h2⟩,r=>by subst e;exact .cons h1 (h2.set j r)
end Nb
section
namespace Nb
open PySem Spec PyProof.Rows Ev
variable {B:Bd}{pn:List (Addr×a7 Obj)}{ad:Nat->List Addr}{τ:List Sl}{F G:Fz}{s s' s1:Shared}{x y:Str}{i j k:Nat}{n:Int}{is:List Nat}{e c:Expr}{es:List Expr}{pos p px p2:Pos}{E:Value->Shared->Prop}{t:T}{ts us:List T}{u v:Value}{a f:Addr}{g:Ev.Env->a7 (List T)}{sp:List T->a7 T}{ex:List T->a7 (Str×Int)}{fd:FuncData}{ps:List Str}{Q:Value->Shared->Prop}
theorem Fr.pe(cm:B.calm)(h:B.Fr pn ad τ F s)(z:Err false B.toPc B.env.locals (frs B.stack) s x n v s'):B.PE (.rs x n) v s':=by refine⟨x,n,rfl,z.from h.up.toE,?_⟩;obtain⟨_,_,_,_,_,_,_,u,_⟩:=z;exact zfx u (h.toSt.funs cm)
structure Cl(B:Bd)(x:Str)(p:Pos)(e:Expr)(es:List Expr)(pos:Pos)(g:Ev.Env->Option (List T))(sp:List T->Option T)(ex:List T->Option (Str×Int)):Prop where
 fn:∀ts,((sp ts).isSome=true\/(ex ts).isSome=true)->∃k f fd ps,Fn B.toPc k f fd ps sp ex/\Room k B.A/\B.mg x=some (.ref f)/\W.keepIn B.K (.ref f)=true/\(∀us:List Value,us.length=ps.length->bindArgs fd ⟨us,[]⟩=pure (ps.zip us))/\(∀{ts t},sp ts=some t->ts.length=ps.length)/\∀{ts t},ex ts=some t->ts.length=ps.length
 gl:Gl B.toYc x
 ar:Oks B.toYc (Nn B.N) (e::es) g
 cm:B.calm
 nd:(x==("__debug__":Str))=false
 st:starEach (e::es) B.env=(false,eval e B.env)::starEach es B.env
 pl:(backTo pos (starEach es B.env)).any (·.1)=false
def ycg(sp:List T->a7 T)(ex:List T->a7 (Str×Int))(k:T->Out)(ts:List T):a7 Out:=match sp ts with
 |some t=>some (k t)
 |none=>(ex ts).map fun p=>.rs p.1 p.2
theorem yd3{kk:T->Out}{o:Out}(C:Cl B x p e es pos g sp ex)(is:List Nat)(hF:B.Fr pn ad τ F s)(q1:g (ygg (frzAt is τ))=some ts)(q:ycg sp ex kk ts=some o)(h1:∀t u s' ad' G,o=kk t->F.le G->B.Fr pn ad' (frzAt is τ) G s'->Rep B.w G t u->Q u s')(h2:∀v s',B.PE o v s'->E v s'):wpAny B.M B.A (eval (.Call (.Name x p) (e::es) [] pos) B.env) Q E s:=by
 have hs:(sp ts).isSome=true\/(ex ts).isSome=true:=by
  unfold ycg at q;split at q
  .rename_i e;exact .inl (by rw[e];rfl)
  .obtain⟨w,e,_⟩:=oms q;exact .inr (by rw[e];rfl)
 obtain⟨k,f,fd,ps,hFn,hr,hm,hk,hb,hl,hl2⟩:=C.fn ts hs;obtain⟨G,ad',le,h'⟩:=hF.frzAt is;have A:=h'.at
 refine wpAny_Call_Name_kw (zde A C.gl hm ?_ C.nd);refine W.callWith_K (h₀:=B.base) A.mod.kin hk (thn (C.ar pos A q1) fun us s1 z=>?_) C.st C.pl;obtain⟨G1,u1,rs⟩:=z;have A1:=A.up u1;have h3:=h'.after u1;refine⟨A.mod.kin.keeps A1.bk,wpAny_call ?_⟩;unfold ycg at q;split at q
 .rename_i t e1;cases q;refine codeAny_mono (hFn.run hr A1.toSt (.of_eq (hb us (by rw[rs.length];exact hl e1))) rs e1) fun r s2 z=>?_;obtain⟨v,rfl,G2,u2,r2⟩:=z;exact h1 t v s2 ad' G2 rfl ((le.trans u1.ff).trans u2.ff) (h3.after u2) r2
 .obtain⟨w,e2,rfl⟩:=oms q;refine codeAny_mono (hFn.err (x:=w.1) (n:=w.2) B.env.locals hr A1.toSt (.of_eq (hb us (by rw[rs.length];exact hl2 e2))) rs e2) fun r s2 z=>?_;obtain⟨v,rfl,z⟩:=z;exact h2 v s2 (h3.pe C.cm z)
theorem zrr(C:Cl B x p e es pos g sp ex)(is:List Nat)(hy:B.N[i]?=some y)(hl:Loc B.env.scope y)(hs:swapsWith (.Call (.Name x p) (e::es) [] pos) (some (.Name y px)) p2.line B.env=pure false):PS B (.Assign [.Name y px] (.Call (.Name x p) (e::es) [] pos) p2) fun τ=>(g (ygg (frzAt is τ))).bind fun ts=>ycg sp ex (fun t=>.nx ((frzAt is τ).set i (.val t))) ts:=fun hF q=>by
 obtain⟨ts,q1,q⟩:=obs q;refine wpAny_Assign_Name (yd3 C is hF q1 q (fun t u s' ad' G eo le h' r=>?_) fun _ _ z=>z) hs;subst eo;exact h'.store (d:=[]) (sl:=.val t) hy hl (fun _ w=>nomatch w) (fun _ lk=>⟨u,lk,r⟩) fun s2 _ _ h2=>⟨_,_,le,h2⟩
theorem zrm(C:Cl B x p e es pos g sp ex)(is:List Nat):PS B (.Return (some (.Call (.Name x p) (e::es) [] pos)) p2) fun τ=>(g (ygg (frzAt is τ))).bind fun ts=>ycg sp ex .rt ts:=fun hF q=>by obtain⟨ts,q1,q⟩:=obs q;refine wpAny_Return_some (yd3 C is hF q1 q (fun t u s' ad' G eo le h' r=>?_) fun _ _ z=>z);subst eo;exact⟨⟨G,h'.up,r⟩,h'.tbs⟩
theorem zro(C:Cl B x p e es pos g sp ex)(is:List Nat)(hs:swapsWith (.Call (.Name x p) (e::es) [] pos) none p2.line B.env=pure false):PS B (.Expr (.Call (.Name x p) (e::es) [] pos) p2) fun τ=>(g (ygg (frzAt is τ))).bind fun ts=>ycg sp ex (fun _=>.nx (frzAt is τ)) ts:=fun hF q=>by
 obtain⟨ts,q1,q⟩:=obs q;refine wpAny_Expr_any (yd3 C is hF q1 q (fun t u s' ad' G eo le h' r=>?_) fun _ _ z=>z) (quiet hF.ok) hs;subst eo;exact⟨_,_,le,h'⟩
end Nb
section
namespace Nb
open PySem Spec PyProof.Rows Ev
section
variable {Y:Yc}{N:Str->Nat->Prop}{a b:Expr}{f g:Ev.Env->a7 T}{pos:Pos}
def yez:T->T->a7 Sl
 |.lst xs,.lst ys=>if xs.length+ys.length<=SZ then some (.own (xs++ys))else none
 |_,_=>none
theorem zlg(ha:Oke Y N a f)(hb:Oke Y N b g):OkO Y N (.BinOp a .Add b pos) fun r=>(f r).bind fun x=>(g r).bind fun y=>yez x y:=fun{s F r sl E}A h=>by
 obtain⟨x,e1,h⟩:=obs h;obtain⟨y,e2,h⟩:=obs h;refine wpAny_BinOp (thn (ha A e1) fun u s1 ⟨G,u1,q1⟩=>thn (hb (A.up u1) e2) fun v s2 ⟨G2,u2,q2⟩=>?_);replace q1:=q1.mono u2.ff;unfold yez at h;split at h
 .split at h
  .rename_i hz;cases h;obtain⟨a,xs,n,rfl,h1,z1,r1⟩:=q1;obtain⟨b,ys,m,rfl,h2,z2,r2⟩:=q2;have hz:xs.size+ys.size<=sizeLine:=by rw[zbf r1,zbf r2];exact zcp hz
   exact PySem.P.add_list (u2.fh _ _ h1) (u2.fh _ _ h2) ⟨_,G2,rfl,(u1.trans u2).trans (Up.side (k:=s2.toks) u2.fh),u2.fh.none zac,(u1.trans u2).old zac,rfl,xs++ys,_,Heap.get?_push_size _ rfl,by simpa using hz,by simpa using r1.app r2⟩ hz
  .cases h
 .cases h
end
def ye6:T->Sl
 |.lst ts=>.own ts
 |t=>.val t
theorem zwf{x y:T}{ts:List T}(h:yd8 x y=some (.lst ts)):yez x y=some (.own ts):=by
 cases x<;>cases y<;>first
  |(cases h;done)
  |(rename_i xs ys;have h:(if xs.length+ys.length<=SZ then some (T.lst (xs++ys))else none)=some (.lst ts):=h;unfold yez;split at h<;>cases h;rename_i hz;exact if_pos hz)
  |(rename_i xs ys;have h:(if xs.length+ys.length<=SZ then some (T.tup (xs++ys))else none)=some (.lst ts):=h;split at h<;>cases h)
theorem zuo{B:Bd}{a b:Expr}{f g:Ev.Env->a7 T}{i:Nat}{x:Str}{p p2 pos:Pos}(ha:Oke B.toYc (Nn B.N) a f)(hb:Oke B.toYc (Nn B.N) b g)(is:List Nat)(hx:B.N[i]?=some x)(hl:Loc B.env.scope x):PS B (.Assign [.Name x p] (.BinOp a .Add b p2) pos) fun τ=>((f (ygg (frzAt is τ))).bind fun x=>(g (ygg (frzAt is τ))).bind fun y=>yd8 x y).bind fun t=>some (.nx ((frzAt is τ).set i (ye6 t))):=fun{pn ad τ F s o}hF q=>by
 obtain⟨t,q1,e⟩:=obs q;cases e;by_cases ht:∃ts,t=.lst ts
 .obtain⟨ts,rfl⟩:=ht;obtain⟨x1,e1,q1⟩:=obs q1;obtain⟨y1,e2,q1⟩:=obs q1;have S:PS B (.Assign [.Name x p] (.BinOp a .Add b p2) pos) _:=ze5 (p:=p) (pos:=pos) (zlg (pos:=p2) ha hb) is hx hl rfl;exact S hF (by simp only[e1,e2,xbs,zwf q1];rfl)
 .have S:PS B (.Assign [.Name x p] (.BinOp a .Add b p2) pos) _:=ze6 (p:=p) (pos:=pos) (zp8 (pos:=p2) zp2 ha hb) is hx hl rfl;have e:ye6 t=.val t:=by cases t<;>first|rfl|exact absurd ⟨_,rfl⟩ ht
  rw[e];exact S hF (by simp only[q1,xbs])
end Nb
section
namespace Nb
open PySem Spec PyProof.Rows Ev
variable {i:Nat}{x:Str}
def toldN:List Str:=["_law_deed_here", "_law_found", "e", "_law_kinds"]
def toldC:List Str:=["NoText", "NoRow", "Twice", "BadCheck", "NoRef", "Held", "NoMark", "BadLog", "Clash"]
structure EK(K:W.Frag)(cs:List Addr)(D:Addr)(j:Nat):Prop where
 ec:ErC K D
 ki:cs.map (fun C=>W.kitOne K (.ref D) (.ref C))=(List.range 9).map fun i=>some (decide (i=j))
 kv:W.kitOne K (.ref D) (.type "ValueError")=some true
 hj:j<9
structure TdS(B:Bd)(cs:List Addr):Prop where
 N:B.N=toldN
 lo:∀x∈toldN,B.env.scope.names.lookup x=some .local
 gl:∀x∈toldC++(["isinstance", "ValueError", "bool"]:List Str),Gl B.toYc x
 nb:∀x∈(["isinstance", "ValueError", "bool"]:List Str),B.mg x=none
 mc:toldC.map B.mg=cs.map fun C=>some (.ref C)
 rm:B.toYc.Rm
def ybm(j:Nat):List T:=(List.range 9).map fun i=>T.bl (decide (i=j))
variable {B:Bd}{cs:List Addr}{a D:Addr}{n:Int}{j:Nat}
theorem TdS.cls(t:TdS B cs)(h:toldC[i]?=some x):∃C,cs[i]?=some C/\B.mg x=some (.ref C):=by
 have:=zx2 (fun l:List (a7 Value)=>l[i]?) t.mc;simp only[List.getElem?_map,h,xms]at this;cases e:cs[i]? with
 |none=>rw[e]at this;cases this
 |some C=>rw[e]at this;exact⟨C,rfl,zyr this⟩
theorem EK.at{K:W.Frag}{C:Addr}{i:Nat}(k:EK K cs D j)(h:cs[i]?=some C)(hi:i<9):W.kitOne K (.ref D) (.ref C)=some (decide (i=j)):=by have:=zx2 (fun l:List (a7 Bool)=>l[i]?) k.ki;simp only[List.getElem?_map,h,xms,List.getElem?_range hi]at this;exact zyr this
theorem TdS.v(t:TdS B cs){p:Pos}(h:toldN[i]?=some x)(hd:(x==("__debug__":Str))=false:=by decide)(hc:(x==("__classdict__":Str))=false:=by decide):Oke B.toYc (Nn B.N) (.Name x p) fun r=>(r[i]?).join:=zll (by show B.N[i]?=some x;rw[t.N];exact h) hd hc
theorem TdS.isi(t:TdS B cs)(hI:∀{F},B.I F->ErAt F a D n)(k:EK B.K cs D j){p1 p2 p3 p4:Pos}(h:toldC[i]?=some x)(hi:i<9:=by decide)(hd:(x==("__debug__":Str))=false:=by decide):
  Oke B.toYc (Nn B.N) (.Call (.Name "isinstance" p1) [.Name "e" p2,.Name x p3] [] p4) fun r=>((r[2]?).join).bind (ybx a (.bl (decide (i=j)))):=by
 obtain⟨C,h1,h2⟩:=t.cls h;exact zp7 hI k.ec (k.at h1 hi) (t.v (i:=2) rfl) (fun A q=>zde A (t.gl x (List.mem_append_left _ (zx4 h))) h2 q hd) (t.nb _ (by decide)) (t.gl _ (by decide)) rfl
theorem zou{Y:Yc}{N:Str->Nat->Prop}{e:Expr}{f:Ev.Env->a7 T}{p1 p2 p3:Pos}(hmt:Y.mg "bool"=none)(hgt:Gl Y "bool")(hm:Y.mg "isinstance"=none)(hg:Gl Y "isinstance")(he:Oke Y N e f)(hs:starEach [e,.Name "bool" p2] Y.env=(false,eval e Y.env)::starEach [.Name "bool" p2] Y.env):Oke Y N (.Call (.Name "isinstance" p1) [e,.Name "bool" p2] [] p3) fun r=>(f r).bind fun x=>yec x .tbool:=zlm (k:=.tbool) PyProof.Rows.boot_bool (by decide) (by decide) hmt hgt hm hg he hs
end Nb
section
namespace Nb
open PySem Spec PyProof.Rows Ev
variable {B:Bd}{cs:List Addr}{a D:Addr}{n:Int}{j:Nat}{pn:List (Addr×a7 Obj)}{ad:Nat->List Addr}{F:Fz}{s:Shared}{x0 x1 x3:Sl}
structure OksN(Y:Yc)(N:Str->Nat->Prop)(es:List Expr)(n:Nat)(f:Ev.Env->Option (List T)):Prop where
 ok:Oks Y N es f
 len:∀{r ts},f r=some ts->ts.length=n
section
variable {Y:Yc}{N:Str->Nat->Prop}{e:Expr}{es:List Expr}{f:Ev.Env->a7 T}{g:Ev.Env->a7 (List T)}{m x1:Nat}{pos:Pos}
theorem zgi:OksN Y N [] 0 fun _=>some []:=⟨zcq,fun e=>by cases e;rfl⟩
theorem zay(ha:Oke Y N e f)(hr:OksN Y N es m g)(hs:starEach (e::es) Y.env=(false,eval e Y.env)::starEach es Y.env):OksN Y N (e::es) (m+1) fun r=>(f r).bind fun x=>(g r).bind fun xs=>some (x::xs):=⟨za5 ha hr.ok hs,fun e=>by obtain⟨x,_,e⟩:=obs e;obtain⟨xs,e2,e⟩:=obs e;cases e;rw[zya,hr.len e2]⟩
theorem zp3(h:OksN Y N es m g):Oke Y N (.List es pos) fun r=>if m<=1000 then(g r).map .lst else none:=zp6 (@h.len) (@h.ok)
theorem zle(h:OksN Y N es m g):Oke Y N (.Tuple es x1 pos) fun r=>if m<=1000 then(g r).map .tup else none:=zp4 (@h.len) (@h.ok)
end
def zf8(ks:List Stmt):Prop:=∀{B:Bd}{cs:List Addr}{a D:Addr}{n:Int}{j:Nat}{pn:List (Addr×a7 Obj)}{ad:Nat->List Addr}{F:Fz}{s:Shared}{x0 x1 x3:Sl},TdS B cs->(∀{F},B.I F->ErAt F a D n)->EK B.K cs D j->B.Fr pn ad [x0,x1,.val (.adr a),x3] F s->
 wpAny B.M B.A (execs ks B.env) (B.Post pn F (.nx [x0,.val (.tup [.str "refused",.int j,.int n]),.val (.adr a),.val (.lst (ybm j))])) No s
theorem zmb:∀j,j<9->yb7 .count (.lst (ybm j)) (.bl true)=some (.int 1)/\yb7 .index (.lst (ybm j)) (.bl true)=some (.int j)
 |0,_=>⟨rfl,rfl⟩
 |1,_=>⟨rfl,rfl⟩
 |2,_=>⟨rfl,rfl⟩
 |3,_=>⟨rfl,rfl⟩
 |4,_=>⟨rfl,rfl⟩
 |5,_=>⟨rfl,rfl⟩
 |6,_=>⟨rfl,rfl⟩
 |7,_=>⟨rfl,rfl⟩
 |8,_=>⟨rfl,rfl⟩
 |n+9,h=>by lia
theorem isA{t:T}:ybx a t (.adr a)=some t:=if_pos rfl
theorem znx{p0 p1 p2 p3 p4 p5 p6 p7 p8 p9 p10 p11 p12 p13 p14 p15 p16 p17 p18 p19 p20 p21 p22 p23 p24 p25 p26 p27 p28 p29 p30 p31 p32 p33 p34 p35 p36 p37 p38 p39 p40 p41 p42 p43 p44 p45 p46 p47 p48 p49 p50 p51 p52 p53 p54 p55 p56 p57 p58 p59 p60 p61 p62 p63 p64 p65 p66 p67 p68 p69 p70 p71 p72 p73 p74 p75 p76 p77 p78 p79 p80 p81 p82:Pos}(l1:(p41.endLine==p46.line)=true)(l2:(p60.endLine==p62.line)=true)(l3:(p75.endLine==p77.line)=true):zf8 [.Assign [.Name "_law_kinds" p0] (.List [.Call (.Name "isinstance" p1) [.Name "e" p2,.Name "NoText" p3] [] p4,.Call (.Name "isinstance" p5) [.Name "e" p6,.Name "NoRow" p7] [] p8,.Call (.Name "isinstance" p9) [.Name "e" p10,.Name "Twice" p11] [] p12,.Call (.Name "isinstance" p13) [.Name "e" p14,.Name "BadCheck" p15] [] p16] p17) p18,.Assign [.Name "_law_kinds" p19] (.BinOp (.Name "_law_kinds" p20) .Add (.List [.Call (.Name "isinstance" p21) [.Name "e" p22,.Name "NoRef" p23] [] p24,.Call (.Name "isinstance" p25) [.Name "e" p26,.Name "Held" p27] [] p28,.Call (.Name "isinstance" p29) [.Name "e" p30,.Name "NoMark" p31] [] p32,.Call (.Name "isinstance" p33) [.Name "e" p34,.Name "BadLog" p35] [] p36] p37) p38) p39,.Expr (.Call (.Attribute (.Name "_law_kinds" p40) "append" p41) [.Call (.Name "isinstance" p42) [.Name "e" p43,.Name "Clash" p44] [] p45] [] p46) p47,.Assign [.Name "_law_found" p48] (.Tuple [.Constant (.str "refused") 0 p49,.UnaryOp .USub (.Constant (.int 1) 0 p50) p51,.Constant (.int 0) 0 p52] 0 p53) p54,.If (.BoolOp .And [.Call (.Name "isinstance" p55) [.Name "e" p56,.Name "ValueError" p57] [] p58,.Compare (.Call (.Attribute (.Name "_law_kinds" p59) "count" p60) [.Constant (.bool true) 0 p61] [] p62) [.Eq] [.Constant (.int 1) 0 p63] p64,.UnaryOp .Not (.Call (.Name "isinstance" p65) [.Attribute (.Name "e" p66) "at" p67,.Name "bool" p68] [] p69) p70] p71) [.Assign [.Name "_law_found" p72] (.Tuple [.Constant (.str "refused") 0 p73,.Call (.Attribute (.Name "_law_kinds" p74) "index" p75) [.Constant (.bool true) 0 p76] [] p77,.Attribute (.Name "e" p78) "at" p79] 0 p80) p81] [] p82]:=by
 intro B cs a D n j pn ad F s x0 x1 x3 t hI k hF;have st:∀{i:Nat}{x:Str},toldN[i]?=some x->B.N[i]?=some x/\Loc B.env.scope x:=fun{i x}h=>⟨by rw[t.N];exact h,.inl (t.lo x (zx4 h))⟩;have nmk:Nm "_law_kinds":=⟨by decide,by decide⟩;have S1:PS B _ _:=ze6 (B:=B) (i:=3) (p:=p0) (pos:=p18) (zp3 (pos:=p17) (zay (t.isi hI k (i:=0) (p1:=p1) (p2:=p2) (p3:=p3) (p4:=p4) rfl) (zay (t.isi hI k (i:=1) (p1:=p5) (p2:=p6) (p3:=p7) (p4:=p8) rfl) (zay (t.isi hI k (i:=2) (p1:=p9) (p2:=p10) (p3:=p11) (p4:=p12) rfl) (zay (t.isi hI k (i:=3) (p1:=p13) (p2:=p14) (p3:=p15) (p4:=p16) rfl) zgi rfl) rfl) rfl) rfl)) [] (st rfl).1 (.inl (t.lo "_law_kinds" (by decide))) rfl;have S2:PS B _ _:=ze5 (B:=B) (i:=3) (p:=p19) (pos:=p39) (zlg (pos:=p38) (t.v (p:=p20) (i:=3) rfl) (zp3 (pos:=p37) (zay (t.isi hI k (i:=4) (p1:=p21) (p2:=p22) (p3:=p23) (p4:=p24) rfl) (zay (t.isi hI k (i:=5) (p1:=p25) (p2:=p26) (p3:=p27) (p4:=p28) rfl) (zay (t.isi hI k (i:=6) (p1:=p29) (p2:=p30) (p3:=p31) (p4:=p32) rfl) (zay (t.isi hI k (i:=7) (p1:=p33) (p2:=p34) (p3:=p35) (p4:=p36) rfl) zgi rfl) rfl) rfl) rfl))) [] (st rfl).1 (.inl (t.lo "_law_kinds" (by decide))) rfl;have S3:PS B _ _:=zgh (B:=B) (pos:=p47) (px:=p40) (apos:=p41) (cpos:=p46) [] (st (i:=3) (x:="_law_kinds") rfl).1 nmk (t.isi hI k (i:=8) (p1:=p42) (p2:=p43) (p3:=p44) (p4:=p45) rfl) rfl l1 ⟨rfl,rfl,.inr ⟨_,_,rfl⟩⟩;have S4:PS B _ _:=ze6 (B:=B) (i:=1) (p:=p48) (pos:=p54) (zle (x1:=0) (pos:=p53) (zay (zgj (x:="refused") (j:=0) (pos:=p49)) (zay (zp5 (pos:=p51) (zie (i:=1) (j:=0) (pos:=p50))) (zay (zie (i:=0) (j:=0) (pos:=p52)) zgi rfl) rfl) rfl)) [] (st rfl).1 (.inl (t.lo "_law_found" (by decide))) rfl;have ve:Oke B.toYc (Nn B.N) (.Call (.Name "isinstance" p55) [.Name "e" p56,.Name "ValueError" p57] [] p58) _:=zp7 hI k.ec k.kv (t.v (i:=2) rfl) (fun A q=>zcf A (t.gl _ (by decide)) (t.nb _ (by decide)) (by decide +kernel:bootBuiltins "ValueError"=some (.type "ValueError")) q (by decide) (by decide)) (t.nb _ (by decide)) (t.gl _ (by decide)) rfl;have at1:Oke B.toYc (Nn B.N) (.Attribute (.Name "e" p66) "at" p67) _:=zu8 hI k.ec (t.v (i:=2) rfl) rfl;have bo:Oke B.toYc (Nn B.N) (.Call (.Name "isinstance" p65) [.Attribute (.Name "e" p66) "at" p67,.Name "bool" p68] [] p69) _:=zou (t.nb _ (by decide)) (t.gl _ (by decide)) (t.nb _ (by decide)) (t.gl _ (by decide)) at1 rfl;have cn:Oke B.toYc (Nn B.N) (.Call (.Attribute (.Name "_law_kinds" p59) "count" p60) [.Constant (.bool true) 0 p61] [] p62) _:=zid PySem.F.slot_list_count PySem.F.type_list_count (zij t.rm) (t.v (i:=3) rfl) zr9 rfl rfl l2;have ix:Oke B.toYc (Nn B.N) (.Call (.Attribute (.Name "_law_kinds" p74) "index" p75) [.Constant (.bool true) 0 p76] [] p77) _:=zid PySem.F.slot_list_index PySem.F.type_list_index (zii t.rm) (t.v (i:=3) rfl) zr9 rfl rfl l3;have bl:∀{o:a7 T}{b:Bool}{y:T},o.bind (ybx a (.bl b))=some y->∃b,y=.bl b:=fun h=>by obtain⟨_,_,h⟩:=obs h;exact⟨_,(zc3 h).2⟩
 have bl2:∀{o:a7 T}{y:T},o.bind (fun x=>yec x .tbool)=some y->∃b,y=.bl b:=fun h=>by obtain⟨x,_,h⟩:=obs h;cases x<;>first|(cases h;done)|(cases h;exact⟨_,rfl⟩)
 have S5:PS B _ _:=zul (B:=B) (pos:=p82) (Okw.okb (zkd (pos:=p71) (zlj ve (fun _=>rfl) bl) (zkd (zpw (pos:=p64) (zuz t.rm) cn (zie (i:=1) (j:=0) (pos:=p63)) rfl (fun h=>znh (o:=.eq) h)) (zkc (zlk (pos:=p70) (zlj bo (fun _=>rfl) bl2)))))) [3]
  (zbq (ze6 (B:=B) (i:=1) (p:=p72) (pos:=p81) (zle (x1:=0) (pos:=p80) (zay (zgj (x:="refused") (j:=0) (pos:=p73)) (zay ix (zay (zu8 (pos:=p79) hI k.ec (t.v (p:=p78) (i:=2) rfl) rfl) zgi rfl) rfl) rfl)) [3] (st rfl).1 (.inl (t.lo "_law_found" (by decide))) rfl) zd2) zd2
 obtain⟨c1,c2⟩:=zmb j k.hj;have SS:PSs B _ _:=zbq S1 (zbq S2 (zbq S3 (zbq S4 (zbq S5 zd2))));clear S1 S2 S3 S4 S5 ve at1 bo cn ix bl bl2 st;refine zyt (@SS pn ad _ F s (.nx [x0,.val (.tup [.str "refused",.int j,.int n]),.val (.adr a),.val (.lst (ybm j))]) hF ?_) (fun _ _ q=>q) fun _ _ q=>by obtain⟨_,_,q,_⟩:=q;cases q
 clear SS;obtain⟨_,_,_,hj⟩:=k;have e2:∀{o:a7 T}{t:T},o=some (.adr a)->o.bind (ybx a t)=some t:=fun h=>by rw[h];exact isA
 have key:∀{b0 b1 b2 b3 b4 b5 b6 b7 b8:Bool},[T.bl b0,.bl b1,.bl b2,.bl b3,.bl b4,.bl b5,.bl b6,.bl b7,.bl b8]=ybm j->yb7 .count (.lst [T.bl b0,.bl b1,.bl b2,.bl b3,.bl b4,.bl b5,.bl b6,.bl b7,.bl b8]) (.bl true)=some (.int 1)/\yb7 .index (.lst [T.bl b0,.bl b1,.bl b2,.bl b3,.bl b4,.bl b5,.bl b6,.bl b7,.bl b8]) (.bl true)=some (.int j):=fun h=>by rw[h];exact⟨c1,c2⟩
 have k9:[T.bl (decide (0=j)),.bl (decide (1=j)),.bl (decide (2=j)),.bl (decide (3=j)),.bl (decide (4=j)),.bl (decide (5=j)),.bl (decide (6=j)),.bl (decide (7=j)),.bl (decide (8=j))]=ybm j:=rfl;obtain⟨q1,q2⟩:=key k9;have q3:eqC (.int 1) (.int 1)=some (.bl true):=rfl;have q4:yec (.int n) .tbool=some (.bl false):=rfl;simp only[frzAt,ygg,List.map,xgz,xgs,xjs,Sl.get,xbs,isA,yez,xms,List.set,List.length,List.modify,List.modifyTailIdx,List.modifyTailIdx.go,List.modifyHead,Sl.frz,List.cons_append,List.nil_append,Nat.reduceAdd,Nat.reduceLeDiff,if_true,SZ,Nat.reduceLT,q1,q2,q3,q4,Bool.not_false];rw[k9]
end Nb
section
namespace Nb
open PySem Spec PyProof.Rows Ev
variable {fs:List Addr}{m:Str->a7 Value}
variable {B:Bd}{cs:List Addr}{a C D f:Addr}{n:Int}{j:Nat}{pn:List (Addr×a7 Obj)}{ad:Nat->List Addr}{τ:List Sl}{F G:Fz}{s s' s1 s2:Shared}{l:List PySem.Env}{x:Str}{e:Value}{A0:Around}{tt:T}
structure UpF(fs:List Addr)(F:Fz)(s:Shared)(G:Fz)(s':Shared):Prop extends UpE fs s s' where
 ff:F.le G
 fh:G.In s'.heap
 nw:∀b,G b≠none->F b≠none\/s.heap.get? b=none
theorem Up.toF(u:Up F s G s'):UpF fs F s G s':=⟨u.toE,u.ff,u.fh,u.nw⟩
theorem zga{h h':Heap}{b:Addr}(q:h.Ns b m)(k:∀o,h.get? b=some o->∃sl,h'.get? b=some {o with slots:=sl}):h'.Ns b m:=by obtain⟨o,es,ep,e1,e2,r⟩:=q;obtain⟨sl,e3⟩:=k o e1;exact⟨_,es,ep,e3,e2,r⟩
structure Er2(fs:List Addr)(s0:Shared)(a dx:Addr)(o:Obj)(n:Int)(k:Tok)(s:Shared):Prop where
 up:UpE fs s0 s
 ob:s.heap.get? a=some o
 tr:∃vs T oT ts,o.data=.fields vs/\vs[1]?=some (.ref T)/\T≠a/\T≠dx/\s.heap.get? T=some oT/\oT.data=.fields ts/\3<ts.size/\s0.heap.get? T=none
 ns:s.heap.Ns1 dx fun f=>if f="at" then some (.int n k)else none
theorem Er2.sf{s0:Shared}{dx:Addr}{o:Obj}{k:Tok}{M:Model}{A:Around}{E:Value->Shared->Prop}{Q:Unit->Shared->Prop}(h:Er2 fs s0 a dx o n k s)(q:∀s',Er2 fs s0 a dx o n k s'->Q () s'):wpAny M A (setFlight (.ref a) none) Q E s:=by
 obtain⟨up,ob,⟨vs,T,oT,ts,hv,t1,t2,t3,t4,t5,t6,nT⟩,ns⟩:=h;unfold setFlight;refine zxq (ub4 ob hv t1 ?_);rw[if_pos (show(Value.ref T != Value.none)=true from by simp)];have kp:∀b,b≠T->(s.heap.update T (Obj.mapFields (·.setIfInBounds 3 Value.none))).get? b=s.heap.get? b:=fun b hb=>Heap.get?_update_other _ _ (Ne.symm hb);refine wpAny_setField t4 t5 t6 (q _ ⟨⟨fun b u nb w=>(kp b fun z=>by rw[z,nT]at w;cases w).trans (up.ext b u nb w),fun b u w=>?_,up.os,up.bare⟩,(kp a (Ne.symm t2)).trans ob,⟨vs,T,_,_,hv,t1,t2,t3,Heap.get?_update_self _ t4 (Obj.isFreed_of_fields (ud4 t5 _)),ud4 t5 _,by simpa using t6,nT⟩,?_⟩)
 .obtain⟨sl,w'⟩:=up.slt b u w;exact⟨sl,(kp b fun z=>by rw[z,nT]at w;cases w).trans w'⟩
 .obtain⟨od,es,ep,q1,q2⟩:=ns;exact⟨od,es,ep,(kp dx (Ne.symm t3)).trans q1,q2⟩
def yer(B:Bd)(l:List PySem.Env)(tt:T)(s':Shared):Prop:=∃G u m,s'.heap.Ns B.env.locals m/\m "_law_found"=some u/\Rep B.w G tt u/\UpF (frs l) B.F0 B.s0 G s'
abbrev sBd(B:Bd)(l:List PySem.Env)(a D:Addr)(n:Int)(F:Fz):Bd:={B with A:=B.A.mark (some (.ref a)),I:=fun G=>ErAt G a D n,calm:=False,F0:=F,s0:={B.s0 with heap:=W.hideAll B.s0.heap (frs l)} }
theorem zjv{h:Heap}{dx:Addr}(q:h.Ns1 dx m){x:Str}{v:Value}(e:m x=some v):∃od,h.get? dx=some od/\W.lookIn x od=some (some v):=by
 obtain⟨o,es,ep,e1,e2,e3,e4,e5⟩:=q;refine⟨o,e1,?_⟩;have w:=(e5 x).trans e;unfold nsFind findBy at w;rw[<-Array.find?_toList]at w;unfold W.lookIn;rw[e2];dsimp only;cases z:es.toList.find? (fun y=>y.key.isStr x)with
 |none=>rw[z]at w;cases w
 |some y=>rw[z]at w;exact zx2 some w
theorem zkf{DE:Addr}{x0 x1 x2 x3:Sl}{pt ph:Pos}{k0:Stmt}{ks:List Stmt}(hm:B.Fm)(hc:B.calm)(h0:St B.toPc A0 l B.F0 B.s0)(hl:B.stack=B.env::l)(ht:B.tbp=[])(T:TdS B cs)(gD:Gl B.toYc "DealError")(mD:B.mg "DealError"=some (.ref DE))(so:zf8 (k0::ks))(h:B.Fr [] (fun _=>[]) [x0,x1,x2,x3] F s)(z:Err false B.toPc B.env.locals (frs B.stack) s x n e s')(ek:∀C,B.mg x=some (.ref C)->EK B.K cs C j/\W.exmOne B.K (.ref C) (.ref DE)=some true):wpAny B.M B.A (noteFrame e B.env) (fun _ s2=>wpAny B.M B.A (setFlight e none) (fun _ s3=>wpAny B.M B.A (handleBy e B.env [.ExceptHandler (some (.Name "DealError" pt)) (some "e") (k0::ks) ph]) (fun fl s4=>fl=.next/\yer B l (.tup [.str "refused",.int j,.int n]) s4) No s3) No s2) No s':=by
 have st:=h.toSt;have hfu0:s.heap.FunFrames B.base (B.env::l):=by rw[<-hl];exact st.funs hc
 have hfu:s'.heap.FunFrames B.base (B.env::l):=by obtain⟨_,_,_,_,_,_,_,u,_⟩:=z;exact zfx u hfu0
 have fr:B.A.frames=some (B.env::l):=by rw[<-hl];exact st.frames
 rw[hl]at z;refine zyt (zfp (E:=No) fr hfu hm.fr z) (fun _ s2 q=>?_) fun _ _ q=>q;obtain⟨⟨a,C,dx,o,k,rfl,eC,u2,⟨ob,cl,di,vs,hv,hz,ht'⟩,na,nd,nt,ne,nf,ns⟩,_⟩:=q;have E2:Er2 (frs (B.env::l)) s a dx o n k s2:=by
  rcases ht' with⟨q,_⟩|⟨Tb,oT,ts,t1,t2,t3,t4,t5,t6⟩
  .cases q
  .exact⟨u2,ob,⟨vs,Tb,oT,ts,hv,t1,t2,t3,t4,t5,by rcases t6 with t6|t6<;>exact(Array.getElem?_eq_some_iff.mp t6).1,nt Tb ⟨vs,hv,t1⟩⟩,ns⟩
 refine E2.sf fun s3 E3=>?_;obtain⟨ek1,ek2⟩:=ek C eC;have nfr:∀{b o},B.base.get? b=some o->b∉frs (B.env::l):=fun w z=>by rw[(hfu.mem z).1]at w;cases w
 have bk3:∀b o,B.base.get? b=some o->s3.heap.get? b=some o:=fun b o w=>E3.up.ext b o (nfr w) (st.bk b o w);refine wpAny_handleBy_cons (codeAny_handlers_test (Calls.Name_function_global h.ok.kind gD (Calls.loadGlobal_global (by rw[h.ok.glob];exact st.mod.glob.keeps bk3) mD ?_) rfl)) (by intro z;cases z);have ty:∀M,W.Looks M s3.heap (typeOf (.ref a)) (.ref C):=fun M=>cl▸(W.Looks.ld E3.ob).andThen .now;refine(W.exm_one (st.mod.kin.keeps bk3) (ty _) ek2).here ?_;refine codeAny_handlers_suite_as (E3.sf fun s4 E4=>?_);have hfu4:∀b∈frs l,b∈frs (B.env::l):=fun b hb=>by unfold frs at hb ⊢;rw[zyv,hm.fr];exact .tail _ hb
 have hz0:∀b∈frs l,∃o,B.s0.heap.get? b=some o:=fun b hb=>let⟨_,o,w,_⟩:=(h0.funs hc).mem hb;⟨o,w⟩
 have fo0:∀b∈frs l,F b=none:=fun b hb=>st.fo hc b (by rw[hl];exact hfu4 b hb);have fe:∀b,b∈frs (B.env::l)->b∈frs l\/b=B.env.locals:=fun b hb=>by
  unfold frs at hb;rw[zyv,hm.fr]at hb;rcases omc hb with w|w
  .exact .inr w
  .exact .inl w
 have ex:∀{b},s.heap.get? b=none->∀{c},(∃o,s.heap.get? c=some o)->c≠b:=fun z c ⟨o,w⟩ q=>by rw[q,z]at w;cases w
 have eL:∃o,s.heap.get? B.env.locals=some o:=let⟨m,n⟩:=h.ns.2;Heap.Ns.has n
 obtain⟨od,eod,lat⟩:=zjv E4.ns (x:="at") (if_pos rfl);have kF:∀b o,F b=some o->b∉frs (B.env::l):=fun b o w q=>by have:=st.fo hc b (by rw[hl];exact q);rw[this]at w;cases w
 have Fa:F a=none:=st.fh.none na;have Fd:F dx=none:=st.fh.none nd;have le1:F.le (fup (fup F a o) dx od):=fun b v w=>by refine zbm (F:=fup F a o) ?_ b v (zbm Fa b v w);unfold fup;rw[if_neg ne];exact Fd
 have Fn:∀{b},b≠a->b≠dx->F b=none->fup (fup F a o) dx od b=none:=fun w1 w2 w3=>by unfold fup;rw[if_neg w2,if_neg w1];exact w3
 have fa:fup (fup F a o) dx od a=some o:=by unfold fup;rw[if_neg (Ne.symm ne),if_pos rfl]
 have In4:(fup (fup F a o) dx od).In s4.heap:=fun b v w=>by
  unfold fup at w;split at w
  .rename_i q;cases w;rw[q];exact eod
  .split at w
   .rename_i q;cases w;rw[q];exact E4.ob
   .exact E4.up.ext b v (kF b v w) (st.fh b v w)
 have ns4:∀{m},s.heap.Ns B.env.locals m->s4.heap.Ns B.env.locals m:=fun q=>zga q fun o w=>E4.up.slt _ _ w;have cel:∀x∈B.N,∀c,B.env.cells.lookup x=some c->c∉frs (B.env::l):=fun x hx c w q=>by
  rcases fe c q with q|q
  .obtain⟨_,w2⟩:=hz0 c q;rw[h.cab x hx c w]at w2;cases w2
  .exact h.cne hx w q
 have lk4:∀{y v},y∈B.N->Look B.toYc s.heap y v->Look B.toYc s4.heap y v:=fun hy q=>by
  rcases q with⟨k,m,n,w⟩|⟨k,c,w,o',w2,w3⟩
  .exact .inl ⟨k,m,ns4 n,w⟩
  .exact .inr ⟨k,c,w,o',E4.up.ext _ _ (cel _ hy c w) w2,w3⟩
 have hid:∀{b},B.s0.heap.get? b=none->(W.hideAll B.s0.heap (frs l)).get? b=none:=fun{b}w=>by
  cases q:(W.hideAll B.s0.heap (frs l)).get? b with
  |none=>rfl
  |some o=>rw[W.of_hideAll _ q]at w;cases w
 have h4:(sBd B l a C n (fup (fup F a o) dx od)).Fr (ybc (frs l) s4.heap) (fun _=>[]) [x0,x1,x2,x3] (fup (fup F a o) dx od) s4:=by
  refine⟨⟨⟨h.ok.kind,h.ok.glob,h.ok.blt,h.ok.has,fun le q=>q.mono le⟩,⟨o,dx,od,k,?_,cl,di,⟨vs,hv⟩,zbs,lat⟩,fun{G s'}u q=>⟨st.mod,fun c=>c.elim,st.frames,fun b v w=>u.ext b v (W.hideAll_get _ (h0.bk b v w) fun q=>nfr w (hfu4 b q)),u.fh,u.bare h0.bare,fun c=>c.elim,fun c=>c.elim⟩,?_,?_,h.cin,h.nd⟩,⟨fun b v w=>?_,?_,?_,fun _ _ w=>w,In4,fun b w=>.inl w⟩,h.len,⟨?_,let⟨m,q⟩:=h.ns.2;⟨m,ns4 q⟩⟩,fun x hx c w=>⟨?_,?_⟩,fun _ _ w=>(nomatch w),fun p hp=>?_,fun _ _ _ w=>(nomatch w),fun i y sl w1 w2=>?_⟩
  .exact fa
  .exact hid h.lab
  .exact fun x hx c w=>hid (h.cab x hx c w)
  .have w':=W.of_hideAll _ w;refine E4.up.ext b v (fun q=>(fe b q).elim (fun q=>?_) fun q=>?_) (h.up.ext b v w')
   .rw[show(W.hideAll B.s0.heap (frs l)).get? b=none from W.hideAll_none _ q]at w;cases w
   .rw[q,h.lab]at w';cases w'
  .exact E4.up.os.trans h.up.os
  .exact fun w=>E4.up.bare (h.up.bare w)
  .exact Fn (ex na eL) (ex nd eL) h.ns.1
  .obtain⟨w1,v,o',w2,_⟩:=h.cell x hx c w;exact Fn (ex na ⟨_,w2⟩) (ex nd ⟨_,w2⟩) w1
  .obtain⟨_,v,o',w2,w3⟩:=h.cell x hx c w;exact⟨v,o',E4.up.ext _ _ (cel x hx c w) w2,w3⟩
  .replace hp:p∈B.tbp++ybc (frs l) s4.heap:=hp;rw[ht]at hp;obtain⟨hb,q⟩:=zd7 (F:=fup (fup F a o) dx od) hp;obtain⟨ob',w⟩:=hz0 _ hb;have w2:=h.up.ext _ _ w;refine⟨⟨W.hideAll_none _ hb,Fn (ex na ⟨_,w2⟩) (ex nd ⟨_,w2⟩) (fo0 _ hb),(fun z=>by rw[z,h.lab]at w;cases w),fun x hx c w3 z=>by have:=h.cab x hx c w3;rw[z,w]at this;cases this⟩,⟨q,fun q' hq' _=>?_⟩,fun i=>by simp⟩;replace hq':q'∈B.tbp++ybc (frs l) s4.heap:=hq';rw[ht]at hq';obtain⟨_,_,e1⟩:=ud5.mp hp;obtain⟨_,_,e2⟩:=ud5.mp hq';obtain⟨_,_,rfl⟩:=oms e1;obtain⟨_,_,rfl⟩:=oms e2;rfl
  .exact(h.slot i y sl w1 w2).to (fun u=>lk4 (zx4 w1)) (fun _ w=>nomatch w) le1
 have lo:=T.lo;have i2:B.N[2]?=some ("e":Str):=by rw[T.N];rfl
 refine h4.store (i:=2) (x:="e") (u:=.ref a) (d:=[]) (sl:=.val (.adr a)) i2 (.inl (lo _ (by decide))) (fun _ w=>nomatch w) (fun _ lk=>⟨_,lk,rfl,o,fa,(fun _ _ w=>by rw[hv]at w;cases w),(fun _ _ w=>by rw[hv]at w;cases w),fun _ w=>by rw[hv]at w;cases w⟩) fun s5 _ _ h5=>?_;refine zyt (so (B:=sBd B l a C n (fup (fup F a o) dx od)) ⟨T.N,T.lo,T.gl,T.nb,T.mc,T.rm⟩ (fun{F}q=>q) ek1 h5) (fun fl s6 q=>?_) fun _ _ q=>q.elim;cases fl<;>first|exact q.elim|skip
 obtain⟨ad6,G,le6,h6⟩:=q;have i1:B.N[1]?=some ("_law_found":Str):=by rw[T.N];rfl
 obtain⟨u,lk,r⟩:∃u,Look B.toYc s6.heap "_law_found" u/\Rep B.w G (.tup [.str "refused",.int j,.int n]) u:=h6.slot 1 _ _ i1 rfl;have kd:B.env.kindOf "_law_found"=some .local:=lo _ (by decide);obtain⟨m,hn,em⟩:∃m,s6.heap.Ns B.env.locals m/\m "_law_found"=some u:=by
  rcases lk with⟨_,q⟩|⟨q,_⟩
  .exact q
  .rcases q with q|q<;>rw[kd]at q<;>cases q
 have kind:(B.env.scope.kind==.class||(B.env.scope.kind==.module&&B.env.locals != B.env.globals))=false:=by rw[h.ok.kind];rfl
 refine wpAny_nameGoes_keeps (lo "e" (by decide)) hn kind fun h7 v hn7 sb=>⟨rfl,G,u,_,hn7,em,r,?_⟩;have L0:∀{b o},B.s0.heap.get? b=some o->b≠B.env.locals:=fun w z=>by rw[z,h.lab]at w;cases w
 refine⟨⟨fun b v nb w=>?_,fun b v w=>?_,h6.up.os,h6.up.bare⟩,fun b v w=>le6 b v (le1 b v (h.up.ff b v w)),fun b v w=>?_,fun b w=>?_⟩
 .exact(sb.2 b (L0 w)).trans (h6.up.ext b v (W.hideAll_get _ w nb))
 .by_cases hb:b∈frs l
  .obtain⟨sl,w4⟩:=E4.up.slt _ _ (h.up.ext b v w);have w5:s6.heap.get? b=some {v with slots:=sl}:=(h6.pin (b,some {v with slots:=sl}) (zym _ (ud5.mpr ⟨b,hb,by rw[w4];rfl⟩))).2.1.1;exact⟨sl,(sb.2 b (L0 w)).trans w5⟩
  .exact⟨v.slots,(sb.2 b (L0 w)).trans (h6.up.ext b v (W.hideAll_get _ w hb))⟩
 .refine(sb.2 b fun z=>?_).trans (h6.up.fh b v w);rw[z,show G B.env.locals=none from h6.ns.1]at w;cases w
 .have new0:s.heap.get? b=none->B.s0.heap.get? b=none:=h.up.old;rcases h6.up.nw b w with w2|w2
  .replace w2:fup (fup F a o) dx od b≠none:=w2;by_cases e1:b=a
   .rw[e1];exact .inr (h.up.old na)
   by_cases e2:b=dx
   .rw[e2];exact .inr (h.up.old nd)
   exact h.up.nw b fun w3=>w2 (Fn e1 e2 w3)
  .by_cases hb:b∈frs l
   .obtain⟨o',w3⟩:=hz0 b hb;obtain⟨sl,w4⟩:=E4.up.slt _ _ (h.up.ext b _ w3);exact absurd (h6.pin (b,some {o' with slots:=sl}) (zym _ (ud5.mpr ⟨b,hb,by rw[w4];rfl⟩))).1.f w
   .cases q:B.s0.heap.get? b with
    |none=>exact .inr rfl
    |some o'=>rw[show(W.hideAll B.s0.heap (frs l)).get? b=some o' from W.hideAll_get _ q hb]at w2;cases w2
end Nb
section
namespace Nb
open PySem Spec PyProof.Rows Ev
variable {P:Pc}{B:Bd}{cs:List Addr}{a C D f ta DE:Addr}{n:Int}{j k:Nat}{F G:Fz}{s s' s1 s2:Shared}{l:List PySem.Env}{x:Str}{A:Around}{tt:T}{o:Out}
def ydj(P:Pc)(k:Nat)(F:Fz)(f:Addr)(o:Out):Prop :=
 (∃n q lp lb ls cl pm cd ctv,F f=some (W.kla_obj n q lp lb ls cl pm cd ctv)) /\
 ∀{A l G s}(L:Addr),Room k A->St P A l G s->F.le G->codeAny P.M A (.call (.ref f) ⟨[],[]⟩) (fun r s2=>match o with
  |.rt t=>∃u,r=.ok (.ret u)/\Res P.w G s t u s2
  |.rs x n=>∃e,r=.error e/\Err false P L (frs l) s x n e s2
  |.nx _=>False) s
def yd5:Out->a7 T
 |.rt t=>some (.tup [.str "told",t])
 |.rs x n=>(ydt x yc2 0).map fun(j:Nat)=>.tup [.str "refused",.int (j:Int),.int n]
 |.nx _=>none
def TdB(body:List Stmt):Prop:=∃q0 q1 q2 q3 q4 q5 q6 q7 q8 pt ph k0 ks,body=[.Try [.Assign [.Name "_law_found" q0] (.Tuple [.Constant (.str "told") 0 q1,.Call (.Name "_law_deed_here" q2) [] [] q3] 0 q4) q5] [.ExceptHandler (some (.Name "DealError" pt)) (some "e") (k0::ks) ph] [] [] q6,.Return (some (.Name "_law_found" q7)) q8]/\zf8 (k0::ks)
structure ToldT(P:Pc)(ta:Addr)(cs:List Addr)(DE:Addr):Prop where
 ex:∃name qual params body scope dV kV doc pm cdv ct oc an od osl,P.K.lookup ta=some ⟨oc,od,.func (W.fnOf name qual params body scope dV kV doc pm an cdv ct),osl⟩/\W.codeIn P.K cdv qual=true/\FnScope toldN ["_law_deed_here"] scope/\(∀x∈toldN,scope.names.lookup x=some .local) /\
  (∀x∈(("DealError":Str)::toldC)++(["isinstance", "ValueError", "bool"]:List Str),scope.names.lookup x=some .globalImplicit)/\(∀us:List Value,us.length=1->bindArgs (W.fnOf name qual params body scope dV kV doc pm an cdv ct) ⟨us,[]⟩=pure ((["_law_deed_here"]:List Str).zip us))/\TdB body
 md:P.mg "DealError"=some (.ref DE)
 mc:toldC.map P.mg=cs.map fun C=>some (.ref C)
 nb:∀x∈(["isinstance", "ValueError", "bool"]:List Str),P.mg x=none
 ek:∀x C j,ydt x yc2 0=some j->P.mg x=some (.ref C)->EK P.K cs C j/\W.exmOne P.K (.ref C) (.ref DE)=some true
theorem zg0{Y:Yc}{N:Str->Nat->Prop}{r:Ev.Env}{p pos:Pos}{i:Nat}{E:Value->Shared->Prop}{Q:Value->Shared->Prop}{x:Str}(hN:N x i)(hd:(x==("__debug__":Str))=false)(hc:(x==("__classdict__":Str))=false)(A:At Y N r F s)(q:(r[i]?).join=some (.adr f))(h:ydj Y.toPc k G f o)(le:G.le F) (w:∀F1 s1,Up F s F1 s1->codeAny Y.M Y.A (.call (.ref f) ⟨[],[]⟩) (fun r s2=>match r with
   |.ok (.ret u)=>Q u s2
   |.error e=>E e s2
   |_=>False) s1):wpAny Y.M Y.A (eval (.Call (.Name x p) [] [] pos) Y.env) Q E s:=by
 obtain⟨⟨n,qq,lp,lb,ls,cl,pm,cd,ctv,hf⟩,_⟩:=h;refine wpAny_Call_Name_kw (thn (zll hN hd hc A q) fun u s1 ⟨G1,u1,eu,_⟩=>?_);subst eu;refine W.callWith_of (P:=fun h=>h.get? f=some (W.kla_obj n qq lp lb ls cl pm cd ctv)) rfl (fun h e=>⟨.frame,.inl rfl,(W.Looks.ld (part:=none) e).andThen .now⟩) (PyProof.Rows.evalArgs_none ?_);refine⟨u1.fh _ _ (u1.ff _ _ (le _ _ hf)),wpAny_call (codeAny_mono (w G1 s1 u1) fun r s2 z=>?_)⟩;cases r with
 |error e=>exact z
 |ok fl=>cases fl<;>exact z
theorem zkh{A0:Around}{q0 q1 q2 q3 q4 q5 q6 q7 q8 pt ph:Pos}{k0:Stmt}{ks:List Stmt}(hm:B.Fm)(hc:B.calm)(h0:St B.toPc A0 l B.F0 B.s0)(hl:B.stack=B.env::l)(ht:B.tbp=[])(T:TdS B cs)(gD:Gl B.toYc "DealError")(mD:B.mg "DealError"=some (.ref DE))(so:zf8 (k0::ks))(ek:∀x C j,ydt x yc2 0=some j->B.mg x=some (.ref C)->EK B.K cs C j/\W.exmOne B.K (.ref C) (.ref DE)=some true)(hr:Room k B.A)(I:B.Fr [] (fun _=>[]) [.val (.adr f),.no,.no,.no] B.F0 s1)(hL:ydj B.toPc k B.F0 f o)(hT:yd5 o=some tt):wpAny B.M B.A (execs [.Try [.Assign [.Name "_law_found" q0] (.Tuple [.Constant (.str "told") 0 q1,.Call (.Name "_law_deed_here" q2) [] [] q3] 0 q4) q5] [.ExceptHandler (some (.Name "DealError" pt)) (some "e") (k0::ks) ph] [] [] q6,.Return (some (.Name "_law_found" q7)) q8] B.env) (fun fl s'=>∃u G,fl=.ret u/\UpF (frs l) B.F0 B.s0 G s'/\Rep B.w G tt u) No s1:=by
 have kd:B.env.kindOf "_law_found"=some .local:=T.lo _ (by decide);have i0:B.N[0]?=some ("_law_deed_here":Str):=by rw[T.N];rfl
 have i1:B.N[1]?=some ("_law_found":Str):=by rw[T.N];rfl
 refine wpAny_execs_cons (thn (Q:=fun fl s'=>fl=.next/\yer B l tt s') (wpAny_Try_except ?_) fun fl s2 q=>?_)
 .cases o with
  |nx _=>cases hT
  |rt t=>
   cases hT;have I1:Bd.Fr {B with I:=fun G=>B.F0.le G} [] (fun _=>[]) [.val (.adr f),.no,.no,.no] B.F0 s1 :=
    ⟨⟨⟨I.ok.kind,I.ok.glob,I.ok.blt,I.ok.has,fun le q=>q.trans le⟩,fun _ _ e=>e,I.st,I.lab,I.cab,I.cin,I.nd⟩,I.up,I.len,I.ns,I.cell,fun _ _ w=>(nomatch w),(fun p hp=>by replace hp:p∈B.tbp++[]:=hp;rw[ht]at hp;cases hp),I.inj,I.slot⟩
   have he:Oke (Bd.toYc {B with I:=fun G=>B.F0.le G}) (Nn B.N) (.Call (.Name "_law_deed_here" q2) [] [] q3) fun r=>((r[0]?).join).bind (ybx f t):=fun{s F r t' E}A q=>by obtain⟨x1,e1,q⟩:=obs q;obtain⟨rfl,rfl⟩:=zc3 q;refine zg0 (i:=0) i0 (by decide) (by decide) A e1 hL A.inv fun F1 s3 u1=>codeAny_mono (hL.2 0 hr (A.toSt.up u1) (A.inv.trans u1.ff)) fun r s4 z=>?_;obtain⟨u,rfl,z⟩:=z;exact Res.mk u1 z
   have S1:PS {B with I:=fun G=>B.F0.le G} _ _:=ze6 (B:={B with I:=fun G=>B.F0.le G}) (i:=1) (x:="_law_found") (p:=q0) (pos:=q5) (zle (x1:=0) (pos:=q4) (zay (zgj (x:="told") (j:=0) (pos:=q1)) (zay he zgi rfl) rfl)) [] i1 (.inl kd) rfl;refine wpAny_execs_cons (zyt (@S1 [] _ _ _ s1 (.nx [.val (.adr f),.val (.tup [.str "told",t]),.no,.no]) I1 ?_) (fun fl s2 q=>?_) fun _ _ q=>by obtain⟨_,_,q,_⟩:=q;cases q)
   .simp only[frzAt,ygg,List.map,xgz,xjs,Sl.get,xbs,isA,xms,List.set,Nat.reduceAdd,Nat.reduceLeDiff,if_true]
   .cases fl<;>first|exact q.elim|skip
    obtain⟨ad2,G,le2,h2⟩:=q;obtain⟨u,lk,r⟩:∃u,Look B.toYc s2.heap "_law_found" u/\Rep B.w G (.tup [.str "told",t]) u:=h2.slot 1 _ _ i1 rfl;obtain⟨m,hn,em⟩:∃m,s2.heap.Ns B.env.locals m/\m "_law_found"=some u:=by
     rcases lk with⟨_,q⟩|⟨q,_⟩
     .exact q
     .rcases q with q|q<;>rw[kd]at q<;>cases q
    exact wpAny_execs_nil (wpAny_execs_nil ⟨rfl,G,u,m,hn,em,r,Up.toF h2.up⟩)
  |rs x n=>obtain⟨j,hj,rfl⟩:=oms hT;refine wpAny_execs_cons (wpAny_Assign_Name (wpAny_Tuple_spliced ?_) rfl);rw[show starEach [.Constant (.str "told") 0 q1,.Call (.Name "_law_deed_here" q2) [] [] q3] B.env=(false,eval (.Constant (.str "told") 0 q1) B.env)::(false,eval (.Call (.Name "_law_deed_here" q2) [] [] q3) B.env)::[]from rfl];refine Calls.spliced_cons (thn (zgj (x:="told") (j:=0) (pos:=q1) I.at rfl) fun u s2 z=>?_);obtain⟨G,u1,_⟩:=z;have I2:=I.after u1;refine Calls.spliced_cons (zg0 (i:=0) i0 (by decide) (by decide) I2.at rfl hL u1.ff fun F1 s3 u2=>codeAny_mono (hL.2 B.env.locals hr (I2.after u2).toSt (u1.ff.trans u2.ff)) fun r s4 z=>?_);obtain⟨e,rfl,z⟩:=z;exact zkf hm hc h0 hl ht T gD mD so (I2.after u2) z fun C hC=>ek x C j hj hC
 .obtain⟨rfl,G,u,m,hn,em,r,up⟩:=q;exact wpAny_execs_cons (wpAny_Return_some (wpAny_Name (wpAny_loadName_local I.ok.kind kd hn em ⟨u,G,rfl,up,r⟩) rfl))
theorem zkg(hc:P.calm)(T:ToldT P ta cs DE)(hr:Room (k+1) A)(h:St P A l F s)(hL:ydj P k F f o)(ht:yd5 o=some tt):codeAny P.M A (.call (.ref ta) ⟨[.ref f],[]⟩) (fun r s'=>∃u G,r=.ok (.ret u)/\UpF (frs l) F s G s'/\Rep P.w G tt u) s:=by
 obtain⟨name,qual,params,body,scope,dV,kV,doc,pm,cdv,ct,oc,an,od,osl,lk,hcd,S,lo,gl,bi,q0,q1,q2,q3,q4,q5,q6,q7,q8,pt,ph,k0,ks,rfl,so⟩:=T.ex;have KX:P.K.In s.heap:=h.mod.kin.keeps h.bk;have hkind:∀y∈(["_law_deed_here"]:List Str).zip [Value.ref f],scope.names.lookup y.1=some .local\/(scope.names.lookup y.1=some .cell/\((cellsFrom (s.heap.objs.size+1) scope.names []).lookup y.1).isSome=true):=fun⟨n,v⟩ hy=>.inl (by cases omg hy;exact lo "_law_deed_here" (by decide));refine codeAny_call_function (by have:=hr.dp;lia) (KX _ _ lk) rfl S.co S.gen rfl (W.codeRec_of KX hcd) (BindsTo.of_eq (bi [.ref f] rfl) _ _ _ _ ?_);refine wpAny_newFunctionEnv_cells S.kind hkind fun env he s1 x=>?_;subst he;refine⟨(h.mod.nolimit.keeps h.bk).keeps x.toInCall.keep,codeAny_func ?_⟩;obtain⟨n1,q11,lp,lb,ls,cl,pm',cd,ctv,hf⟩:=hL.1;have r1:Reps P.w F [.adr f] [.ref f]:=⟨_,_,rfl,⟨rfl,_,hf,(fun _ _ z=>nomatch z),(fun _ _ z=>nomatch z),fun _ z=>nomatch z⟩,rfl⟩;have I:(ydk P toldN qual scope ta cdv A l F s).Fr [] (fun _=>[]) [.val (.adr f),.no,.no,.no] F s1:=zfy (D:=⟨1,4,[]⟩) S h r1 rfl rfl x;have hr1:=hr.deeper (envOfC qual scope s.heap.objs.size ta cdv);have gl':∀y∈(("DealError":Str)::toldC)++(["isinstance", "ValueError", "bool"]:List Str),Gl (ydk P toldN qual scope ta cdv A l F s).toYc y:=gl;refine zyt (zkh (B:=ydk P toldN qual scope ta cdv A l F s) ⟨⟨l,rfl⟩,rfl⟩ hc h rfl rfl ⟨rfl,lo,fun y hy=>gl' y (zyh _ hy),T.nb,T.mc,?_⟩ (gl' _ (by decide)) T.md so T.ek (hr1.mono (by lia)) I hL ht) (fun fl s' z=>?_) fun _ _ z=>z.elim
 .have:=hr1.un;show(A.deeper (envOfC qual scope s.heap.objs.size ta cdv)).units+100<cLine;lia
 .obtain⟨u,G,rfl,z⟩:=z;exact⟨u,G,rfl,z⟩
end Nb
section
namespace Nb
open PySem Spec PyProof.Rows Ev
variable {P:Pc}{B:Bd}{cs:List Addr}{a C D f ta DE p cc cd:Addr}{n:Int}{i j k:Nat}{F G G2:Fz}{s s' s1 s2:Shared}{l:List PySem.Env}{x g:Str}{A:Around}{t tt:T}{ts:List T}{u:Value}{o:Out}{pn:List (Addr×a7 Obj)}{ad:Nat->List Addr}{τ:List Sl}{w:World}{ls:Scope}
mutual
theorem Rep.minus(h:∀b o,F b=some o->(∀v,o.data≠.cell v)->G b=some o):∀{t u},Rep w F t u->Rep w G t u
 |.non,_,r=>r
 |.bl _,_,r=>r
 |.int _,_,r=>r
 |.str _,_,r=>r
 |.tup _,_,⟨a,o,qc,n,h1,h2,h3,h4,h5,h6⟩=>⟨a,o,qc,n,h1,h _ _ h2 (fun v z=>by rw[h4]at z;cases z),h3,h4,h5,Reps.minus h h6⟩
 |.lst _,_,⟨a,qc,n,h1,h2,h5,h6⟩=>⟨a,qc,n,h1,h _ _ h2 (fun v z=>by cases z),h5,Reps.minus h h6⟩
 |.dic _ _,_,⟨a,o,es,ep,h1,h2,h3,h4,h5,h6⟩=>⟨a,o,es,ep,h1,h _ _ h2 (fun v z=>by rw[h4.dt]at z;cases z),h3,h4,Reps.minus h h5,Reps.minus h h6⟩
 |.adr _,_,⟨e,o,f,d1,d2,d3⟩=>⟨e,o,h _ _ f d3,d1,d2,d3⟩
theorem Reps.minus(h:∀b o,F b=some o->(∀v,o.data≠.cell v)->G b=some o):∀{ts us},Reps w F ts us->Reps w G ts us
 |[],_,r=>r
 |_::_,_,⟨u,r,h1,h2,h3⟩=>⟨u,r,h1,Rep.minus h h2,Reps.minus h h3⟩
end
theorem Fr.tabbed(h:B.Fr pn ad τ F s)(tb:B.tbp=[(p,none)])(le:F.le G)(gh:G.In s'.heap)(nw:∀b,G b≠none->F b≠none\/s.heap.get? b=none)(kp:∀b o,b≠p->s.heap.get? b=some o->s'.heap.get? b=some o)(os:s'.os=s.os)(br:AllBare s.gens->AllBare s'.gens)(tk:ycx G s'.heap p):B.Fr pn ad τ G s':=by
 obtain⟨m1,⟨m2,m3⟩,m4⟩:=h.pin (p,none) (List.mem_append_left _ (by rw[tb];exact .head _));have nil:∀{b},F b=none->(∃o,s.heap.get? b=some o)->G b=none:=fun{b}e z=>by
  cases q:G b with
  |none=>rfl
  |some o=>
   rcases nw b (by rw[q];simp)with w|w
   .exact absurd e w
   .obtain⟨_,z⟩:=z;rw[w]at z;cases z
 have lk:∀{x v},x∈B.N->Look B.toYc s.heap x v->Look B.toYc s'.heap x v:=fun hx q=>by
  rcases q with⟨k,m,n,e⟩|⟨k,c,e,o,z,w⟩
  .exact .inl ⟨k,m,n.at fun o q=>kp _ o (fun z=>m1.l z.symm) q,e⟩
  .exact .inr ⟨k,c,e,o,kp _ o (m1.c _ hx _ e) z,w⟩
 obtain⟨n2,m,n3⟩:=h.ns;refine⟨h.toFs,⟨fun b o e=>kp b o (fun z=>by rw[z,m1.z]at e;cases e) (h.up.ext b o e),os.trans h.up.os,fun e=>br (h.up.bare e),fun b o e=>le b o (h.up.ff b o e),gh,fun b e=>(nw b e).elim (h.up.nw b) fun z=>.inr (h.up.old z)⟩,
  h.len,⟨nil n2 (Heap.Ns.has n3),m,n3.at fun o q=>kp _ o (fun z=>m1.l z.symm) q⟩,fun x hx c e=>?_,fun i a e=>?_,fun q hq=>?_,h.inj,fun i x sl e1 e2=>(h.slot i x sl e1 e2).to (fun _=>lk (zx4 e1)) (fun a ha o q=>kp _ o (fun z=>m4 i (z▸ha)) q) le⟩
 .obtain⟨c2,v,o,c3,c4⟩:=h.cell x hx c e;exact⟨nil c2 ⟨_,c3⟩,v,o,kp _ _ (m1.c x hx c e) c3,c4⟩
 .obtain⟨a1,a2⟩:=h.own i a e;exact⟨{a1 with f:=nil a1.f a2},a2.imp fun o q=>kp _ o (fun z=>m4 i (z▸e)) q⟩
 .obtain⟨p1,p2,p3⟩:=h.pin q hq;refine⟨{p1 with f:=nil p1.f p2.1.ex},⟨?_,p2.2⟩,p3⟩;by_cases hp:q.1=p
  .have e:=m3 q hq hp;obtain⟨q1,q2⟩:=q;cases q2 with
   |none=>cases hp;exact tk
   |some o=>cases e
  .exact p2.1.to le fun o=>kp _ o hp
theorem Fr.afterF{ce:Addr->Bool}(h:B.Fr pn ad τ F s)(stk:B.stack=[B.env])(fr:B.env.frame=some B.env.locals)(hce:∀b,ce b=true↔∃x∈B.N,B.env.cells.lookup x=some b)(u:UpF (frs B.stack) (fun b=>if ce b=true then s.heap.get? b else F b) s G s'):F.le (fun b=>if ce b=true then none else G b)/\B.Fr pn ad τ (fun b=>if ce b=true then none else G b) s'/\∀{t v},Rep B.w G t v->Rep B.w (fun b=>if ce b=true then none else G b) t v:=by
 have fs:∀b,b∈frs B.stack->b=B.env.locals:=fun b hb=>by rw[stk]at hb;unfold frs at hb;rw[zyv,fr]at hb;simpa using hb
 have kp:∀b o,b≠B.env.locals->s.heap.get? b=some o->s'.heap.get? b=some o:=fun b o nb e=>u.ext b o (fun z=>nb (fs b z)) e;have cell:∀{b},ce b=true->F b=none/\∃v,s.heap.IsCell b v:=fun hb=>let⟨x,hx,e⟩:=(hce _).mp hb;h.cell x hx _ e
 have Fc:∀{b},¬ce b=true->F b=none->(∃o,s.heap.get? b=some o)->(if ce b=true then none else G b)=none:=fun{b}n e z=>by
  rw[if_neg n];cases q:G b with
  |none=>rfl
  |some o=>
   rcases u.nw b (by rw[q];simp)with w|w
   .exact absurd (show(if ce b=true then s.heap.get? b else F b)=none by rw[if_neg n];exact e) w
   .obtain⟨_,z⟩:=z;rw[w]at z;cases z
 have le:F.le (fun b=>if ce b=true then none else G b):=fun b o e=>by
  have n:¬ce b=true:=fun z=>by rw[(cell z).1]at e;cases e
  show(if ce b=true then none else G b)=some o;rw[if_neg n];exact u.ff b o (show(if ce b=true then s.heap.get? b else F b)=some o by rw[if_neg n];exact e)
 have ncl:¬ce B.env.locals=true:=fun z=>let⟨x,hx,e⟩:=(hce _).mp z;h.cne hx e rfl
 have lk:∀{x v},x∈B.N->Look B.toYc s.heap x v->Look B.toYc s'.heap x v:=fun hx q=>by
  rcases q with⟨k,m,n,e⟩|⟨k,c,e,o,z,w⟩
  .exact .inl ⟨k,m,zga n fun o q=>u.slt _ _ q,e⟩
  .exact .inr ⟨k,c,e,o,kp _ o (h.cne hx e) z,w⟩
 obtain⟨n2,m,n3⟩:=h.ns;have gh:Fz.In (fun b=>if ce b=true then none else G b) s'.heap:=fun b o e=>by
  replace e:(if ce b=true then none else G b)=some o:=e;split at e
  .cases e
  .exact u.fh b o e
 refine⟨le,⟨h.toFs,⟨fun b o e=>kp b o (fun z=>by rw[z,h.lab]at e;cases e) (h.up.ext b o e),u.os.trans h.up.os,fun e=>u.bare (h.up.bare e),fun b o e=>le b o (h.up.ff b o e),gh,fun b e=>?_⟩,
  h.len,⟨Fc ncl n2 (Heap.Ns.has n3),m,zga n3 fun o q=>u.slt _ _ q⟩,fun x hx c e=>?_,fun i a e=>?_,fun q hq=>?_,h.inj,fun i x sl e1 e2=>(h.slot i x sl e1 e2).to (fun _=>lk (zx4 e1)) (fun a ha o q=>kp _ o (fun z=>(h.own i a ha).1.l z) q) le⟩,fun{t v}r=>r.minus fun b o e d=>?_⟩
 .by_cases n:ce b=true
  .exact absurd (if_pos n) e
  .replace e:(if ce b=true then none else G b)≠none:=e;rw[if_neg n]at e;rcases u.nw b e with w|w
   .replace w:(if ce b=true then s.heap.get? b else F b)≠none:=w;rw[if_neg n]at w;exact h.up.nw b w
   .exact .inr (h.up.old w)
 .obtain⟨c2,v,o,c3,c4⟩:=h.cell x hx c e;exact⟨if_pos ((hce c).mpr ⟨x,hx,e⟩),v,o,kp _ _ (h.cne hx e) c3,c4⟩
 .obtain⟨a1,a2⟩:=h.own i a e;have n:¬ce a=true:=fun z=>let⟨x,hx,e⟩:=(hce _).mp z;a1.c x hx a e rfl
  exact⟨{a1 with f:=Fc n a1.f a2},a2.imp fun o q=>kp _ o a1.l q⟩
 .obtain⟨p1,p2,p3⟩:=h.pin q hq;have n:¬ce q.1=true:=fun z=>let⟨x,hx,e⟩:=(hce _).mp z;p1.c x hx _ e rfl
  exact⟨{p1 with f:=Fc n p1.f p2.1.ex},⟨p2.1.to le fun o=>kp _ o p1.l,p2.2⟩,p3⟩
 .show(if ce b=true then none else G b)=some o;by_cases n:ce b=true
  .obtain⟨_,v,o',c3,c4⟩:=cell n;have:=u.ff b o' (show(if ce b=true then s.heap.get? b else F b)=some o' by rw[if_pos n];exact c3);rw[e]at this;cases this;exact absurd c4 (d v)
  .rw[if_neg n];exact e
end Nb
section
namespace Ev
open PySem
theorem zbr{α β:Type}{f:α->β}{l m:List β}(h:l.Perm m):∀{n:List α},m=n.map f->∃k:List α,l=k.map f/\k.Perm n:=by
 induction h with
 |nil=>
  intro n e;have:n=[]:=by cases n with|nil=>rfl|cons=>cases e
  subst this;exact⟨[],rfl,.refl _⟩
 |cons x _ ih=>
  intro n e;cases n with
  |nil=>cases e
  |cons y n=>rw[zxz]at e;injection e with e1 e2;obtain⟨k,rfl,hk⟩:=ih e2;exact⟨y::k,by rw[e1];rfl,.cons _ hk⟩
 |swap x y l=>
  intro n e
  match n,e with
  |a::b::n,e=>rw[zxz,zxz]at e;injection e with e1 e2;injection e2 with e2 e3;subst e1 e2 e3;exact⟨b::a::n,rfl,.swap _ _ _⟩
  |[_],e=>cases e
  |[],e=>cases e
 |trans _ _ ih1 ih2=>intro n e;obtain⟨k,e2,h2⟩:=ih2 e;obtain⟨k',e1,h1⟩:=ih1 e2;exact⟨k',e1,h1.trans h2⟩
theorem zef(x:T):∀l:List T,(yed x l).Perm (x::l)
 |[]=>.refl _
 |y::r=>by
  rw[yed];split
  .exact .refl _
  .exact((zef x r).cons y).trans (.swap x y r)
theorem za0:∀l:List T,(ycy l).Perm l
 |[]=>.refl _
 |x::r=>(zef x (ycy r)).trans ((za0 r).cons x)
theorem zmp{x:T}:∀{l:List T},(l.Pairwise fun a b=>cD a b=true)->(∀y∈l,cD y x=!cD x y)->(∀y∈l,∀z∈l,cD x y=true->cD y z=true->cD x z=true)->(yed x l).Pairwise fun a b=>cD a b=true
 |[],_,_,_=>List.pairwise_singleton _ _
 |y::r,h,ht,hr=>by
  rw[ud2]at h;rw[yed];split
  .rename_i hc;refine ud2.mpr ⟨fun z hz=>?_,ud2.mpr h⟩;rcases omc hz with rfl|hz
   .exact hc
   .exact hr y (.head _) z (.tail _ hz) hc (h.1 z hz)
  .rename_i hc;refine ud2.mpr ⟨fun z hz=>?_,zmp h.2 (fun z hz=>ht z (.tail _ hz)) fun z hz z' hz'=>hr z (.tail _ hz) z' (.tail _ hz')⟩;rcases omc ((zef x r).mem_iff.mp hz)with rfl|hz
   .rw[ht y (.head _)];simpa using hc
   .exact h.1 z hz
theorem zft:∀{l:List T},(l.Pairwise fun x y=>cD y x=!cD x y)->(∀x∈l,∀y∈l,∀z∈l,cD x y=true->cD y z=true->cD x z=true)->(ycy l).Pairwise fun a b=>cD a b=true
 |[],_,_=>.nil
 |x::r,h,ht=>by rw[ud2]at h;have m:∀{y},y∈ycy r->y∈r:=fun{y}hy=>(za0 r).mem_iff.mp hy;exact zmp (zft h.2 fun a ha b hb c hc=>ht a (.tail _ ha) b (.tail _ hb) c (.tail _ hc)) (fun y hy=>h.1 y (m hy)) fun y hy z hz=>ht x (.head _) y (.tail _ (m hy)) z (.tail _ (m hz))
theorem zpx{R:T->T->Prop}:∀{l m:List T},l.Pairwise R->m.Pairwise R->(∀x∈l,∀y∈l,R x y->R y x->False)->l.Perm m->l=m
 |[],m,_,_,_,p=>(List.Perm.nil_eq p)
 |x::l,m,h1,h2,ha,p=>by
  cases m with
  |nil=>exact absurd p.symm (by simp)
  |cons y m=>
   rw[ud2]at h1 h2;have e:x=y:=by
    have hx:=p.mem_iff.mp (zyo (a:=x) (l:=l));have hy:=p.mem_iff.mpr (zyo (a:=y) (l:=m));rcases omc hx with e|hx
    .exact e
    .rcases omc hy with e|hy
     .exact e.symm
     .exact(ha x (.head _) y (.tail _ hy) (h1.1 y hy) (h2.1 x hx)).elim
   subst e;rw[zpx h1.2 h2.2 (fun a b c d=>ha a (.tail _ b) c (.tail _ d)) (List.Perm.cons_inv p)]
section
open PySem PySem.W PyProof.Rows
variable {i j:Nat}
def yax{α:Type}(c:Nat->Nat->Bool):KasT α->α
 |.ret a=>a
 |.ask i j k=>yax c (k (c i j))
def kok{α:Type}(n:Nat)(c:Nat->Nat->Bool):KasT α->Bool
 |.ret _=>true
 |.ask i j k=>decide (i<n)&&decide (j<n)&&kok n c (k (c i j))
section
variable {n:Nat}{c:Nat->Nat->Bool}
theorem zby{α β:Type}{f:α->KasT β}:∀t:KasT α,yax c (t.bind f)=yax c (f (yax c t))
 |.ret _=>rfl
 |.ask i j k=>zby (k (c i j))
theorem zb3{α β:Type}{f:α->KasT β}:∀t:KasT α,kok n c t=true->kok n c (f (yax c t))=true->kok n c (t.bind f)=true
 |.ret _,_,h=>h
 |.ask i j k,h1,h2=>by rw[kok,zxw]at h1;show(decide (i<n)&&decide (j<n)&&kok n c ((k (c i j)).bind f))=true;rw[h1.1,zb3 (k (c i j)) h1.2 h2];rfl
theorem zcg{α:Type}{k:Bool->KasT α}(hi:i<n)(hj:j<n)(h:kok n c (k (c i j))=true):kok n c (.ask i j k)=true:=by rw[kok,zx8 hi,zx8 hj,h];rfl
def Pm(n:Nat)(p:Array Nat):Prop:=p.toList.Perm (List.range n)
def at'(p:Array Nat)(i:Nat):Nat:=p.getD i 0
variable {p:Array Nat}
theorem Pm.size(h:Pm n p):p.size=n:=by
 have:=List.Perm.length_eq h
 rwa[zx1,zy2]at this
theorem zg4(h:i<p.size):p[i]?=some (at' p i):=by unfold at';rw[Array.getD_eq_getD_getElem?,ub2 h];rfl
theorem zwr{q:Array Nat}(h:q[i]?=p[j]?):at' q i=at' p j:=by unfold at';rw[Array.getD_eq_getD_getElem?,Array.getD_eq_getD_getElem?,h]
theorem Pm.lt(h:Pm n p)(hi:i<n):at' p i<n:=by have h1:=zg4 (p:=p) (i:=i) (by rw[h.size];exact hi);rw[<-zx9]at h1;exact List.mem_range.mp ((List.Perm.mem_iff h).mp (zx4 h1))
theorem Pm.ne(h:Pm n p)(hi:i<n)(hj:j<n)(hne:i≠j):at' p i≠at' p j:=fun e=>by have nd:p.toList.Nodup:=(List.Perm.nodup_iff h).mpr List.nodup_range;have h1:=zg4 (p:=p) (i:=i) (by rw[h.size];exact hi);have h2:=zg4 (p:=p) (i:=j) (by rw[h.size];exact hj);rw[<-zx9]at h1 h2;rw[e,<-h2]at h1;exact hne ((List.getElem?_inj (by rw[zx1,h.size];exact hi) nd).mp h1)
structure Tot(n:Nat)(c:Nat->Nat->Bool):Prop where
 tot:∀i j,i<n->j<n->i≠j->c j i=!c i j
 tr:∀i j k,i<n->j<n->k<n->c i j=true->c j k=true->c i k=true
def Asc(c:Nat->Nat->Bool)(p:Array Nat)(k:Nat):Prop:=∀i j,i<j->j<k->c (at' p i) (at' p j)=true
def Dsc(c:Nat->Nat->Bool)(p:Array Nat)(k:Nat):Prop:=∀i j,i<j->j<k->c (at' p j) (at' p i)=true
theorem Asc.grow(T:Tot n c)(P:Pm n p){k:Nat}(h1:1<=k)(hk:k<n)(h:Asc c p k)(e:c (at' p (k-1)) (at' p k)=true):Asc c p (k+1):=fun i j hij hj=>by
 by_cases hjk:j<k
 .exact h i j hij hjk
 .obtain rfl:j=k:=by lia
  by_cases hi:i=j-1
  .rw[hi];exact e
  .exact T.tr _ _ _ (P.lt (by lia)) (P.lt (by lia)) (P.lt hk) (h i (j-1) (by lia) (by lia)) e
theorem Dsc.grow(T:Tot n c)(P:Pm n p){k:Nat}(h1:1<=k)(hk:k<n)(h:Dsc c p k)(e:c (at' p k) (at' p (k-1))=true):Dsc c p (k+1):=fun i j hij hj=>by
 by_cases hjk:j<k
 .exact h i j hij hjk
 .obtain rfl:j=k:=by lia
  by_cases hi:i=j-1
  .rw[hi];exact e
  .exact T.tr _ _ _ (P.lt hk) (P.lt (by lia)) (P.lt (by lia)) e (h i (j-1) (by lia) (by lia))
theorem zhu(T:Tot n c)(P:Pm n p):∀(f k:Nat),1<=k->k+f<=n->Asc c p k->kok n c (kas_asc p f k)=true/\k<=yax c (kas_asc p f k)/\yax c (kas_asc p f k)<=k+f/\Asc c p (yax c (kas_asc p f k))/\(yax c (kas_asc p f k)<k+f->c (at' p (yax c (kas_asc p f k))) (at' p (yax c (kas_asc p f k)-1))=true)
 |0,k,_,_,h=>⟨rfl,zx3 _,zx3 _,h,fun z=>absurd z (zy5 _)⟩
 |f+1,k,h1,hk,h=>by
  have l1:=P.lt (i:=k) (by lia);have l2:=P.lt (i:=k-1) (by lia);cases e:c (at' p k) (at' p (k-1))with
  |true=>
   have er:yax c (kas_asc p (f+1) k)=k:=by show yax c (if c (at' p k) (at' p (k-1))=true then _ else _)=k;rw[e];rfl
   rw[er];refine⟨zcg l1 l2 ?_,zx3 _,by lia,h,fun _=>e⟩;show kok n c (if c (at' p k) (at' p (k-1))=true then _ else _)=true;rw[e];rfl
  |false=>
   have e':c (at' p (k-1)) (at' p k)=true:=by rw[T.tot _ _ l1 l2 (P.ne (by lia) (by lia) (by lia)),e];rfl
   obtain⟨a1,a2,a3,a4,a5⟩:=zhu T P f (k+1) (by lia) (by lia) (h.grow T P h1 (by lia) e');have er:yax c (kas_asc p (f+1) k)=yax c (kas_asc p f (k+1)):=by show yax c (if c (at' p k) (at' p (k-1))=true then _ else _)=_;rw[e];rfl
   rw[er];refine⟨zcg l1 l2 ?_,by lia,by lia,a4,fun z=>a5 (by lia)⟩;show kok n c (if c (at' p k) (at' p (k-1))=true then _ else _)=true;rw[e];exact a1
theorem zi8(T:Tot n c)(P:Pm n p):∀(f k:Nat),1<=k->k+f<=n->Dsc c p k->kok n c (kas_desc f p k 0)=true/\∃m,yax c (kas_desc f p k 0)=(p,m,0)/\k<=m/\m<=k+f/\Dsc c p m
 |0,k,_,_,h=>⟨rfl,k,rfl,zx3 _,zx3 _,h⟩
 |f+1,k,h1,hk,h=>by
  have l1:=P.lt (i:=k) (by lia);have l2:=P.lt (i:=k-1) (by lia);cases e:c (at' p k) (at' p (k-1))with
  |true=>
   obtain⟨a1,m,a2,a3,a4,a5⟩:=zi8 T P f (k+1) (by lia) (by lia) (h.grow T P h1 (by lia) e);refine⟨zcg l1 l2 ?_,m,?_,by lia,by lia,a5⟩
   .show kok n c (if c (at' p k) (at' p (k-1))=true then _ else _)=true;rw[e];exact a1
   .show yax c (if c (at' p k) (at' p (k-1))=true then _ else _)=_;rw[e];exact a2
  |false=>
   have e':c (at' p (k-1)) (at' p k)=true:=by rw[T.tot _ _ l1 l2 (P.ne (by lia) (by lia) (by lia)),e];rfl
   refine⟨zcg l1 l2 ?_,k,?_,zx3 _,by lia,h⟩
   .show kok n c (if c (at' p k) (at' p (k-1))=true then _ else _)=true;rw[e];refine zcg l2 l1 ?_;show kok n c (if c (at' p (k-1)) (at' p k)=true then _ else _)=true;rw[e'];rfl
   .show yax c (if c (at' p k) (at' p (k-1))=true then _ else _)=_;rw[e];show yax c (if c (at' p (k-1)) (at' p k)=true then _ else _)=_;rw[e'];rfl
theorem zub(P:Pm n p)(m:Nat):Pm n (kas_rev p 0 m):=List.Perm.trans (Array.perm_iff_toList_perm.mp (mirror_perm p 0 m ((m-0)/2))) P
theorem zrf(P:Pm n p){m:Nat}(hm:m<=n)(h:Dsc c p m):Asc c (kas_rev p 0 m) m:=fun i j hij hj=>by
 have hs:=P.size;have g:∀i,i<m->at' (kas_rev p 0 m) i=at' p (m-1-i):=fun i hi=>zwr (by unfold kas_rev;rw[getElem?_mirror_all (by lia),if_pos ⟨zyg _,hi⟩,show 0+m-1-i=m-1-i by lia]);rw[g i (by lia),g j hj];exact h _ _ (by lia) (by lia)
theorem zne(T:Tot n c)(P:Pm n p)(h2:2<=n):kok n c (kas_count n p)=true/\∃m q,yax c (kas_count n p)=(m,q)/\1<=m/\m<=n/\Pm n q/\Asc c q m:=by
 obtain⟨a1,a2,a3,a4,a5⟩:=zhu T P (n-1) 1 (zx3 _) (by lia) (fun i j hij hj=>by lia);unfold kas_count;rw[zby];generalize hm:yax c (kas_asc p (n-1) 1)=m at *;have main:kok n c (if(m==n)=true then .ret (m,p)else if m>1 then .ask (p.getD 0 0) (p.getD (m-1) 0) fun d=>if d=true then .ret (m,p)else kas_descPart m n (kas_rev p 0 m)else kas_descPart m n p)=true/\∃m' q,yax c (if(m==n)=true then .ret (m,p)else if m>1 then .ask (p.getD 0 0) (p.getD (m-1) 0) fun d=>if d=true then .ret (m,p)else kas_descPart m n (kas_rev p 0 m)else kas_descPart m n p)=(m',q)/\1<=m'/\m'<=n/\Pm n q/\Asc c q m':=by
  by_cases he:m=n
  .rw[if_pos (by simpa using he)];exact⟨rfl,m,p,rfl,a2,by lia,P,a4⟩
  .rw[if_neg (by simpa using he)];by_cases h1:m>1
   .rw[if_pos h1];have e:c (at' p 0) (at' p (m-1))=true:=a4 0 (m-1) (by lia) (by lia);refine⟨zcg (P.lt (i:=0) (by lia)) (P.lt (i:=m-1) (by lia)) ?_,m,p,?_,a2,by lia,P,a4⟩
    .show kok n c (if c (at' p 0) (at' p (m-1))=true then _ else _)=true;rw[e];rfl
    .show yax c (if c (at' p 0) (at' p (m-1))=true then _ else _)=_;rw[e];rfl
   .rw[if_neg h1];obtain rfl:m=1:=by lia
    have e:=a5 (by lia);obtain⟨b1,k,b2,b3,b4,b5⟩:=zi8 T P (n-(1+1)) (1+1) (by lia) (by lia) (fun i j hij hj=>by
     obtain rfl:j=1:=by lia
     obtain rfl:i=0:=by lia
     exact e)
    have P':=zub P k;obtain⟨d1,d2,d3,d4,_⟩:=zhu T P' (n-k) k (by lia) (by lia) (zrf P (by lia) b5);unfold kas_descPart;rw[zby,b2];refine⟨zb3 _ b1 ?_,yax c (kas_asc (kas_rev p 0 k) (n-k) k),kas_rev p 0 k,?_,by lia,by lia,P',d4⟩
    .rw[b2];exact zb3 _ d1 rfl
    .show yax c ((kas_asc (kas_rev p 0 k) (n-k) k).bind _)=_;rw[zby];rfl
 exact⟨zb3 _ a1 (by rw[hm];exact main.1),main.2⟩
theorem zd5(T:Tot n c)(P:Pm n p){k:Nat}(hk:k<n)(h:Asc c p k):∀(f l r:Nat),l<=r->r<=k->r-l<=f->(∀i,i<l->c (at' p i) (at' p k)=true)->(∀i,r<=i->i<k->c (at' p k) (at' p i)=true) ->kok n c (kas_place p k f l r)=true/\yax c (kas_place p k f l r)<=k/\(∀i,i<yax c (kas_place p k f l r)->c (at' p i) (at' p k)=true)/\∀i,yax c (kas_place p k f l r)<=i->i<k->c (at' p k) (at' p i)=true
 |0,l,r,h1,h2,h3,h4,h5=>⟨rfl,by show l<=k;lia,h4,fun i hi hik=>h5 i (by have:l<=i:=hi;lia) hik⟩
 |f+1,l,r,h1,h2,h3,h4,h5=>by
  by_cases hlr:l>=r
  .have er:kas_place p k (f+1) l r=.ret l:=by rw[kas_place,if_pos hlr]
   rw[er];exact⟨rfl,by show l<=k;lia,h4,fun i hi hik=>h5 i (by have:l<=i:=hi;lia) hik⟩
  .have er:kas_place p k (f+1) l r=.ask (at' p k) (at' p ((l+r)/2)) fun d=>if d=true then kas_place p k f l ((l+r)/2)else kas_place p k f ((l+r)/2+1) r:=by rw[kas_place,if_neg hlr];rfl
   rw[er];have hm:(l+r)/2<k:=by lia
   have l1:=P.lt hk;have l2:=P.lt (i:=(l+r)/2) (by lia);have eo:∀(b:Bool),c (at' p k) (at' p ((l+r)/2))=b->yax c (.ask (at' p k) (at' p ((l+r)/2)) fun d=>if d=true then kas_place p k f l ((l+r)/2)else kas_place p k f ((l+r)/2+1) r)=yax c (if b=true then kas_place p k f l ((l+r)/2)else kas_place p k f ((l+r)/2+1) r):=fun b e=>by rw[yax,e]
   cases e:c (at' p k) (at' p ((l+r)/2))with
   |true=>
    obtain⟨a1,a2,a3,a4⟩:=zd5 T P hk h f l ((l+r)/2) (by lia) (by lia) (by lia) h4 fun i hi hik=>by
     by_cases q:i=(l+r)/2
     .rw[q];exact e
     .exact T.tr _ _ _ l1 l2 (P.lt (by lia)) e (h _ _ (by lia) hik)
    rw[eo _ e,if_pos rfl];exact⟨zcg l1 l2 (by rw[e,if_pos rfl];exact a1),a2,a3,a4⟩
   |false=>
    have e':c (at' p ((l+r)/2)) (at' p k)=true:=by rw[T.tot _ _ l1 l2 (P.ne (by lia) (by lia) (by lia)),e];rfl
    obtain⟨a1,a2,a3,a4⟩:=zd5 T P hk h f ((l+r)/2+1) r (by lia) h2 (by lia) (fun i hi=>by
     by_cases q:i=(l+r)/2
     .rw[q];exact e'
     .exact T.tr _ _ _ (P.lt (by lia)) l2 l1 (h _ _ (by lia) hm) e') h5
    rw[eo _ e,if_neg (by simp)];exact⟨zcg l1 l2 (by rw[e,if_neg (by simp)];exact a1),a2,a3,a4⟩
theorem zno(T:Tot n c):∀(f:Nat)(p:Array Nat)(k:Nat),Pm n p->1<=k->k+f=n->Asc c p k->kok n c (kas_bin f p k)=true/\Pm n (yax c (kas_bin f p k))/\Asc c (yax c (kas_bin f p k)) n
 |0,p,k,P,_,hk,h=>⟨rfl,P,by have:k=n:=hk;rw[<-this];exact h⟩
 |f+1,p,k,P,h1,hk,h=>by
  obtain⟨a1,a2,a3,a4⟩:=zd5 T P (k:=k) (by lia) h k 0 k (zyg _) (zx3 _) (by lia) (fun i hi=>by lia) fun i hi hik=>by lia
  have er:kas_bin (f+1) p k=(kas_place p k k 0 k).bind fun l=>kas_bin f (bubble p k (k-l)) (k+1):=rfl;rw[er,zby];generalize hl:yax c (kas_place p k k 0 k)=l at *;have P':Pm n (bubble p k (k-l)):=List.Perm.trans (Array.perm_iff_toList_perm.mp (bubble_perm p k (k-l))) P;have hs:=P.size;have g:∀i,i<k+1->at' (bubble p k (k-l)) i=at' p (if i<l then i else if i=l then k else i-1):=fun i hi=>zwr (by
   rw[getElem?_bubble (by lia) (k-l) (by lia),show k-(k-l)=l by lia];by_cases q1:i=l
   .rw[if_pos q1,if_neg (by lia),if_pos q1]
   .rw[if_neg q1];by_cases q2:i<l
    .rw[if_neg (by lia),if_pos q2]
    .rw[if_pos (by lia),if_neg q2,if_neg q1])
  obtain⟨b1,b2,b3⟩:=zno T f (bubble p k (k-l)) (k+1) P' (by lia) (by lia) fun i j hij hj=>by
   rw[g i (by lia),g j hj];by_cases q1:j<l
   .rw[if_pos q1,if_pos (by lia)];exact h i j hij (by lia)
   .rw[if_neg q1];by_cases q2:j=l
    .rw[if_pos q2,if_pos (by lia)];exact a3 i (by lia)
    .rw[if_neg q2];by_cases q3:i<l
     .rw[if_pos q3];exact h i (j-1) (by lia) (by lia)
     .rw[if_neg q3];by_cases q4:i=l
      .rw[if_pos q4];exact a4 (j-1) (by lia) (by lia)
      .rw[if_neg q4];exact h (i-1) (j-1) (by lia) (by lia)
  exact⟨zb3 _ a1 (by rw[hl];exact b1),b2,b3⟩
theorem zsn(h2:2<=n)(T:Tot n c):kok n c (kas_sort n)=true/\Pm n (yax c (kas_sort n))/\(yax c (kas_sort n)).toList.Pairwise fun x y=>c x y=true:=by
 have P0:Pm n (List.toArray (List.range n)):=List.Perm.refl _;obtain⟨a1,m,q,a2,a3,a4,a5,a6⟩:=zne T P0 h2;have er:kas_sort n=(kas_count n (List.toArray (List.range n))).bind fun r=>if r.1<n then kas_bin (n-max r.1 1) r.2 (max r.1 1)else .ret r.2:=rfl
 have pw:∀{q:Array Nat},Pm n q->Asc c q n->q.toList.Pairwise fun x y=>c x y=true:=fun{q}P h=>by rw[List.pairwise_iff_getElem];intro i j hi hj hij;rw[zx1,P.size]at hi hj;have e:=h i j hij hj;have g1:=zg4 (p:=q) (i:=i) (by rw[P.size];exact hi);have g2:=zg4 (p:=q) (i:=j) (by rw[P.size];exact hj);rw[ub2 (by rw[P.size];exact hi)]at g1;rw[ub2 (by rw[P.size];exact hj)]at g2;rw[Array.getElem_toList,Array.getElem_toList,zyr g1,zyr g2];exact e
 rw[er,zby,a2];show kok n c _=true/\Pm n (yax c (if m<n then kas_bin (n-max m 1) q (max m 1)else .ret q))/\(yax c (if m<n then kas_bin (n-max m 1) q (max m 1)else .ret q)).toList.Pairwise _;by_cases hm:m<n
 .rw[if_pos hm,show max m 1=m by lia];obtain⟨b1,b2,b3⟩:=zno T (n-m) q m a5 a3 (by lia) a6;exact⟨zb3 _ a1 (by rw[a2];show kok n c (if m<n then _ else _)=true;rw[if_pos hm,show max m 1=m by lia];exact b1),b2,pw b2 b3⟩
 .rw[if_neg hm];obtain rfl:m=n:=by lia
  exact⟨zb3 _ a1 (by rw[a2];show kok m c (if m<m then _ else _)=true;rw[if_neg hm];rfl),a5,pw a5 a6⟩
end
theorem zdp{α:Type}{cmp:Nat->Nat->(Bool->Shared->Prop)->Shared->Prop}{c:Nat->Nat->Bool}{I:Shared->Prop}{n:Nat}(h:∀i j C s,i<n->j<n->I s->(∀s',I s'->C (c i j) s')->cmp i j C s){Q:α->Shared->Prop}:∀(t:KasT α)(s:Shared),kok n c t=true->I s->(∀s',I s'->Q (yax c t) s')->t.kasWp cmp Q s
 |.ret _,s,_,hi,q=>q s hi
 |.ask i j k,s,hk,hi,q=>by rw[kok,zxw,zxw,zyn,zyn]at hk;exact h i j _ s hk.1.1 hk.1.2 hi fun s' hi'=>zdp h (k (c i j)) s' hk.2 hi' q
end
end Ev
section
namespace Nb
open PySem W Spec PyProof.Rows Ev
variable {Q:Bool->Shared->Prop}
structure CmpAt(prog:Program)(w:World)(A:Around)(s:Shared)(v u:Value)(e b:Bool):Prop where
 eq:SeqAt.EqAt A s v u e
 lt:e=false->∀(E:Value->Shared->Prop)(Q:Value->Shared->Prop),Q (.bool b) s->wpAny (model prog w) A (richCompare .Lt v u) Q E s
def yca:List (Bool×Bool)->Bool->Bool
 |[],d=>d
 |p::r,d=>if p.1=true then yca r d else p.2
inductive CmpL(prog:Program)(w:World)(A:Around)(s:Shared):List Value->List Value->List (Bool×Bool)->Prop
 |nilL {us}:CmpL prog w A s [] us []
 |nilR {vs}:CmpL prog w A s vs [] []
 |cons {v u vs us e b r}:CmpAt prog w A s v u e b->(e=true->CmpL prog w A s vs us r)->CmpL prog w A s (v::vs) (u::us) ((e,b)::r)
section
open PySem.SeqAt
open PySem.AutoSeq1 (wpAny_loadPart')
open PySem.MeetsSeq PySem.MeetsSeq2 PySem.MeetsSeq3
theorem zgc(prog0:Program)(w0:World)(l b:Addr)(items items2:Array Value)(n n2:Nat)(dd dd2:a7 Addr)(sl sl2:Array (a7 Value))(L:List (Bool×Bool)):Meets (Builtin.«tuple.__lt__» ⟨[.ref l,.ref b],[]⟩) (fun A R s=>s.heap.get? l=some {cls:=.type "tuple",dict:=dd,data:=.seq items n,slots:=sl}/\s.heap.get? b=some {cls:=.type "tuple",dict:=dd2,data:=.seq items2 n2,slots:=sl2} /\
    (∀prog w,CmpL prog w A.in1 s items.toList items2.toList L)/\R (.ok (.ret (.bool (yca L (decide (items.size<items2.size)))))) s) :=
 .of_wp fun prog w A R s h=>by
  obtain⟨hp,g,d,tk,os⟩:=s;obtain⟨hl,hb,hc,h⟩:=h;have hc:=hc prog w;have f2:=AutoSeq1.sub_tuple_tuple
  wp_walk using wpAny_loadPart' hl,wpAny_loadPart' hb,wpAny_forIn_list _ (fun rest b s'=>b.1=none/\s'=⟨hp,g,d,tk,os⟩/\∃(vs ws:List Value)(L':List (Bool×Bool)),rest=vs.zip ws /\
   CmpL prog w A.in1 ⟨hp,g,d,tk,os⟩ vs ws L'/\R (.ok (.ret (.bool (yca L' (decide (items.size<items2.size)))))) ⟨hp,g,d,tk,os⟩) _
  case turn=>
   rintro⟨y,x⟩ rest b s' ⟨hb',rfl,vs,ws,L',hz,hcl,hR⟩;cases hcl with
   |nilL=>cases hz
   |nilR=>rw[List.zip_nil_right]at hz;cases hz
   | @cons v u vs us e b2 r hcm hcr=>
    rw[List.zip_cons_cons]at hz;injection hz with hyx hrest;injection hyx with hy hx;subst hy hx;refine zxq (hcm.eq prog w _ _ ?_);cases e with
    |true=>
     rw[yca,if_pos rfl]at hR
     wp_walk
     exact⟨rfl,rfl,_,_,_,hrest,hcr rfl,hR⟩
    |false=>
     rw[yca,if_neg (by simp)]at hR;have hri:=fun E Q h=>hcm.lt rfl E Q h
     wp_walk using hri
     exact⟨_,rfl,by simpa using hR⟩
  case fin=>
   rintro⟨b1,b2⟩ s' ⟨hb',rfl,vs,ws,L',hz,hcl,hR⟩;simp only at hb';subst hb';have hv:yca L' (decide (items.size<items2.size))=decide (items.size<items2.size):=by
    cases hcl with
    |nilL=>rfl
    |nilR=>rfl
    |cons _ _=>cases hz
   rw[hv]at hR
   wp_walk
   exact⟨_,rfl,by simpa[Builtin.Tuple.tupleCompareSizes]using hR⟩
  case h=>exact⟨rfl,rfl,items.toList,items2.toList,L,rfl,hc,h⟩
end
section
variable {prog:Program}{w:World}{F:Fz}{s:Shared}{A:Around}{E:Value->Shared->Prop}
theorem zsd{l b:Addr}{items items2:Array Value}{L:List (Bool×Bool)}{Q:Value->Shared->Prop}(hl:s.heap.IsTuple l items)(hb:s.heap.IsTuple b items2)(hc:∀prog w,CmpL prog w A.in1 s items.toList items2.toList L)(hu:A.units<cLine)(h:Q (.bool (yca L (decide (items.size<items2.size)))) s):wpAny (model prog w) A (compareOp .Lt (.ref l) (.ref b)) Q E s:=by
 obtain⟨⟨cls,dd,data,sl⟩,ho,hc1,n,hd⟩:=id hl;obtain⟨⟨cls2,dd2,data2,sl2⟩,ho2,hc2,n2,hd2⟩:=id hb;simp only at hc1 hd hc2 hd2;subst hc1 hd hc2 hd2;exact richCompare_meets_room (op:=.Lt) ⟨_,ho,rfl⟩ ⟨_,ho2,rfl⟩ PySem.F.slot_tuple_lt PySem.F.entry_tuple_lt (PySem.F.args_tuple_lt_2 _ _) (zgc prog w l b items items2 n n2 dd dd2 sl sl2 L)
  ⟨ho,ho2,hc,show Value.bool (yca L (decide (items.size<items2.size)))≠Value.notImplemented/\Q (.bool (yca L (decide (items.size<items2.size)))) s from⟨(fun x=>nomatch x),h⟩⟩ hu
def LtAt(A:Around)(s:Shared)(v u:Value)(b:Bool):Prop:=∀prog w(E Q:Value->Shared->Prop),Q (.bool b) s->wpAny (model prog w) A (richCompare .Lt v u) Q E s
theorem zta{A:Around}{n:Nat}(ih:∀(t1 t2:T)(v u:Value),dpP t1 t2<=n->Rep w F t1 v->Rep w F t2 u->SeqAt.EqAt A s v u (Ev.eqT t1 t2))(il:∀(t1 t2:T)(v u:Value)(b:Bool),dpP t1 t2<=n->ltD t1 t2=some b->Rep w F t1 v->Rep w F t2 u->LtAt A s v u b):∀(ts us:List T)(is js:List Value)(b:Bool),ya9 ts us<=n->yaz ts us=some b->Reps w F ts is->Reps w F us js->∃L,(∀prog w,CmpL prog w A s is js L)/\yca L (decide (is.length<js.length))=b:=by
 intro ts
 induction ts with
 |nil=>intro us is js b hd hl r1 r2;cases r1;refine⟨[],fun _ _=>.nilL,?_⟩;cases hl;rw[yca,r2.length];cases us<;>simp
 |cons t ts ih'=>
  rintro us is js b hd hl ⟨v,is,rfl,q1,r1⟩ r2;cases us with
  |nil=>cases r2;cases hl;exact⟨[],fun _ _=>.nilR,by rw[yca];simp⟩
  |cons u us=>
   obtain⟨y,js,rfl,q2,r2⟩:=r2;have hm:max (dpP t u) (ya9 ts us)<=n:=by rw[ya9]at hd;exact hd
   have h1:=zyc (Nat.le_max_left _ _) hm;have he:=ih t u _ _ h1 q1 q2;have hl':(if Ev.eqT t u=true then yaz ts us else ltD t u)=some b:=by rw[yaz]at hl;exact hl
   cases e:Ev.eqT t u with
   |true=>rw[e]at he;rw[e,if_pos rfl]at hl';obtain⟨L,c1,c2⟩:=ih' us _ _ b (zyc (Nat.le_max_right _ _) hm) hl' r1 r2;refine⟨(true,false)::L,fun prog w=>.cons ⟨he,fun z=>by cases z⟩ fun _=>c1 prog w,?_⟩;rw[yca,if_pos rfl,<-c2];simp
   |false=>rw[e]at he;rw[e,if_neg (by simp)]at hl';exact⟨[(false,b)],fun prog w=>.cons ⟨he,fun _=>il t u _ _ b h1 hl' q1 q2 prog w⟩ (fun z=>by cases z),by rw[yca,if_neg (by simp)]⟩
theorem yci{t1 t2:T}{b:Bool}(h:ltD t1 t2=some b):(∃a c,t1=.int a/\t2=.int c)\/(∃a c,t1=.str a/\t2=.str c)\/∃a c,t1=.tup a/\t2=.tup c:=by cases t1<;>cases t2<;>first|(cases h;done)|exact .inl ⟨_,_,rfl,rfl⟩|exact .inr (.inl ⟨_,_,rfl,rfl⟩)|exact .inr (.inr ⟨_,_,rfl,rfl⟩)
theorem zxd(hF:F.In s.heap):∀(n:Nat)(A:Around)(t1 t2:T)(v u:Value)(b:Bool),A.units+n<cLine->dpP t1 t2<=n->ltD t1 t2=some b->Rep w F t1 v->Rep w F t2 u->LtAt A s v u b:=by
 intro n
 induction n with
 |zero=>
  intro A t1 t2 v u b hA hd hl r1 r2;rcases yci hl with⟨a,c,rfl,rfl⟩|⟨a,c,rfl,rfl⟩|⟨a,c,rfl,rfl⟩
  .obtain⟨_,rfl⟩:=r1;obtain⟨_,rfl⟩:=r2;cases(show some (decide (a<c))=some b from hl);exact fun _ _ _ _ q=>lt_int q
  .obtain⟨_,rfl⟩:=r1;obtain⟨_,rfl⟩:=r2;cases(show some (decide (a.cps.toList<c.cps.toList))=some b from hl);exact fun _ _ _ _ q=>PySem.P.lt_str q
  .rw[dpP]at hd;lia
 |succ n ih=>
  intro A t1 t2 v u b hA hd hl r1 r2;rcases yci hl with⟨a,c,rfl,rfl⟩|⟨a,c,rfl,rfl⟩|⟨a,c,rfl,rfl⟩
  .obtain⟨_,rfl⟩:=r1;obtain⟨_,rfl⟩:=r2;cases(show some (decide (a<c))=some b from hl);exact fun _ _ _ _ q=>lt_int q
  .obtain⟨_,rfl⟩:=r1;obtain⟨_,rfl⟩:=r2;cases(show some (decide (a.cps.toList<c.cps.toList))=some b from hl);exact fun _ _ _ _ q=>PySem.P.lt_str q
  .obtain⟨l1,o1,i1,n1,rfl,f1,c1,d1,_,q1⟩:=r1;obtain⟨l2,o2,i2,n2,rfl,f2,c2,d2,_,q2⟩:=r2;rw[dpP]at hd;obtain⟨L,g1,g2⟩:=zta (A:=A.in1) (n:=n) (fun t1 t2 v u h=>zm6 hF n A.in1 t1 t2 v u (show A.units+1+n<cLine by lia) h)
    (fun t1 t2 v u b h=>ih A.in1 t1 t2 v u b (show A.units+1+n<cLine by lia) h) a c _ _ b (by lia) (show yaz a c=some b from hl) q1 q2
   intro prog w E Q q;refine zsd (L:=L) ⟨o1,hF _ _ f1,c1,n1,d1⟩ ⟨o2,hF _ _ f2,c2,n2,d2⟩ g1 (by lia) ?_;rw[zx1,zx1]at g2;rw[g2];exact q
def flS:T->T->Bool
 |.int _,.int _=>true
 |.str _,.str _=>true
 |_,_=>false
theorem zw8{t1 t2:T}{v u:Value}{b:Bool}(hf:flS t1 t2=true)(hl:ltD t1 t2=some b)(r1:Rep w F t1 v)(r2:Rep w F t2 u)(h:Q b s):wpAny (model prog w) A (oneLt' true v u) Q (fun _ _=>False) s:=by
 cases t1 with
 |int i=>
  cases t2 with
  |int j=>obtain⟨_,rfl⟩:=r1;obtain⟨_,rfl⟩:=r2;cases(show some (decide (i<j))=some b from hl);exact kat_lt_int h
  |_=>cases hf
 |str i=>
  cases t2 with
  |str j=>obtain⟨_,rfl⟩:=r1;obtain⟨_,rfl⟩:=r2;cases(show some (decide (i.cps.toList<j.cps.toList))=some b from hl);exact oneLt_str h
  |_=>cases hf
 |_=>cases hf
theorem zvi(hF:F.In s.heap){n:Nat}(hA:A.units+n<cLine){sh:Bool}:∀(ts us:List T)(is js:List Value)(i:Nat)(b fin:Bool),ya9 ts us<=n->yaz ts us=some b->(sh=true->i=0->∀x y r q,ts=x::r->us=y::q->flS x y=true)->fin=decide (is.length<js.length)->Reps w F ts is->Reps w F us js->Q b s->KatLex prog w A sh fin Q (is.zip js) i s:=by
 intro ts
 induction ts with
 |nil=>
  intro us is js i b fin hd hl hs hfin r1 r2 q;cases r1;rw[List.zip_nil_left];refine kat_nil ?_;cases hl;rw[hfin,r2.length];cases us with
  |nil=>exact q
  |cons _ _=>simpa using q
 |cons t ts ih=>
  rintro us is js i b fin hd hl hs hfin ⟨v,is,rfl,q1,r1⟩ r2 q;cases us with
  |nil=>cases r2;cases hl;rw[List.zip_nil_right];refine kat_nil ?_;rw[hfin];simpa using q
  |cons u us=>
   obtain⟨y,js,rfl,q2,r2⟩:=r2;have hm:max (dpP t u) (ya9 ts us)<=n:=by rw[ya9]at hd;exact hd
   have h1:=zyc (Nat.le_max_left _ _) hm;have he:=zm6 hF n A t u _ _ hA h1 q1 q2;have hl':(if Ev.eqT t u=true then yaz ts us else ltD t u)=some b:=by rw[yaz]at hl;exact hl
   rw[List.zip_cons_cons];refine kat_cons (he prog w _ _ ?_);cases e:Ev.eqT t u with
   |true=>rw[e,if_pos rfl]at hl';exact kat_yes (ih us _ _ (i+1) b fin (Nat.le_trans (Nat.le_max_right _ _) hm) hl' (fun _ z=>by lia) (by rw[hfin];simp) r1 r2 q)
   |false=>
    rw[e,if_neg (by simp)]at hl';refine kat_no ?_;cases hq:(sh&&i==0)with
    |true=>rw[zxw]at hq;exact zw8 (hs hq.1 (by simpa using hq.2) t u ts us rfl rfl) hl' q1 q2 q
    |false=>exact kat_one _ _ (zxd hF n A t u _ _ b hA h1 hl' q1 q2 prog w _ _ q)
end
end Nb
section
namespace Nb
open PySem W Spec PyProof.Rows Ev
end Nb
namespace Ev
open PySem Nb PySem.W PySem.Spec PyProof.Rows
variable {l m:List T}
theorem zj0:∀vs:List Value,(vs.zip vs).map (·.2)=vs
 |[]=>rfl
 |v::vs=>by rw[List.zip_cons_cons,zxz,zj0 vs]
theorem zey{α:Type}(d:α)(l:List α):l=(List.range l.length).map fun i=>l.getD i d:=by
 apply List.ext_getElem?;intro i;rw[zx0];by_cases hi:i<l.length
 .rw[List.getElem?_range hi,zxu hi];simp[List.getD_eq_getElem?_getD,hi]
 .rw[ud7 (by simpa using hi),ud7 (by simpa using hi)];rfl
theorem zwg{x y:T}:cD x y=true↔ltD x y=some true:=by unfold cD;exact ue3
def kdT:Nat->Value
 |0=>.type "int"
 |1=>.type "str"
 |_=>.type "tuple"
def kdV(a:T):a7 Value:=(kdN a).map kdT
theorem zvo(h:∃n,∀x∈l,∃a r,x=.tup (a::r)/\kdN a=some n):∃Tv,∀x∈l,∃a r,x=.tup (a::r)/\kdV a=some Tv :=
 let⟨n,hk⟩:=h;⟨kdT n,fun x hx=>let⟨a,r,e,k⟩:=hk x hx;⟨a,r,e,by unfold kdV;rw[k];rfl⟩⟩
theorem zjk{t:T}(h:ya5 l=some t):OkN l/\t=.lst (ycy l):=by
 unfold ya5 at h;split at h
 .rename_i hk;exact⟨hk,(zyr h).symm⟩
 .cases h
theorem OkN.at(h:OkN l){i j:Nat}(hi:i<l.length)(hj:j<l.length)(hne:i≠j):cD (l.getD j .non) (l.getD i .non)=!cD (l.getD i .non) (l.getD j .non):=by
 have g:∀{i},(hi:i<l.length)->l.getD i .non=l[i]:=fun{i}hi=>by rw[zx6,zxu hi];rfl
 have pw:=List.pairwise_iff_getElem.mp h.tot;rw[g hi,g hj];rcases Nat.lt_or_gt_of_ne hne with q|q
 .exact pw i j hi hj q
 .rw[pw j i hj hi q,Bool.not_not]
theorem OkN.asym(h:OkN l){i j:Nat}(hi:i<l.length)(hj:j<l.length)(h1:cD (l.getD i .non) (l.getD j .non)=true)(hne:i≠j):cD (l.getD j .non) (l.getD i .non)=false:=by rw[h.at hi hj hne,h1];rfl
theorem zmj(h:OkN l)(pm:m.Perm l)(pw:m.Pairwise fun x y=>cD x y=true):ycy l=m:=by
 refine zpx (zft h.tot h.tr) pw (fun x hx y hy h1 h2=>?_) ((za0 l).trans pm.symm);obtain⟨i,hi,rfl⟩:=List.getElem_of_mem ((za0 l).mem_iff.mp hx);obtain⟨j,hj,rfl⟩:=List.getElem_of_mem ((za0 l).mem_iff.mp hy);have g:∀{i},(hi:i<l.length)->l.getD i .non=l[i]:=fun{i}hi=>by rw[zx6,zxu hi];rfl
 by_cases q:i=j
 .subst q;have hb:=zft h.tot h.tr;have:=List.pairwise_iff_getElem.mp hb;exact absurd h1 (by
   have irr:cD l[i] l[i]≠true:=fun z=>by
    have t2:ltD l[i] l[i]=some true:=zwg.mp z;exact absurd t2 (by
     rcases h.kd with⟨n,hk⟩|hk
     case inr=>
      have:=hk _ (ua5 hi);cases e:l[i]with
      |str x=>show some (decide (x.cps.toList<x.cps.toList))≠some true;rw[decide_eq_false (List.lt_irrefl _)];simp
      |_=>rw[e]at this;cases this
     obtain⟨a,r,ea,_⟩:=hk _ (ua5 hi);rw[ea];have dp:=h.dp _ (ua5 hi) _ (ua5 hi);rw[ea]at dp;have refl:∀xs:List T,ya9 xs xs<20000->yaz xs xs=some false:=fun xs=>by
      induction xs with
      |nil=>intro _;rfl
      |cons x xs ih=>intro hd;rw[ya9]at hd;rw[yaz];show(if eqT x x=true then yaz xs xs else ltD x x)=some false;rw[Nb.eqT_refl x (by lia),if_pos rfl];exact ih (by lia)
     show yaz (a::r) (a::r)≠some true;rw[refl _ (by rw[dpP]at dp;lia)];simp)
   exact irr)
 .have:=h.asym hi hj (by rw[g hi,g hj];exact h1) q;rw[g hi,g hj]at this;rw[this]at h2;cases h2
theorem zob(h:OkN l){p:List Nat}(hp:p.Perm (List.range l.length))(pw:p.Pairwise fun i j=>cD (l.getD i .non) (l.getD j .non)=true):ycy l=p.map fun i=>l.getD i .non:=by have e:l=(List.range l.length).map fun i=>l.getD i .non:=zey _ l;refine zmj h ?_ (List.pairwise_map.mpr pw);have:=hp.map fun i=>l.getD i .non;rw[<-e]at this;exact this
theorem OkN.perm(h:OkN l)(p:m.Perm l):OkN m:=by have k:∀{x},x∈m->x∈l:=fun hx=>p.mem_iff.mp hx;exact⟨by rw[p.length_eq];exact h.len,fun x hx y hy=>h.dp x (k hx) y (k hy),fun x hx y hy=>h.lt x (k hx) y (k hy),h.kd.imp (fun⟨n,hn⟩=>⟨n,fun x hx=>hn x (k hx)⟩) fun hn x hx=>hn x (k hx),p.symm.pairwise h.tot fun{x y}e=>by rw[e];simp,fun x hx y hy z hz=>h.tr x (k hx) y (k hy) z (k hz)⟩
theorem zso(h:OkN l)(p:m.Perm l):ycy m=ycy l:=(zmj h ((za0 m).trans p) (zft (h.perm p).tot (h.perm p).tr)).symm
end Ev
namespace Nb
open PySem W Spec PyProof.Rows Ev
variable {a:Addr}{vs qc:List Value}{n:Nat}{xs:List T}
section
variable {prog:Program}{w:World}{A:Around}{E:Value->Shared->Prop}{s:Shared}{F:Fz}
theorem zkm{g:Heap}(ho:g.get? a=some (seqObj "list" vs.toArray n))(out:Array Value):∃c,(sortedHeap g a vs out).get? a=some (seqObj "list" out c):=by obtain⟨e1,ho1⟩:∃e1,(g.update a (Obj.mapSeq fun _=>#[])).get? a=some (seqObj "list" #[] e1):=⟨_,get?_update_seq ho (fun _=>#[])⟩;have ho6:(((g.update a (Obj.mapSeq fun _=>#[])).push (seqObj "tuple" vs.toArray 0)).push (seqObj "list" #[] 0)).get? a=some (seqObj "list" #[] e1):=zxr _ (zxr _ ho1);exact⟨_,get?_update_seq ho6 fun _=>out⟩
theorem zg7{g:Heap}{out:Array Value}{b:Addr}{o:Obj}(hb:b≠a)(e:g.get? b=some o):(sortedHeap g a vs out).get? b=some o:=by unfold sortedHeap;rw[uc7 _ _ _ _ hb];exact zxr _ (zxr _ (by rw[uc7 _ _ _ _ hb];exact e))
def yf3(prog:Program)(w:World)(A:Around)(vs:List Value)(c:Nat->Nat->Bool)(s:Shared):Prop :=
 ∃κ:SortKind,(∀(E:Value->Shared->Prop)(Q:SortKind->Shared->Prop),Q κ s->wpAny (model prog w) A (keyKind' vs.toArray) Q E s) /\
  ∀Q:Array Nat->Shared->Prop,(∀p:Array Nat,Pm vs.length p->(p.toList.Pairwise fun i j=>c i j=true)->Q p s)->(kas_sort vs.length).kasWp (kas_ask prog w A κ vs) Q s
theorem zuf{R:Nat->Nat->Prop}(h:n<2):(List.range n).Pairwise R:=by
 match n,h with
 |0,_=>exact .nil
 |1,_=>exact List.pairwise_singleton _ _
theorem zfs{c:Nat->Nat->Bool}{P:PySem.Fin->Shared->Prop}(ho:s.heap.get? a=some (seqObj "list" vs.toArray n))(h60:vs.length<=60)(hk:2<=vs.length->∀g:Heap,(∀b o,b≠a->s.heap.get? b=some o->g.get? b=some o)->yf3 prog w A vs c {s with heap:=g})(h:∀p:List Nat,p.Perm (List.range vs.length)->(p.Pairwise fun i j=>c i j=true)->P (.done (.ret .none)) {s with heap:=sortedHeap s.heap a vs (p.map fun i=>vs.getD i .none).toArray}):wpAny (model prog w) A (Builtin.«list.sort» ⟨[.ref a],[]⟩) P E s:=by
 rw[list_sort_plain];have ha:a<s.heap.objs.size:=zx5 ho;have hz:vs.toArray.size<=sizeLine:=by rw[zyl,ub5];lia
 refine zxq (listItems_at ho rfl (zxq (listUpdate_at ho rfl ?_ hz (zyg _))));obtain⟨e1,ho1⟩:∃e1,(s.heap.update a (Obj.mapSeq fun _=>#[])).get? a=some (seqObj "list" #[] e1):=⟨_,get?_update_seq ho (fun _=>#[])⟩;refine zxq (seqEpoch_at ho1 rfl (zxq (wpAny_newTuple ?_ (by show vs.length<=_;rw[ub5];lia))));refine zxq (wpAny_newList (uc2 ?_) (zyg _));have ho6:(((s.heap.update a (Obj.mapSeq fun _=>#[])).push (seqObj "tuple" vs.toArray 0)).push (seqObj "list" #[] 0)).get? a=some (seqObj "list" #[] e1):=zxr _ (zxr _ ho1);have kp:∀b o,b≠a->s.heap.get? b=some o->(((s.heap.update a (Obj.mapSeq fun _=>#[])).push (seqObj "tuple" vs.toArray 0)).push (seqObj "list" #[] 0)).get? b=some o:=fun b o hb e=>zxr _ (zxr _ (by rw[uc7 _ _ _ _ hb];exact e));show wpAny (model prog w) A _ P E {s with heap:=((s.heap.update a (Obj.mapSeq fun _=>#[])).push (seqObj "tuple" vs.toArray 0)).push (seqObj "list" #[] 0)};dsimp only;by_cases h2:vs.toArray.size<2
 .rw[if_pos h2,if_pos h2];refine zxq (zxs ?_);rw[StateT.run_pure];refine zxq (zxs ?_);dsimp only;refine zxq (seqEpoch_at ho6 rfl ?_);have eo:(arrOf (SortSt.mk' general' (vs.toArray.zip vs.toArray) #[] 7 none)).map (·.2)=vs.toArray:=by show(vs.toArray.zip vs.toArray).map (·.2)=vs.toArray;apply Array.toList_inj.mp;rw[Array.toList_map,Array.toList_zip];exact zj0 vs
  rw[eo];refine zxq (listUpdate_at ho6 rfl ?_ (zyg _) (by show vs.toArray.size<=_;lia));simp only[bne_self_eq_false,Bool.false_eq_true,if_false];have hv2:vs.length<2:=by simpa using h2
  have:=h (List.range vs.length) (List.Perm.refl _) (zuf hv2);rw[<-zey]at this;exact zxs this
 .rw[if_neg h2,if_neg h2];have hn2:2<=vs.length:=by rw[zyl]at h2;lia
  obtain⟨κ,kk,ask⟩:=hk hn2 _ kp;refine zxq (kk _ _ ?_);have ask:=ask (fun p s'=>s'={s with heap:=((s.heap.update a (Obj.mapSeq fun _=>#[])).push (seqObj "tuple" vs.toArray 0)).push (seqObj "list" #[] 0)}/\Pm vs.length p/\p.toList.Pairwise fun i j=>c i j=true) fun p p1 p2=>⟨rfl,p1,p2⟩;refine zxq (zyt (kat_run (Q:=fun st' s'=>∃p:Array Nat,p.size=vs.length/\arrOf st'=p.map (kas_item (vs.toArray.zip vs.toArray))/\failedOf st'=none/\s'={s with heap:=((s.heap.update a (Obj.mapSeq fun _=>#[])).push (seqObj "tuple" vs.toArray 0)).push (seqObj "list" #[] 0)}/\Pm vs.length p/\p.toList.Pairwise fun i j=>c i j=true)
   rfl (by lia) (by lia) (fun p' st' s' a1 a2 a3 a4=>⟨p',a1,a2,a3,a4⟩) ask) ?_ fun _ _ e=>e)
  rintro⟨⟨⟩,st'⟩ s' ⟨p,hp,har,hf,rfl,p1,p2⟩;dsimp only;have hout:=kat_snds rfl har;refine zxq (seqEpoch_at ho6 rfl ?_);rw[hout];refine zxq (listUpdate_at ho6 rfl ?_ (zyg _) (by show(List.toArray _).size<=_;rw[zyl,zxt,zx1,hp,ub5];lia));rw[hf];simp only[bne_self_eq_false,Bool.false_eq_true,if_false];exact zxs (h p.toList p1 p2)
theorem zjj{r:Value}{Q:Value->Shared->Prop} (h:wpAny (model prog w) A.in1 (collect r) (fun vs s1=>vs.length<=60/\∃c:Nat->Nat->Bool,(2<=vs.length->∀(A':Around)(g:Heap),A'.units<=A.units+5->(∀b o,s1.heap.get? b=some o->g.get? b=some o)->yf3 prog w A' vs c {s1 with heap:=g}) /\
   ∀(p:List Nat)(k:Nat)(g:Heap),p.Perm (List.range vs.length)->(p.Pairwise fun i j=>c i j=true)->(∀b o,s1.heap.get? b=some o->g.get? b=some o)->
    g.get? s1.heap.objs.size=some {cls:=.type "list",data:=.seq (p.map fun i=>vs.getD i .none).toArray k}->Q (.ref s1.heap.objs.size) {s1 with heap:=g}) E s):wpAny (model prog w) A (call (.builtin "sorted") [r]) Q E s:=by
 refine Calls.call_function_entry kind_sorted plain_sorted entry_sorted (args_sorted1 _) ?_;unfold Builtin.«sorted»;refine zxq (m:=checkCount "sorted" 1 1 _) (zxs ?_);refine zxq (zyt h (fun vs s1 x=>?_) fun _ _ e=>e);obtain⟨h60,c,hk,q⟩:=x;refine zxq (wpAny_newList ?_ (by rw[ub5];lia));have hoL:(s1.heap.push (seqObj "list" vs.toArray 0)).get? s1.heap.objs.size=some (seqObj "list" vs.toArray 0):=zxx _ rfl;refine zxq (uc2 (zyd slot_list_sort ⟨_,hoL,rfl⟩ entry_list_sort ?_ (args_list_sort _)));refine zfs (c:=c) (s:={s1 with heap:=s1.heap.push (seqObj "list" vs.toArray 0)}) hoL h60 (fun h2 g hg=>hk h2 _ g ?_ fun b o e=>hg b o (zye (zx5 e)) (zxr _ e)) fun p p1 p2=>⟨_,rfl,?_⟩
 .show _<=A.units+5
  first|exact Nat.le_add_right _ _|(show A.units+1<=A.units+5;lia)|(show A.units+2<=A.units+5;lia)|(show A.units+3<=A.units+5;lia)
 .obtain⟨k,hc⟩:=zkm hoL (p.map fun i=>vs.getD i .none).toArray;exact zxs ⟨_,rfl,q p k _ p1 p2 (fun b o e=>zg7 (zye (zx5 e)) (zxr _ e)) hc⟩
theorem zsl{a:T}{Tv:Value}(h:kdV a=some Tv):(Tv==Tv)=true:=by
 cases a<;>cases h
 .show(Value.type "int"==Value.type "int")=true;decide
 .show(Value.type "str"==Value.type "str")=true;decide
 .show(Value.type "tuple"==Value.type "tuple")=true;decide
theorem zos{M:Model}(hF:F.In s.heap){a:T}{Tv:Value}(h:kdV a=some Tv){u:Value}(r:Rep w F a u):Looks M s.heap (typeOf u) Tv:=by
 cases a with
 |int i=>cases h;obtain⟨t,rfl⟩:=r;exact .now
 |str i=>cases h;obtain⟨t,rfl⟩:=r;exact .now
 |tup xs=>cases h;obtain⟨a,o,qc,n,rfl,f,c,_⟩:=r;show Looks M s.heap (typeOf (Value.ref a)) (Value.type "tuple");rw[<-c];exact(Looks.ld (hF _ _ f)).andThen .now
 |_=>cases h
theorem zqc{M:Model}(hF:F.In s.heap){Tv:Value}:∀{xs:List T}{qc:List Value},(∀x∈xs,∃a r,x=.tup (a::r)/\kdV a=some Tv)->Reps w F xs qc ->∃fs,KatTups s.heap qc fs/\fs.length=xs.length/\∀v∈fs,Looks M s.heap (typeOf v) Tv
 |[],_,_,r=>by cases r;exact⟨[],KatTups.nil,rfl,fun _ h=>nomatch h⟩
 |x::xs,_,hx,⟨v,qc,e,r1,r2⟩=>by
  subst e;obtain⟨fs,f1,f2,f3⟩:=zqc hF (fun y hy=>hx y (.tail _ hy)) r2;obtain⟨a,q,rfl,hk⟩:=hx x (.head _);obtain⟨p,o,jts,n,rfl,f,c,d,_,u,ws,ej,k1,k2⟩:=r1;refine⟨u::fs,KatTups.cons (hF _ _ f) c d (by rw[<-Array.getElem?_toList,ej];rfl) f1,by simp[f2],fun v hv=>?_⟩;rcases omc hv with rfl|hv
  .exact zos hF hk k1
  .exact f3 v hv
theorem at_N(hF:F.In s.heap)(r:Reps w F xs qc){i:Nat}(hi:i<xs.length){ys:List T}(hx:xs.getD i .non=.tup ys):∃p o n jts,qc.getD i .none=.ref p/\s.heap.get? p=some o/\o.data=.seq jts n/\Reps w F ys jts.toList:=by
 have e1:xs[i]?=some (.tup ys):=by rw[zx6,zxu hi]at hx;rw[zxu hi];exact zx2 some hx
 obtain⟨v,hv,p,o,jts,n,rfl,f,c,d,_,q⟩:=r.get e1;exact⟨p,o,n,jts,by rw[zx6,hv];rfl,hF _ _ f,d,q⟩
theorem zws(hF:F.In s.heap)(hA:A.units+20<cLine)(ok:OkN xs)(r:Reps w F xs qc)(h2:2<=qc.length):yf3 prog w A qc (fun i j=>cD (xs.getD i .non) (xs.getD j .non)) s:=by
 have hl:=r.length;have srt:∀Q:Array Nat->Shared->Prop,(∀p:Array Nat,Pm qc.length p->(p.toList.Pairwise fun i j=>cD (xs.getD i .non) (xs.getD j .non)=true)->Q p s)->∀κ,(∀(i j:Nat)(C:Bool->Shared->Prop),i<xs.length->j<xs.length->C (cD (xs.getD i .non) (xs.getD j .non)) s->wpAny (model prog w) A (keyLt' κ (qc.getD i .none) (qc.getD j .none)) C (fun _ _=>False) s)->(kas_sort qc.length).kasWp (kas_ask prog w A κ qc) Q s:=fun Q q κ h=>by
  have mem:∀{i},i<xs.length->xs.getD i .non∈xs:=fun{i}hi=>by rw[zx6,zxu hi];exact ua5 hi
  have T:=zsn (n:=qc.length) (c:=fun i j=>cD (xs.getD i .non) (xs.getD j .non)) h2 ⟨fun i j hi hj hne=>ok.at (by lia) (by lia) hne,fun i j k hi hj hk'=>ok.tr _ (mem (by lia)) _ (mem (by lia)) _ (mem (by lia))⟩;refine zdp (n:=qc.length) (c:=fun i j=>cD (xs.getD i .non) (xs.getD j .non)) (I:=fun s'=>s'=s) (fun i j C s' hi hj hs hC=>?_) _ s T.1 rfl (fun s' hs=>by subst hs;exact q _ T.2.1 T.2.2);subst hs;exact h i j C (by lia) (by lia) (hC s' rfl)
 rcases ok.kd with hk|hk
 case inr=>
  have txt:∀i,i<xs.length->∃x t,xs.getD i .non=.str x/\qc.getD i .none=.str x t:=fun i hi=>by
   obtain⟨v,hv,rv⟩:=r.get (zxu hi);have:=hk _ (ua5 hi);rw[zx6,zx6,zxu hi,hv];show ∃x t,xs[i]=_/\v=_;cases e:xs[i]with
   |str x=>rw[e]at rv;obtain⟨t,rfl⟩:=rv;exact⟨x,t,rfl,rfl⟩
   |_=>rw[e]at this;cases this
  refine⟨oneType',fun E Q q=>kas_kind (T:=.type "str") h2 (fun v hv=>?_) (by decide) (by decide) q,fun Q q=>srt Q q _ fun i j C hi hj hC=>?_⟩
  .obtain⟨i,hi,rfl⟩:=List.getElem_of_mem hv;obtain⟨x,t,_,e⟩:=txt i (by lia);rw[zx6,zxu hi]at e;rw[show qc[i]=.str x t from e];exact .now
  .obtain⟨x,t,e1,e2⟩:=txt i hi;obtain⟨y,u,e3,e4⟩:=txt j hj;rw[e2,e4];rw[e1,e3]at hC;refine kas_lt_str ?_;have:cD (.str x) (.str y)=decide (x.cps.toList<y.cps.toList):=by unfold cD;show(some (decide (x.cps.toList<y.cps.toList))==some true)=_;cases decide (x.cps.toList<y.cps.toList)<;>rfl
   rw[this]at hC;exact hC
 obtain⟨Tv,hk⟩:=zvo hk;obtain⟨fs,f1,f2,f3⟩:=zqc (M:=model prog w) hF hk r;have mem:∀{i},i<xs.length->xs.getD i .non∈xs:=fun{i}hi=>by rw[zx6,zxu hi];exact ua5 hi
 obtain⟨a0,_,_,k0⟩:=hk _ (mem (i:=0) (by lia));refine⟨_,fun E Q q=>kat_kind (T:=Tv) f1 (by lia) f3 (zsl k0) q,fun Q q=>srt Q q _ fun i j C hi' hj' hC=>?_⟩;obtain⟨a,ra,ea,ka⟩:=hk _ (mem hi');obtain⟨b,rb,eb,kb⟩:=hk _ (mem hj');obtain⟨p,o,n,jts,e1,e2,e3,e4⟩:=at_N hF r hi' ea;obtain⟨p',o',n',jts',g1,g2,g3,g4⟩:=at_N hF r hj' eb;obtain⟨bb,hb⟩:=ok.lt _ (mem hi') _ (mem hj');have dp:=ok.dp _ (mem hi') _ (mem hj');have ec:cD (xs.getD i .non) (xs.getD j .non)=bb:=by unfold cD;rw[hb];cases bb<;>rfl
 simp only[ec]at hC;rw[ea,eb]at hb dp;show wpAny (model prog w) A (keyLt' (tuples' (Tv != Value.type "tuple")) (qc.getD i .none) (qc.getD j .none)) C (fun _ _=>False) s;rw[e1,g1];refine kat_lt e2 e3 g2 g3 ?_;refine zvi hF hA (a::ra) (b::rb) _ _ 0 bb _ (by rw[dpP]at dp;lia) (show yaz (a::ra) (b::rb)=some bb from hb) (fun hs _ x y rx ry ex ey=>?_) (by simp) e4 g4 hC;cases ex;cases ey;cases a with
 |int _=>cases ka;cases b<;>first|rfl|(cases kb;done)|(exact absurd (zyr kb) (by intro z;injection z with z;exact absurd z (by decide)))
 |str _=>cases ka;cases b<;>first|rfl|(cases kb;done)|(exact absurd (zyr kb) (by intro z;injection z with z;exact absurd z (by decide)))
 |tup _=>cases ka;exact absurd hs (by decide)
 |_=>cases ka
theorem zk2{xs:List T}{vs:List Value}(r:Reps w F xs vs):∀{p:List Nat},(∀i∈p,i<xs.length)->Reps w F (p.map fun i=>xs.getD i .non) (p.map fun i=>vs.getD i .none)
 |[],_=>rfl
 |i::p,h=>by have hi:=h i (.head _);obtain⟨v,hv,r1⟩:=r.get (zxu hi);refine Reps.cons ?_ (zk2 r fun j hj=>h j (.tail _ hj));dsimp only;rw[zx6,zx6,hv,zxu hi];exact r1
end
section
variable {Y:Yc}{F:Fz}{s:Shared}
theorem Up.laidD{o:Obj}{h':Heap}{k:Nat}{d:Drawn}(hF:F.In s.heap)(hk:∀b o,s.heap.get? b=some o->h'.get? b=some o)(z:s.heap.get? a=none)(e:h'.get? a=some o):Up F s (fup F a o) {s with heap:=h',toks:=k,drawn:=d} :=
 have u:=Up.laid (k:=k) hF hk z e
 ⟨u.ext,rfl,id,u.ff,u.fh,u.nw⟩
theorem zkl(hu:Y.Rm){E:Value->Shared->Prop}{t:T}{r:Value}(hF:F.In s.heap)(ht:ya5 xs=some t)(h:∀R:List Value->Shared->Prop,(∀ys vs g k d,ys.Perm xs->Reps Y.w F ys vs->(∀b o,s.heap.get? b=some o->g.get? b=some o)->R vs {s with heap:=g,toks:=k,drawn:=d})->wpAny Y.M Y.A.in1 (collect r) R E s):wpAny Y.M Y.A (call (.builtin "sorted") [r]) (Res Y.w F s t) E s:=by
 obtain⟨ok,rfl⟩:=zjk ht;refine zjj (h _ fun ys vs g k d py r1 hk=>?_);rw[<-zso ok py];replace ok:=ok.perm py;clear h py;revert r1 ok;generalize ys=xs;intro r1 ok;have hl:=r1.length;refine⟨by rw[hl];exact ok.len,fun i j=>cD (xs.getD i .non) (xs.getD j .non),fun h2 A' g' hA' hk'=>zws (fun b o e=>hk' _ _ (hk _ _ (hF b o e))) (by lia) ok r1 h2,fun p c g' p1 p2 hk' hD=>?_⟩;generalize hs1:({s with heap:=g,toks:=k,drawn:=d}:Shared)=s1 at *;have hn:s.heap.get? s1.heap.objs.size=none:=by
  cases e:s.heap.get? s1.heap.objs.size with
  |none=>rfl
  |some o=>subst hs1;exact absurd (zx5 (hk _ _ e)) (zy5 _)
 have pl:∀i∈p,i<xs.length:=fun i hi=>by have:=List.mem_range.mp (p1.mem_iff.mp hi);lia
 have hp:p.length<=60:=by rw[p1.length_eq,zy2,hl];exact ok.len
 have U:=Up.laidD (h':=g') (k:=k) (d:=d) hF (fun b o e=>hk' _ _ (by subst hs1;exact hk _ _ e)) hn hD;have e1:({s1 with heap:=g'}:Shared)={s with heap:=g',toks:=k,drawn:=d}:=by subst hs1;rfl
 rw[e1];refine⟨_,U,_,_,c,rfl,zbs,by rw[zyl,zxt,ub5];lia,?_⟩;rw[zob ok (by rw[<-hl];exact p1) p2];exact(zk2 r1 pl).mono (zbm (hF.none hn))
theorem zrh{prog:Program}{w:World}{d:Addr}{en:Array DictEntry}{ep:Nat}(lo:(d==sysModules)=false):KdlSrc prog w "dict" d d en.size (fun i v=>∃e,en[i]?=some e/\v=e.key) (fun h=>RawD h d en ep) where
 type:=fun _ r=>r.ty
 there:=fun _ r=>⟨let⟨_,a,_⟩:=r;zx5 a,let⟨_,a,_⟩:=r;zx5 a⟩
 keep:=fun _ _ r hk=>r.to fun o e=>hk d (.inl rfl) o e
 notList:=by decide
 notTuple:=by decide
 hint:=fun _ _ _ _ r hq=>kdl_hint_dict r.ty hq
 iter:=fun A s hh r=>⟨_,_,(fun _ _ hq=>zh5 lo r hq),(show Walks prog w A s.heap.objs.size [s.heap.objs.size,d] [s.heap.objs.size] en.size (fun i v=>∃e,en[i]?=some e/\v=e.key) (fun i h=>h.IsKeyIter s.heap.objs.size d i en.size ep/\RawD h d en ep)from
  have hne:d≠s.heap.objs.size:=zye (let⟨_,a,_⟩:=r;zx5 a)
  {sub:=fun b hb=>by simp at hb;simp[hb]
   frame:=fun _ _ _ st hk=>⟨st.1.at fun o e=>hk _ (by simp) o e,st.2.to fun o e=>hk d (by simp) o e⟩
   item:=fun i s Q E hi st hQ=>zh4 st.1 st.2 hi fun g t' hs=>hQ _ g s.toks ⟨en[i],by simp[hi],rfl⟩ ⟨t',st.2.to fun o e=>hs.extBut d o hne e⟩ fun b o hb e=>hs.extBut b o (fun h=>hb (by simp[h])) e
   done:=fun s Q E st hQ=>zh6 hh st.1 st.2 (Nat.le_refl _) fun g he=>hQ g s.toks fun b o hb e=>he b o (fun h=>hb (by simp[h])) e
   self:=fun _ _ _ _ st hQ=>wpAny_pyIter_keyiter st.1 hQ}),⟨⟨_,zxx _ rfl,rfl,rfl⟩,r.to fun o e=>zxr _ e⟩⟩
theorem zmi{en:Array DictEntry}{acc:Array Value}(h:ItemsOf (fun i v=>∃e,en[i]?=some e/\v=e.key) acc en.size):acc.toList=en.toList.map (·.key):=by
 apply List.ext_getElem?;intro i;by_cases hi:i<en.size
 .have hi':i<acc.size:=by rw[h.1];exact hi
  obtain⟨e,he,hv⟩:=h.2 i acc[i] (by simp[hi']);rw[zx9,ub2 hi',hv,zx0,zx9,he];rfl
 .rw[ud7 (by rw[Array.length_toList,h.1];lia),ud7 (by simp;lia)]
theorem znn(hu:Y.Rm)(cm:Y.calm):Bl Y (.builtin "sorted") (yb2 .sorted):=fun{s F x t u E}S r h=>by
 cases x with
 |lst xs=>
  obtain⟨a,qc,n,rfl,f,z,r⟩:=r;exact zkl hu S.fh h fun R q=>collect_list (show s.heap.IsList a qc.toList.toArray from⟨_,S.fh _ _ f,rfl,n,rfl⟩) (q xs qc.toList _ s.toks s.drawn (.refl _) r fun b o e=>by rw[uc7 _ _ _ _ (zye (zx5 e))];exact zxr _ e) (by rw[zx1];exact z)
 |dic ks vs=>obtain⟨a,o,es,ep,rfl,f,m,d,r,_⟩:=r;refine zkl hu S.fh h fun R q=>kdu_collect (zrh (en:=es) (ep:=ep) m) (S.hd cm) ⟨o,S.fh _ _ f,d.ex,d.dt⟩ d.sz fun h' tk acc hk hacc=>?_;rw[zmi hacc];exact q ks _ _ _ s.drawn (.refl _) r hk
 |_=>cases h
end
end Nb
section
namespace Nb
open PySem Spec PyProof.Rows Ev
variable {h:Heap}{w:World}{us:List Value}
variable {Y:Yc}{N:Str->Nat->Prop}{B:Bd}{pn:List (Addr×a7 Obj)}{ad:Nat->List Addr}{τ:List Sl}{F G:Fz}{s s' s1:Shared}{x y:Str}{i j:Nat}{is:List Nat}{ke ve:Expr}{pos p px apos cpos tp:Pos}{E:Value->Shared->Prop}{t k:T}{ts ks vs:List T}{u v kv:Value}{a d:Addr}{fk fv:Ev.Env->a7 T}{r:Ev.Env}
theorem St.big{P:Pc}{A:Around}{l:List PySem.Env}(h:St P A l F s):(s.heap.objs.size==sysModules)=false:=by have h1:mainGlobals<s.heap.objs.size:=(h.mod.glob.keeps h.bk).lt;have h2:sysModules<s.heap.objs.size:=Nat.lt_trans (by decide) h1;exact beq_eq_false_iff_ne.mpr (Ne.symm (zye h2))
theorem Dat.new(z:(h.objs.size==sysModules)=false):Dat w F (h.push {cls:=.type "dict",data:=.dict #[]}) h.objs.size [] [] :=
 ⟨_,#[],0,zxx _ rfl,z,⟨⟨rfl,rfl,rfl⟩,rfl,rfl,.nil,zyg _⟩,rfl,rfl⟩
theorem OwnD.vals(D:Dat w F h d ks us)(r:Reps w F vs us):OwnOk w F h [d] (.dic ks vs):=by obtain⟨o,es,ep,h1,h2,h3,h4,e⟩:=D;exact⟨rfl,o,es,ep,h1,h2,h3,h4,by subst e;exact r⟩
theorem zoi:OkO Y N (.Dict [] [] pos) fun _=>some (.dic [] []):=fun{s F r sl E}A q=>by cases q;exact wpAny_Dict_empty ⟨_,F,rfl,Up.side (k:=s.toks) A.fh,A.fh.none zac,zac,OwnD.vals (Dat.new A.toSt.big) rfl⟩
theorem zlf(hu:Y.Rm)(hk:Oke Y N ke fk)(hv:Oke Y N ve fv):OkO Y N (.Dict [some ke] [ve] pos) fun r=>(fk r).bind fun x=>(fv r).bind fun y=>if yac [] x=true then some (.dic [x] [y])else none:=fun{s F r sl E}A q=>by
 obtain⟨x,e1,q⟩:=obs q;obtain⟨y,e2,q⟩:=obs q;split at q
 .rename_i hkk;cases q;refine wpAny_Dict_any rfl rfl (fun z=>nomatch z) (show 1<=15 by decide) ?_;have u0:Up F s F {s with heap:=s.heap.push {cls:=.type "dict",data:=.dict #[]} }:=Up.side (k:=s.toks) A.fh;have D0:Dat Y.w F (s.heap.push {cls:=.type "dict",data:=.dict #[]}) s.heap.objs.size [] []:=Dat.new A.toSt.big;refine pairTrees_cons_walk (thn (hk (A.up u0) e1) fun w s1 z=>?_);obtain⟨G1,u1,r1⟩:=z;refine thn (hv ((A.up u0).up u1) e2) fun w2 s2 z=>?_;obtain⟨G2,u2,r2⟩:=z;refine pairTrees_nil_walk ?_;have uu:=(u0.trans u1).trans u2;have D2:Dat Y.w G2 s2.heap s.heap.objs.size [] []:=OwnD.to D0 (fun o e=>u2.ext _ o (u1.ext _ o e)) (u1.ff.trans u2.ff) fun _ h=>h;have hA:Y.A.units+100<cLine:=hu;have dn:G2 s.heap.objs.size=none:=by
   cases q:G2 s.heap.objs.size with
   |none=>rfl
   |some o=>
    rcases(u1.trans u2).nw _ (by rw[q];simp)with w|w
    .exact absurd (A.fh.none zac) w
    .rw[show(s.heap.push {cls:=.type "dict",data:=.dict #[]}).get? s.heap.objs.size=some _ from zxx _ rfl]at w;cases w
  have rk:=r1.mono u2.ff;unfold storeAll;rw[List.forIn_cons];refine zxq (zxq (yfh (A:=Y.A) (by lia) ⟨by lia,u2.fh,D2,hkk,rk⟩ (by decide) fun h' D3 hs=>zxs ?_));show wpAny _ _ (forIn [] PUnit.unit _) _ _ _;rw[List.forIn_nil];refine zxs ⟨_,G2,rfl,⟨fun b o e=>(hs.2 b fun z=>by rw[z,zac]at e;cases e).trans (uu.ext b o e),uu.os,uu.bare,uu.ff,fun b o e=>(hs.2 b fun z=>by rw[z,dn]at e;cases e).trans (u2.fh b o e),uu.nw⟩,dn,zac,?_⟩;have e1:yad [] x=[x]:=rfl;have e2:yap [] [] x w2=[w2]:=rfl;rw[e1,e2]at D3;exact OwnD.vals D3 ⟨_,_,rfl,r2,rfl⟩
 .cases q
theorem Fr.ownD(h:B.Fr pn ad τ F s)(hx:B.N[i]?=some x)(ht:τ[i]?=some (.dic ks vs)):∃d us,ad i=[d]/\Look B.toYc s.heap x (.ref d)/\Dat B.w F s.heap d ks us/\Reps B.w F vs us:=by
 obtain⟨⟨a,e,l⟩,q⟩:=h.slot i x _ hx ht;cases hd:ad i with
 |nil=>rw[hd]at e;cases e
 |cons b as=>rw[hd]at e q;cases e;obtain⟨rfl,o,es,ep,q1,q2,q3,q4,q5⟩:=q;exact⟨a,_,rfl,l,⟨o,es,ep,q1,q2,q3,q4,rfl⟩,q5⟩
theorem Dat.at(D:Dat w F h d ks us):∃o,h.get? d=some o/\o.cls=.type "dict"/\o.dict=none:=by obtain⟨o,_,_,q1,_,q2,_⟩:=D;exact⟨o,q1,q2.ex.1,q2.ex.2.1⟩
theorem Fr.swap{h':Heap}{tk:Nat}{sl sl':Sl}(h:B.Fr pn ad τ F s)(hx:B.N[i]?=some x)(ht:τ[i]?=some sl)(ha:ad i=[d])(l:Look B.toYc s.heap x (.ref d))(hs:Heap.SameBut d s.heap h')(q:OwnOk B.w F h' [d] sl'):∃ad',B.Fr pn ad' (τ.set i sl') F {s with heap:=h',toks:=tk} :=
 ⟨_,h.own' (d:=[d]) hx ht (fun b hb=>by rw[ha]at hb;exact hb) (fun b hb=>.inl (by rw[ha];exact hb)) (fun b hb=>by rw[omg hb];exact q.ex)
  (fun b o hb e=>(hs.2 b fun w=>hb (ue1.mpr w)).trans e) rfl id fun lk=>.mk (lk _ l) q⟩
theorem zd1:∀{ks vs:List T}{us:List Value},us.length=ks.length->Reps w F vs us->Rep w F t v->Reps w F (yap ks vs k t) (yap ks us k v):=fun{ks vs us}hl r rv=>by
 rw[zcc (by rw[<-r.length];exact hl),zcc hl];cases ixK ks k with
 |none=>exact r.app ⟨_,_,rfl,rv,rfl⟩
 |some i=>exact r.set i rv
theorem zui(hu:B.toYc.Rm)(is:List Nat)(hx:B.N[i]?=some x)(n:Nm x)(hk:Oke B.toYc (Nn B.N) ke fk)(hv:Oke B.toYc (Nn B.N) ve fv)(hs:swapsWith ve (some (.Subscript (.Name x px) ke tp)) pos.line B.env=pure false):PS B (.Assign [.Subscript (.Name x px) ke tp] ve pos) fun τ=>(fv (ygg (frzAt is τ))).bind fun y=>(fk (ygg (frzAt is τ))).bind fun k=>sh (frzAt is τ) i (yek (frzAt is τ)[i]? k y):=fun{pn ad τ F s o}hF q=>by
 obtain⟨y,e1,q⟩:=obs q;obtain⟨k,e2,q⟩:=obs q;obtain⟨sl,e3,rfl⟩:=oms q;obtain⟨G,ad',le,h'⟩:=hF.frzAt is;have hu:B.A.units+100<cLine:=hu;cases ht:(frzAt is τ)[i]? with
 |none=>rw[ht]at e3;cases e3
 |some s0=>
  rw[ht]at e3;have lk:∃d,ad' i=[d]/\Look B.toYc s.heap x (.ref d):=by
   cases s0 with
   |own ts=>obtain⟨a,_,_,h1,h2,_⟩:=h'.ownL hx ht;exact⟨a,h1,h2⟩
   |dic ks vs=>obtain⟨a,_,h1,h2,_⟩:=h'.ownD hx ht;exact⟨a,h1,h2⟩
   |_=>cases e3
  obtain⟨d,ha,hl⟩:=lk;refine wpAny_Assign_Subscript (thn (hv h'.at e1) fun w1 s1 z=>?_) hs;obtain⟨G1,u1,r1⟩:=z;have h1:=h'.after u1;refine zdd h1.ok n (hl.up u1) (thn (hk h1.at e2) fun w2 s2 z=>?_);obtain⟨G2,u2,r2⟩:=z;have h2:=h1.after u2;have ry:=r1.mono u2.ff;have fin:∀{h':Heap}{tk:Nat},Heap.SameBut d s2.heap h'->OwnOk B.w G2 h' [d] sl->B.Post pn F (.nx ((frzAt is τ).set i sl)) .next {s2 with heap:=h',toks:=tk}:=fun{h3 tk}hs q=>by obtain⟨ad3,h3⟩:=h2.swap (tk:=tk) hx ht ha ((hl.up u1).up u2) hs q;exact⟨_,_,(le.trans u1.ff).trans u2.ff,h3⟩
  cases s0 with
  |own ts=>
   cases k with
   |int kk=>obtain⟨jj,e4,rfl⟩:=oms e3;obtain⟨tk,rfl⟩:=r2;obtain⟨a2,qc,m,q1,_,q2,q3,q4,q5⟩:=h2.ownL hx ht;rw[ha]at q1;cases q1;refine zq8 q2 q3 (by rw[q4];exact e4) (fin (tk:=s2.toks) (ub3 ..) ?_);exact⟨rfl,qc.setIfInBounds jj w1,_,by rw[Heap.get?_update_self _ q2 rfl];rfl,by simpa using q3,by simpa using q5.set jj ry⟩
   |_=>cases e3
  |dic ks vs=>
   replace e3:(if yac ks k=true/\ks.length<SZ then some (Sl.dic (yad ks k) (yap ks vs k y))else none)=some sl:=e3;split at e3
   .rename_i hz;cases e3;obtain⟨a2,us,q1,_,D,rv⟩:=h2.ownD hx ht;rw[ha]at q1;cases q1;exact zdn (rdy hu h2.up.fh D hz.1 r2) (zy9 hz.2 (by rw[ub5];exact zx3 _)) fun h3 D3 hs=>fin hs (OwnD.vals D3 (zd1 D.len rv ry))
   .cases e3
  |_=>cases e3
end Nb
section
namespace Nb
open PySem W Spec PyProof.Rows Ev
theorem zgq:typeLookup (.type "list") "keys"=pure none:=by rw[typeLookup_type,builtinLookup_eq_fast];kernel_rfl
theorem zea:typeLookup (.type "list") "__getattr__"=pure none:=by rw[typeLookup_type,builtinLookup_eq_fast];kernel_rfl
section
variable {prog:Program}{w:World}{A:Around}{E:Value->Shared->Prop}{Q:a7 Value->Shared->Prop}{s:Shared}{a:Addr}{xs:Array Value}{n:Nat}{sl:Array (a7 Value)}
theorem zmd(hx:s.heap.get? a=some {cls:=.type "list",dict:=none,data:=.seq xs n,slots:=sl})(hA:A.handled=none)(h:∀h' tk,(∀b o,s.heap.get? b=some o->h'.get? b=some o)->Q none {s with heap:=h',toks:=tk}):wpAny (model prog w) A (getAttr? (.ref a) "keys") Q E s:=by
 obtain⟨hp,g,d,tk,os⟩:=s;have hT:∀t,(⟨hp,g,d,t,os⟩:Shared).TypeIs (.ref a) "list":=fun t=>⟨_,hx,rfl⟩;have f1:=sub_AttributeError;have f3:=F.slot_list_getattribute.lookup;have f4:=F.slot_list_getattribute.bind (.ref a);have f5:=zea;unfold getAttr? getAttrBy? getAttrBy
 repeat(any_goals (first|assumption|exact hT _|wp_step))
 refine codeAny_call_builtin F.slot_list_getattribute.plain F.entry_list_ga (F.slot_list_getattribute.check _ _ _ _ _ _ _ _ (hT _) (F.args_list_getattribute_2 _ _) ?_);have f6:=zgq;have hT':=hT (tk+1);unfold Builtin.«object.__getattribute__»
 repeat(any_goals (first|assumption|exact hT _|wp_step))
 refine wpAny_raiseAttrError (by first|exact hA|simp[hA]) (fun h' tk' e hx'=>?_) (attrMsg_fits (by decide +kernel) (by rw[ub5];decide +kernel));obtain⟨t',u',he⟩:=hx'.there;show wpAny _ _ (getattributeRaised _ _ _ _ _ _ _) _ _ _;unfold getattributeRaised
 repeat(any_goals (first|assumption|wp_step))
 exact h h' tk' hx'.keeps
end
theorem zgv:entryFor table "dict.update.loop"=some Builtin.«dict.update.loop»:=entryFor_of_tree (by kernel_rfl)
theorem zc0:plainId "dict.update.loop"=true:=by decide +kernel
theorem zk4{ks:List T}{k:T}:(yad ks k).length<=ks.length+1:=by rw[zcz];split<;>simp
section
variable {prog:Program}{w:World}{F:Fz}{A:Around}{R:Result->Shared->Prop}{I D:Addr}{fp wr:List Addr}{G:Array GenState->Array GenState->Prop}{P:Nat->Value->Prop}{St:Nat->Shared->Prop}
theorem zd6{x:T}{l ks vs:List T}{t:T}(h:ya7 (x::l) ks vs=some t):∃k y,x=.tup [k,y]/\yac ks k=true/\ya7 l (yad ks k) (yap ks vs k y)=some t:=by
 unfold ya7 at h;split at h
 .rename_i e;cases e
 .rename_i k v r e;cases e;split at h
  .exact⟨k,v,rfl,‹_›,h⟩
  .cases h
 .cases h
theorem znb{n:Nat}{xs:List T}{qc:Array Value}{ks' vs':List T}(W:WalksS prog w A.in1 I fp wr G n P St)(hP:∀i v,P i v->qc[i]?=some v)(hf:D∉fp)(hFw:∀c∈wr,F c=none)(hFD:F D=none)(hn:n<=1000)(hu:A.units+60<cLine)(r:Reps w F xs qc.toList):∀(l:List T)(i:Nat)(ks vs:List T)(us:List Value)(s:Shared),xs.drop i=l->i+l.length=n->St i s->F.In s.heap->Dat w F s.heap D ks us->Reps w F vs us->ks.length<=i->ya7 l ks vs=some (.dic ks' vs') ->(∀s' us',Moved (D::wr) G s s'->F.In s'.heap->Dat w F s'.heap D ks' us'->Reps w F vs' us'->R (.ok (.ret .none)) s')->codeAny (model prog w) A (.builtin "dict.update.loop" ⟨[.ref D,.ref I,rawInt i,.none],[]⟩) R s:=by
 have hsu:∀c∈wr,c∈D::wr:=fun c hc=>zyh _ hc;have hw:D∉wr:=fun z=>hf (W.sub _ z);have kF:∀{s s1:Shared},Moved wr G s s1->F.In s.heap->F.In s1.heap:=fun mv hF b o e=>mv.heap b o (fun z=>by rw[hFw b z]at e;cases e) (hF b o e);have kD:∀{s s1:Shared}{ks us},Moved wr G s s1->Dat w F s.heap D ks us->Dat w F s1.heap D ks us:=fun mv ⟨o,es,ep,h1,h2⟩=>⟨o,es,ep,mv.heap _ _ hw h1,h2⟩;intro l
 induction l with
 |nil=>
  intro i ks vs us s e1 e2 st hF hD rv hl hp q;cases hp;have e3:i=n:=by simpa using e2
  subst e3;refine codeAny_builtin zgv (show wpAny _ _ _ _ _ _ from ?_);rw[Around.under_plainId zc0 _];show wpAny _ A.in1 (pyNext (.ref I) >>= _) _ _ s;refine zxq (W.done s _ _ st fun s1 mv=>?_);show wpAny _ A.in1 (Builtin.Dict.addKeywords D [] >>= fun _=>ret Value.none) _ _ s1;exact zxq (show wpAny _ _ (pure ()) _ _ _ from zxs (zxs (q s1 us (mv.mono hsu) (kF mv hF) (kD mv hD) rv)))
 |cons x l ih=>
  intro i ks vs us s e1 e2 st hF hD rv hl hp q;have lt:i<n:=by rw[zya]at e2;lia
  have ex:xs[i]?=some x:=by rw[<-List.head?_drop,e1];rfl
  obtain⟨u,hu1,ru⟩:=r.get ex;refine codeAny_builtin zgv (show wpAny _ _ _ _ _ _ from ?_);rw[Around.under_plainId zc0 _];show wpAny _ A.in1 (pyNext (.ref I) >>= _) _ _ s;refine zxq (W.item i s _ _ lt st fun v s1 hPv st1 mv=>?_);have ev:v=u:=by rw[zx9,hP i v hPv]at hu1;exact zyr hu1
  subst ev;obtain⟨k,y,rfl,hkk,hp⟩:=zd6 hp;obtain⟨a,o,jts,m,e3,f,c,d,_,kv,_,e4,rk,v2,_,e5,ry,e6⟩:=ru;cases e6;subst e3 e5;have ej:jts=#[kv,v2]:=Array.toList_inj.mp e4;subst ej;have hF1:=kF mv hF;have hD1:=kD mv hD;dsimp only;refine zxq (uc2 (zxq (wpAny_tryCatch ?_)));unfold Builtin.Dict.pairItems;refine zxq (Looks.here (show Looks _ s1.heap (typeOf (.ref a)) o.cls from(Looks.ld (hF1 _ _ f)).andThen .now) ?_);rw[c,if_pos (by decide)];refine zxq (Looks.here (show Looks _ s1.heap (seqItems? (.ref a)) (some #[kv,v2])from(Looks.ld (hF1 _ _ f)).andThen (by rw[d];exact .now)) (zxs ?_));show wpAny _ _ (holding [kv,v2] (dictSet D kv v2)) _ _ s1;refine uc2 (yfh (A:=A.in1) (by show A.units+1+50<cLine;lia) ⟨by show A.units+1+52<cLine;lia,hF1,hD1,hkk,rk⟩ (by rw[ub5];lia) fun h' hD2 hs=>?_);refine zxs ⟨plainId_quiet zc0 _,ih (i+1) _ _ _ _ (by rw[<-List.tail_drop,e1];rfl) (by rw[zya]at e2;lia) ?_ (fun b o e=>?_) hD2 (zd1 hD.len rv ry) (zyc zk4 (Nat.succ_le_succ hl)) hp fun s2 us2 mv2=>q s2 us2 ?_⟩
  .exact W.frame _ s1 _ _ st1 (Nat.le_add_right _ _) fun c hc o e=>by show h'.get? c=some o;rw[hs.2 c fun z:c=D=>hf (by rw[<-z];exact hc)];exact e
  .show h'.get? b=some o;rw[hs.2 b fun z:b=D=>by rw[z,hFD]at e;cases e];exact hF1 b o e
  .refine Moved.trans W.gtrans ((mv.mono hsu).then_heap (Nat.le_add_right _ _) fun c o hc e=>?_) mv2;rw[hs.2 c fun z:c=D=>hc (by rw[z];exact zyo)];exact e
end
section
variable {Y:Yc}
theorem ztk(hu:Y.Rm)(cm:Y.calm):Bl Y (.type "dict") (yb2 .dict):=fun{s F x t u E}S r h=>by
 cases x with
 |lst xs=>
  have h:(if xs.length<=1000 then ya7 xs [] []else none)=some t:=h;split at h
  .rename_i h1000;obtain⟨l,qc,m,rfl,f,z,r⟩:=r;obtain⟨ks',vs',rfl⟩:∃ks' vs',t=.dic ks' vs':=by
    have go:∀{l:List T}{ks vs:List T},ya7 l ks vs=some t->∃ks' vs',t=.dic ks' vs':=by
     intro l
     induction l with
     |nil=>intro ks vs e;cases e;exact⟨_,_,rfl⟩
     |cons x l ih=>intro ks vs e;obtain⟨_,_,_,_,e⟩:=zd6 e;exact ih e
    exact go h
   have hl:=S.fh _ _ f;have hsz:qc.size=xs.length:=zbf r;refine callType_codes (Q₁:=fun obj s₁=>obj=.ref s.heap.objs.size/\s₁={s with heap:=s.heap.push {cls:=.type "dict",data:=.dict #[]} }) PySem.F.kt_called_dict (PySem.F.kt_typeCall_dict_1 _) PySem.F.entry_dict_init (kt_code_dict_new _ ⟨rfl,rfl⟩) ?_;rintro obj s₁ ⟨rfl,rfl⟩;have hty:({s with heap:=s.heap.push {cls:=.type "dict",data:=.dict #[]} }:Shared).TypeIs (.ref s.heap.objs.size) "dict":=⟨_,zxx _ rfl,rfl⟩;have hl1:=zxr {cls:=.type "dict",data:=.dict #[]} hl;refine⟨hty,PySem.F.args_dict_init_2 _ _,?_⟩;unfold Builtin.«dict.__init__»;refine zxq ?_;unfold Builtin.Dict.selfAndRest;refine zxq (wpAny_notOrdered_dict hty ?_);show wpAny _ _ (pure (s.heap.objs.size,[Value.ref l])) _ _ _;refine zxs ?_;show wpAny _ _ (Builtin.Dict.updateFrom "dict.__init__" s.heap.objs.size (.ref l) [] .none) _ _ _;unfold Builtin.Dict.updateFrom;refine zxq (wpAny_typeOf (show Shared.TypeIs _ (.ref l) "list" from⟨_,hl1,rfl⟩) ?_);rw[if_pos (by decide)];refine wpAny_bind (zmd hl1 (by simp[S.hd cm]) fun h' tk' kp=>?_);rw[if_pos (show(none:a7 Value).isNone=true from rfl)];refine zxq (wpAny_rule ?_);have hl2:=kp _ _ hl1;have kp':∀b o,s.heap.get? b=some o->h'.get? b=some o:=fun b o e=>kp _ _ (zxr _ e);refine zxq (wpAny_pyIter_list (items:=qc) ⟨_,hl2,rfl,m,rfl⟩ (zxs ⟨plainId_quiet zc0 _,?_⟩));have ll:l<h'.objs.size:=zx5 hl2;have hD0:h'.get? s.heap.objs.size=some {cls:=.type "dict",data:=.dict #[]}:=kp _ _ (zxx _ rfl);have lD:s.heap.objs.size<h'.objs.size:=zx5 hD0;have ll0:l<s.heap.objs.size:=zx5 hl;have W:=(Walks.list (prog:=Y.prog) (w:=Y.w) (A:=Y.A.in1.in1) (by simp[S.hd cm]) h'.objs.size l (Nat.ne_of_lt ll) qc).toS;have nI:F h'.objs.size=none:=S.fh.none (Heap.get?_none_of_le (Nat.le_of_lt lD));have nD:F s.heap.objs.size=none:=S.fh.none zac;refine znb (F:=F) (D:=s.heap.objs.size) (xs:=xs) (qc:=qc) W (fun i v h=>h) ?_ (fun c hc=>by rw[omg hc];exact nI) nD (by lia) (by show Y.A.units+1+60<cLine;lia) r xs 0 [] [] [] _ rfl (by lia) ?_ (fun b o e=>zxr _ (kp' b o (S.fh b o e)))
    ⟨_,#[],0,zxr _ hD0,S.big,⟨⟨rfl,rfl,rfl⟩,rfl,rfl,.nil,zyg _⟩,rfl,rfl⟩ rfl (zyg _) h fun s' us' mv hF' hD' rv=>?_
   .simp only[List.mem_cons,List.not_mem_nil,or_false,not_or];exact⟨zye lD,Nat.ne_of_gt ll0⟩
   .exact⟨⟨_,zxx _ rfl,rfl,rfl⟩,⟨_,zxr _ hl2,rfl,m,rfl⟩⟩
   .obtain⟨g3,gs3,d3,tk3,os3⟩:=s';have eg:gs3=s.gens:=mv.gens;have ed:d3=s.drawn:=mv.drawn;have eo:os3=s.os:=mv.os;subst eg;subst ed;subst eo;have kk:∀b o,s.heap.get? b=some o->g3.get? b=some o:=fun b o e=>mv.heap b o (by have hb:=zx5 e;simp only[List.mem_cons,List.not_mem_nil,or_false,not_or];exact⟨zye hb,zye (Nat.lt_trans hb lD)⟩) (zxr _ (kp' _ _ e));obtain⟨o,es,ep,h1,h2,h3,h4,h5⟩:=hD';subst h5;have le:=zbm (F:=F) (a:=s.heap.objs.size) (o:=o) nD;exact⟨rfl,_,Up.laid (h':=g3) (k:=tk3) S.fh kk zac h1,_,o,es,ep,rfl,zbs,h2,h3,h4.mono le,rv.mono le⟩
  .cases h
 |_=>cases h
end
end Nb
section
namespace Nb
open PySem Spec PyProof.Rows Ev
variable {P J:List Nat}{i j m:Nat}{h:Int}{t:SetTable}
theorem znz(so:P.Pairwise (·<·)){i i' x x':Nat}(e:P[i]?=some x)(e':P[i']?=some x'):i<i'↔x<x':=by
 obtain⟨h,rfl⟩:=ome e;obtain⟨h',rfl⟩:=ome e';have q:=List.pairwise_iff_getElem.mp so;refine⟨fun z=>q i i' h h' z,fun z=>?_⟩;rcases Nat.lt_trichotomy i i' with w|w|w
 .exact w
 .subst w;lia
 .have:=q i' i h' h w;lia
theorem zpn(so:P.Pairwise (·<·))(j:Nat):∀(f lo hi:Nat),lo<=hi->hi<=P.length->hi-lo<=f->(∀i x,P[i]?=some x->i<lo->x<j)->(∀i x,P[i]?=some x->hi<=i->j<=x) ->SetTable.below.go P.toArray j f lo hi<=P.length/\∀i x,P[i]?=some x->(i<SetTable.below.go P.toArray j f lo hi↔x<j):=by
 have fin:∀{lo hi:Nat},lo=hi->hi<=P.length->(∀i x,P[i]?=some x->i<lo->x<j)->(∀i x,P[i]?=some x->hi<=i->j<=x)->lo<=P.length/\∀i x,P[i]?=some x->(i<lo↔x<j):=fun e h2 h4 h5=>by subst e;exact⟨h2,fun i x e=>⟨h4 i x e,fun h=>Nat.lt_of_not_le fun z=>Nat.not_lt.mpr (h5 i x e z) h⟩⟩
 intro f
 induction f with
 |zero=>intro lo hi h1 h2 h3 h4 h5;rw[SetTable.below.go];exact fin (by lia) h2 h4 h5
 |succ f ih=>
  intro lo hi h1 h2 h3 h4 h5;rw[SetTable.below.go];split
  .rename_i hlt;have hm:(lo+hi)/2<P.length:=by lia
   have e0:P[(lo+hi)/2]?=some P[(lo+hi)/2]:=zxu hm;have ed:P.toArray.getD ((lo+hi)/2) j=P[(lo+hi)/2]:=by simp[Array.getD,hm]
   dsimp only;rw[ed];split
   .rename_i hq;refine ih _ hi (by lia) h2 (by lia) (fun i x e hi'=>?_) h5;rcases Nat.lt_or_ge i ((lo+hi)/2)with w|w
    .exact Nat.lt_trans ((znz so e e0).mp w) hq
    .have:i=(lo+hi)/2:=by lia
     subst this;rw[e0]at e;cases e;exact hq
   .rename_i hq;refine ih lo _ (by lia) (by lia) (by lia) h4 fun i x e hi'=>?_;rcases Nat.lt_or_ge ((lo+hi)/2) i with w|w
    .have:=(znz so e0 e).mp w;lia
    .have:i=(lo+hi)/2:=by lia
     subst this;rw[e0]at e;cases e;lia
  .exact fin (by lia) h2 h4 h5
theorem zjd(so:P.Pairwise (·<·))(j:Nat):SetTable.below P.toArray j<=P.length/\∀i x,P[i]?=some x->(i<SetTable.below P.toArray j↔x<j):=by
 unfold SetTable.below;exact zpn so j _ 0 _ (Nat.zero_le _) (by simp) (by simp) (fun _ _ _ h=>absurd h (Nat.not_lt_zero _)) fun i x e h=>by have:=(ome e).1;simp at h;lia
theorem zjc(so:P.Pairwise (·<·)){p:Nat}(hp:p<=P.length)(h:∀i x,P[i]?=some x->(i<p↔x<j)):SetTable.below P.toArray j=p:=by
 obtain⟨b1,b2⟩:=zjd so j;rcases Nat.lt_trichotomy (SetTable.below P.toArray j) p with w|w|w
 .have e:=zxu (show SetTable.below P.toArray j<P.length by lia);have:=(b2 _ _ e).mpr ((h _ _ e).mp w);lia
 .exact w
 .have e:=zxu (show p<P.length by lia);have:=(h _ _ e).mpr ((b2 _ _ e).mp w);lia
theorem znq(so:P.Pairwise (·<·))(e:P[i]?=some j):SetTable.below P.toArray j=i :=
 zjc so (Nat.le_of_lt (ome e).1) fun _ _ e'=>znz so e' e
def yc1(P:List Nat)(j:Nat):List Nat:=P.take (SetTable.below P.toArray j)++j::P.drop (SetTable.below P.toArray j)
theorem zsp(so:P.Pairwise (·<·))(hj:j∉P):(yc1 P j).Pairwise (·<·):=by
 obtain⟨b1,b2⟩:=zjd so j;have lo:∀x∈P.take (SetTable.below P.toArray j),x<j:=fun x hx=>by
  obtain⟨i,e⟩:=List.getElem?_of_mem hx;rw[List.getElem?_take]at e;split at e
  .rename_i hi;exact(b2 i x e).mp hi
  .cases e
 have hi:∀x∈P.drop (SetTable.below P.toArray j),j<x:=fun x hx=>by
  obtain⟨i,e⟩:=List.getElem?_of_mem hx;rw[List.getElem?_drop]at e;have:¬x<j:=fun z=>by have:=(b2 _ x e).mpr z;lia
  have:x≠j:=fun z=>hj (z▸zx4 e);lia
 unfold yc1;refine List.pairwise_append.mpr ⟨so.take,ud2.mpr ⟨hi,so.drop⟩,fun x hx y hy=>?_⟩;rcases omc hy with rfl|hy
 .exact lo x hx
 .exact Nat.lt_trans (lo x hx) (hi y hy)
theorem zmo:(yc1 P j).Perm (j::P):=by
 have:=List.perm_middle (a:=j) (l₁:=P.take (SetTable.below P.toArray j)) (l₂:=P.drop (SetTable.below P.toArray j))
 rwa[List.take_append_drop]at this
theorem zq7(pl:t.place=P.toArray)(so:P.Pairwise (·<·))(e:P[i]?=some j):t.slot j=.live i:=by unfold SetTable.slot;rw[pl,znq so e];simp[e]
theorem zn0(dum:t.dummies=#[])(pl:t.place=P.toArray)(hj:j∉P):t.slot j=.empty:=by unfold SetTable.slot;rw[pl,dum];dsimp only;rw[if_neg (fun z=>hj (List.mem_of_getElem? (by simpa using z)))];rfl
abbrev tm(m:Nat):SetTable:={SetTable.fresh 0 0 true with mask:=m}
def pb(m:Nat)(h:Int):Nat->SetTable.Probe
 |0=>(tm m).probeStart h
 |n+1=>(tm m).advance (pb m h n)
abbrev ps(m:Nat)(h:Int)(n:Nat):Nat:=(pb m h n).j
def lp(m:Nat)(h:Int):Nat->Nat×Nat
 |0=>(SetTable.bits h%(m+1),SetTable.bits h)
 |n+1=>SetTable.leap m (lp m h n).1 (lp m h n).2
abbrev rn(m:Nat)(h:Int)(n:Nat):Nat:=SetTable.runEnd m (lp m h n).1-(lp m h n).1
def kk(m:Nat)(h:Int):Nat->Nat
 |0=>0
 |n+1=>kk m h n+rn m h n+1
theorem zkx{m i:Nat}:i<=SetTable.runEnd m i/\SetTable.runEnd m i-i<=9/\(i<=m->SetTable.runEnd m i<=m):=by unfold SetTable.runEnd;split<;>lia
theorem zvn:∀n,kk m h n<=10*n
 |0=>zx3 _
 |n+1=>by have:=zvn n;have:rn m h n<=9:=(zkx (m:=m) (i:=(lp m h n).1)).2.1;rw[kk];lia
theorem zlb{n j r i p:Nat}{d:a7 Nat}(e:pb m h n=⟨j,r+1,i,p,d⟩):pb m h (n+1)=⟨j+1,r,i,p,d⟩:=by rw[pb,e];rfl
theorem zw4(n:Nat):∀d,d<=rn m h n->pb m h (kk m h n+d)=⟨(lp m h n).1+d,rn m h n-d,(lp m h n).1,(lp m h n).2,none⟩:=by
 induction n with
 |zero=>
  intro d
  induction d with
  |zero=>intro _;rfl
  |succ d ih=>intro hd;have:=ih (by lia);rw[show rn m h 0-d=(rn m h 0-(d+1))+1 by lia]at this;exact zlb this
 |succ n ihn=>
  intro d
  induction d with
  |zero=>intro _;show(tm m).advance (pb m h (kk m h n+rn m h n))=_;rw[ihn _ (zx3 _),Nat.sub_self];rfl
  |succ d ih=>intro hd;have:=ih (by lia);rw[show rn m h (n+1)-d=(rn m h (n+1)-(d+1))+1 by lia]at this;exact zlb this
theorem zw2{n d:Nat}(hd:d<=rn m h n):ps m h (kk m h n+d)=(lp m h n).1+d:=by unfold ps;rw[zw4 n d hd]
theorem zxf:∀n,(lp m h n).1<=m
 |0=>Nat.le_of_lt_succ (Nat.mod_lt _ (Nat.succ_pos _))
 |n+1=>Nat.le_of_lt_succ (Nat.mod_lt _ (Nat.succ_pos _))
theorem zur:∀n,(pb m h n).j+(pb m h n).more<=m
 |0=>by have:=zkx (m:=m) (i:=SetTable.bits h%(m+1));have h1:SetTable.bits h%(m+1)<=m:=Nat.le_of_lt_succ (Nat.mod_lt _ (Nat.succ_pos _));have:=this.2.2 h1;show SetTable.bits h%(m+1)+(SetTable.runEnd m (SetTable.bits h%(m+1))-SetTable.bits h%(m+1))<=m;lia
 |n+1=>by
  have ih:=zur n;rw[pb];unfold SetTable.advance;split
  .show(pb m h n).j+1+((pb m h n).more-1)<=m;lia
  .generalize el:SetTable.leap (tm m).mask (pb m h n).i (pb m h n).perturb=q;obtain⟨i,p⟩:=q;have h1:i<=m:=by
    have:i=(SetTable.leap m (pb m h n).i (pb m h n).perturb).1:=by rw[show SetTable.leap m (pb m h n).i (pb m h n).perturb=(i,p)from el]
    rw[this];exact Nat.le_of_lt_succ (Nat.mod_lt _ (Nat.succ_pos _))
   have:=(zkx (m:=m) (i:=i)).2.2 h1;show i+(SetTable.runEnd m i-i)<=m;lia
theorem yeo(n:Nat):ps m h n<=m:=zyc (Nat.le_add_right _ _) (zur n)
theorem zpy:∀n,(lp m h n).2=SetTable.bits h/32 ^ n
 |0=>by show SetTable.bits h=_;simp
 |n+1=>by show(lp m h n).2/32=_;rw[zpy n,Nat.div_div_eq_div_mul,Nat.pow_succ]
theorem zrl(n:Nat):(lp m h (13+n)).2=0:=by
 rw[zpy];have hb:SetTable.bits h<2 ^ 64:=by unfold SetTable.bits;have h1:=uc5 h (show(2 ^ 64:Int)≠0 by decide);have h2:=uc0 h (show(0:Int)<2 ^ 64 by decide);lia
 refine Nat.div_eq_of_lt (zy9 hb ?_);rw[Nat.pow_add];exact zyc (show 2 ^ 64<=32 ^ 13 by decide) (Nat.le_mul_of_pos_right _ (Nat.pow_pos (by decide)))
def cyc(m i:Nat):Nat->Nat
 |0=>i
 |n+1=>cyc m ((i*5+1)%(m+1)) n
theorem znd:∀(n i:Nat),cyc m i (n+1)=(cyc m i n*5+1)%(m+1)
 |0,_=>rfl
 |n+1,i=>znd n _
theorem zf2:∀(a b i:Nat),cyc m i (a+b)=cyc m (cyc m i a) b
 |0,b,i=>by rw[Nat.zero_add];rfl
 |a+1,b,i=>by rw[Nat.succ_add];exact zf2 a b _
theorem zl4:∀n,(lp m h (13+n)).1=cyc m (lp m h 13).1 n
 |0=>rfl
 |n+1=>by show((lp m h (13+n)).1*5+1+(lp m h (13+n)).2/32)%(m+1)=_;rw[zrl,Nat.zero_div,Nat.add_zero,znd,<-zl4 n]
def orb(m i:Nat):Nat->List Nat
 |0=>[]
 |k+1=>i::orb m ((i*5+1)%(m+1)) k
theorem zld{s:Nat}:∀{k i:Nat},s∈orb m i k->∃n,n<k/\cyc m i n=s
 |k+1,i,e=>by
  rcases omc e with rfl|e
  .exact⟨0,by lia,rfl⟩
  .obtain⟨n,h1,h2⟩:=zld e;exact⟨n+1,by lia,h2⟩
def Mk(m:Nat):Prop:=m=7\/m=31\/m=127
def orbB(m:Nat):Bool:=((List.range (m+1)).all fun s=>(orb m 0 (m+1)).contains s)&&cyc m 0 (m+1)==0
theorem zrx:∀m,Mk m->orbB m=true:=by rintro m (rfl|rfl|rfl)<;>decide +kernel
theorem yel(k:Mk m){s:Nat}(hs:s<=m):∃n,n<=13+m/\(lp m h n).1=s:=by
 have o:=zrx m k;unfold orbB at o;rw[zxw,uc1,ue3]at o;obtain⟨o,oz⟩:=o;have all:∀s,s<=m->∃n,n<m+1/\cyc m 0 n=s:=fun s hs=>zld (by simpa using o s (List.mem_range.mpr (by lia)));obtain⟨a,a1,a2⟩:=all _ (zxf (h:=h) 13);obtain⟨b,b1,b2⟩:=all s hs;rcases Nat.le_total a b with w|w
 .refine⟨13+(b-a),by lia,?_⟩;rw[zl4,<-a2,<-zf2,show a+(b-a)=b by lia,b2]
 .by_cases z:a=b
  .exact⟨13,by lia,by rw[<-a2,z,b2]⟩
  .refine⟨13+(m+1-a+b),by lia,?_⟩;rw[zl4,<-a2,<-zf2,show a+(m+1-a+b)=m+1+b by lia,zf2,oz,b2]
theorem zg6{α:Type}[DecidableEq α]:∀{l D:List α},l.Nodup->(∀x∈l,x∈D)->l.length<=D.length
 |[],_,_,_=>zyg _
 |a::l,D,nd,h=>by obtain⟨h1,h2⟩:=ua7.mp nd;have ha:=h a (.head _);have:=zg6 (l:=l) (D:=D.erase a) h2 fun x hx=>(List.mem_erase_of_ne fun e=>h1 (by rw[<-e];exact hx)).mpr (h x (.tail _ hx));rw[List.length_erase_of_mem ha]at this;have:0<D.length:=List.length_pos_of_mem ha;rw[zya];lia
theorem zs1(hl:J.length<=m):∃s,s<=m/\s∉J:=Classical.byContradiction fun z=>by have:=zg6 (l:=List.range (m+1)) (D:=J) List.nodup_range fun x hx=>Classical.byContradiction fun w=>z ⟨x,by have:=List.mem_range.mp hx;lia,w⟩;rw[zy2]at this;lia
theorem least{p:Nat->Prop}(n:Nat):p n->∃k,k<=n/\p k/\∀m,m<k->¬p m:=by
 induction n using Nat.strongRecOn with
 |ind n ih=>
  intro hp;by_cases f:∃j,j<n/\p j
  .obtain⟨j,hj,hpj⟩:=f;obtain⟨k,h1,h2⟩:=ih j hj hpj;exact⟨k,by lia,h2⟩
  .exact⟨n,zx3 _,hp,fun j hj hpj=>f ⟨j,hj,hpj⟩⟩
theorem zjw(k:Mk m)(hl:J.length<=m)(h:Int):∃N K,N<=13+m/\K<=kk m h N/\ps m h K∉J/\∀n,n<K->ps m h n∈J:=by obtain⟨s,hs,hn⟩:=zs1 hl;obtain⟨N,h1,h2⟩:=yel (h:=h) k hs;have e:=zw2 (m:=m) (h:=h) (n:=N) (zyg _);obtain⟨K,k1,k2,k3⟩:=least (p:=fun n=>ps m h n∉J) (kk m h N) (by show ps m h (kk m h N+0)∉J;rw[e,h2];exact hn);exact⟨N,K,h1,k1,k2,fun n hn'=>Classical.byContradiction fun z=>k3 n hn' z⟩
structure TOk(t:SetTable)(P:List Nat):Prop where
 mm:Mk t.mask
 dum:t.dummies=#[]
 pl:t.place=P.toArray
 so:P.Pairwise (·<·)
 lt:∀j∈P,j<=t.mask
theorem ziy(o:TOk t P){ha:Nat->Int}{K:Nat}(he:ps t.mask h K∉P):∀(d k f:Nat),k+d=K->d<f->(∀n,k<=n->n<K->∃i:Nat,P[i]?=some (ps t.mask h n)/\ha i≠h)->SetTable.probe.go t ha h f (pb t.mask h k)=some (.empty (ps t.mask h K) (pb t.mask h K).dummy)
 |0,k,f+1,e,_,_=>by
  have:k=K:=by lia
  subst this;rw[SetTable.probe.go,show t.slot (pb t.mask h k).j=_ from zn0 o.dum o.pl he]
 |d+1,k,f+1,e,hf,hl=>by obtain⟨i,h1,h2⟩:=hl k (zx3 _) (by lia);rw[SetTable.probe.go,show t.slot (pb t.mask h k).j=_ from zq7 o.pl o.so h1];show(if(ha i==h)=true then _ else SetTable.probe.go t ha h f (t.advance (pb t.mask h k)))=_;rw[if_neg (by simpa using h2)];exact ziy o he d (k+1) f (by lia) (by lia) fun n h3 h4=>hl n (by lia) h4
 |0,_,0,_,h0,_=>absurd h0 (by lia)
 |d+1,_,0,_,h0,_=>absurd h0 (by lia)
theorem zp1:∀n,(pb m h n).dummy=none
 |0=>rfl
 |n+1=>by have ih:=zp1 n;rw[pb];unfold SetTable.advance;split<;>exact ih
end Nb
section
namespace Nb
open PySem Spec PyProof.Rows Ev
variable {P J:List Nat}{i j m:Nat}{h:Int}{t:SetTable}
def ix(J:List Nat)(s:Nat):a7 Nat:=J.findIdx? (·==s)
structure Own(m:Nat)(o:Array (Option Nat))(J:List Nat):Prop where
 sz:o.size=m+1
 at_:∀s,s<=m->o[s]?=some (ix J s)
theorem Own.get{o:Array (a7 Nat)}(w:Own m o J){s:Nat}(hs:s<=m)(d:a7 Nat):o.getD s d=ix J s:=by rw[Array.getD_eq_getD_getElem?,w.at_ s hs];rfl
structure Laid(m:Nat)(hs:List Int)(J:List Nat):Prop where
 len:J.length=hs.length
 nd:J.Nodup
 lt:∀j∈J,j<=m
 rch:∀(i:Nat)(h:Int)(j:Nat),hs[i]?=some h->J[i]?=some j->∃n,n<=10*(13+m)/\j=ps m h n/\∀k,k<n->ps m h k∈J
theorem Laid.app{hs:List Int}(q:Laid m hs J){K:Nat}(hK:K<=10*(13+m))(hn:ps m h K∉J)(hp:∀n,n<K->ps m h n∈J):Laid m (hs++[h]) (J++[ps m h K]):=by
 refine⟨by simp[q.len],?_,fun j hj=>?_,fun i h' j e1 e2=>?_⟩
 .rw[List.nodup_append];exact⟨q.nd,by simp,fun a ha b hb e=>hn (by rw[<-omg hb,<-e];exact ha)⟩
 .rcases oma hj with hj|hj
  .exact q.lt j hj
  .rw[omg hj];exact yeo _
 .rcases Nat.lt_or_ge i hs.length with w|w
  .rw[zy7 w]at e1;rw[zy7 (by rw[q.len];exact w)]at e2;obtain⟨n,n1,n2,n3⟩:=q.rch i h' j e1 e2;exact⟨n,n1,n2,fun k hk=>List.mem_append_left _ (n3 k hk)⟩
  .rw[zy6 w]at e1;rw[zy6 (by rw[q.len];exact w),q.len]at e2;have:i-hs.length=0:=by have:=(ome e1).1;simp at this;lia
   rw[this]at e1 e2;cases e1;cases e2;exact⟨K,hK,rfl,fun k hk=>List.mem_append_left _ (hp k hk)⟩
def live(m:Nat)(J:List Nat):List (Nat×Nat):=(List.range (m+1)).filterMap fun j=>(ix J j).map fun i=>(j,i)
end Nb
section
namespace Nb
open PySem Spec PyProof.Rows Ev
section
variable {prog:Program}{w:World}{F:Fz}{A:Around}{E:Value->Shared->Prop}{s:Shared}{k:T}{x:Addr}
abbrev Kat(kn:T->Bool)(w:World)(F:Fz)(e:T×Value):Prop:=kn e.1=true/\Rep w F e.1 e.2
def ybo(w:World)(L:List (T×Value)):List (Int×Value):=L.map fun e=>(yba w e.1,e.2)
structure SetN(kn:T->Bool)(w:World)(F:Fz)(g:Heap)(S:Addr)(L:List (T×Value))(ep:Nat)(t:SetTable)(P:List Nat):Prop where
 ob:g.get? S=some {cls:=.type "set",dict:=none,data:=.set (ybo w L).toArray ep t}
 ok:TOk t P
 len:P.length=L.length
 room:P.length*5<t.mask*3
 led:t.led=false->w.params.followText "set-order"=true
 nd:(L.map (·.1)).Nodup
 ks:∀e∈L,Kat kn w F e
 rch:∀q∈L.zip P,∃n,n<=10*(13+t.mask)/\q.2=ps t.mask (yba w q.1.1) n/\∀k,k<n->ps t.mask (yba w q.1.1) k∈P
variable {kn:T->Bool}{S:Addr}{L:List (T×Value)}{ep:Nat}{t:SetTable}{P:List Nat}
theorem zhl{es:List (Int×Value)}(o:TOk t P)(hl:P.length=es.length)(hr:P.length<=t.mask):t.fits es.toArray.size=true:=by unfold SetTable.fits SetTable.fill;rw[o.pl,o.dum];simp[hl];lia
theorem zc5:(ybo w L).length=L.length:=zxt _
theorem SetN.fits{g:Heap}(h:SetN kn w F g S L ep t P):t.fits (ybo w L).toArray.size=true :=
 zhl h.ok (by rw[zc5,h.len]) (by have:=h.room;lia)
end
end Nb
section
namespace Nb
open PySem Spec PyProof.Rows Ev
section
variable {prog:Program}{w:World}{F:Fz}{A:Around}{E:Value->Shared->Prop}{s:Shared}{k:T}{x S:Addr}{kn:T->Bool}{L:List (T×Value)}{ep:Nat}{t:SetTable}{P:List Nat}
theorem ziv{α:Type}(l:List α)(p:Nat)(x:α):SetTable.insertAt l.toArray p x=(l.take p++x::l.drop p).toArray:=by unfold SetTable.insertAt;apply Array.toList_inj.mp;simp[List.take_of_length_le]
theorem zov{α:Type}(l:List α)(p:Nat)(x:α):(l.take p++x::l.drop p).Perm (x::l):=by
 have:=List.perm_middle (a:=x) (l₁:=l.take p) (l₂:=l.drop p)
 rwa[List.take_append_drop]at this
theorem zj2{α β:Type}{x:α}{j:β}{q:α×β}:∀{p:Nat}{L:List α}{P:List β},P.length=L.length->q∈(L.take p++x::L.drop p).zip (P.take p++j::P.drop p)->q=(x,j)\/q∈L.zip P
 |0,L,P,_,h=>by simpa using h
 |p+1,[],[],_,h=>by simpa using h
 |p+1,a::L,b::P,hl,h=>by
  have h':q∈(a,b)::(L.take p++x::L.drop p).zip (P.take p++j::P.drop p):=by simpa using h
  rcases omc h' with h'|h'
  .exact .inr (by rw[h'];exact .head _)
  .rcases zj2 (by simpa using hl) h' with h'|h'
   .exact .inl h'
   .exact .inr (.tail _ h')
end
end Nb
section
namespace Nb
open PySem Spec PyProof.Rows Ev
section
variable {prog:Program}{w:World}{F:Fz}{A:Around}{E:Value->Shared->Prop}{s:Shared}{y:Str}{tk:Tok}{S:Addr}{L:List (T×Value)}{ep:Nat}{t:SetTable}{P:List Nat}
theorem zmf{e:T×Value}(h:Kat isS w F e):∃y tk,e=(.str y,.str y tk):=by
 obtain⟨x,v⟩:=e;cases x with
 |str x=>obtain⟨_,tk,rfl⟩:=h;exact⟨x,tk,rfl⟩
 |_=>cases h.1
theorem zwu{Q:Bool->Shared->Prop}(hS:SetN isS w F s.heap S L ep t P)(h3:T.str y∉L.map (·.1)->L.length<=3)(h4:L.length<=4)(q1:T.str y∈L.map (·.1)->Q false s)(q2:T.str y∉L.map (·.1)->∀(L':List (T×Value))(ep':Nat)(t':SetTable)(P':List Nat)(g:Heap),L'.Perm ((.str y,.str y tk)::L)->Heap.SameBut S s.heap g->SetN isS w F g S L' ep' t' P'->Q true {s with heap:=g}):wpAny (model prog w) A (setAddHashed S (.str y tk) (hashStr w y)) Q E s:=by
 have hx:(PySem.strKind prog w).is y (.str y tk)=true:=by show(y==y)=true;simp
 have hL:∀e∈L,∃y tk,e=(T.str y,Value.str y tk):=fun e he=>zmf (hS.ks e he);have hel:ElemsOf (PySem.strKind prog w) (ybo w L).toArray.toList:=fun e he=>by obtain⟨u,hu,rfl⟩:=omm (show e∈ybo w L by simpa using he);obtain⟨z,tz,rfl⟩:=hL u hu;exact⟨⟨z,by show(z==z)=true;simp,rfl⟩,rfl⟩
 have is_eq:∀{z tz},(PySem.strKind prog w).is y (.str z tz)=decide (T.str z=T.str y):=fun{z tz}=>by show(z==y)=_;by_cases e:z=y<;>simp[e]
 unfold setAddHashed setAddHashedIn;refine uc2 (zxq (wpAny_setState_of hS.ob rfl hS.fits ?_));dsimp only;rw[byScan_of (knd:=PySem.strKind prog w) rfl (by rw[zyl,zc5];unfold scanBound;lia) hel];simp only[↓reduceIte];unfold setAddByScan;refine zxq (zxq (wpAny_rule ?_));refine zxq (wpAny_setScan_of (knd:=PySem.strKind prog w) hx hS.ob rfl hS.fits hel ?_);cases hr:List.findIdx? (fun e=>(PySem.strKind prog w).is y e.2) (ybo w L).toArray.toList with
 |some j=>dsimp only;obtain⟨hj,hpj,_⟩:=List.findIdx?_eq_some_iff_getElem.mp hr;refine zxs (zxs (q1 ?_));obtain⟨u,hu,e⟩:=omm (show(ybo w L).toArray.toList[j]∈ybo w L from by have:=ua5 hj;simpa using this);obtain⟨z,tz,rfl⟩:=hL u hu;rw[<-e,is_eq]at hpj;exact ua0.mpr ⟨_,hu,zyk hpj⟩
 |none=>
  dsimp only;have hk:T.str y∉L.map (·.1):=fun z=>by obtain⟨u,hu,e⟩:=omm z;obtain⟨z,tz,rfl⟩:=hL u hu;have:=List.findIdx?_eq_none_iff.mp hr (hashStr w z,.str z tz) (show _∈ybo w L from ua0.mpr ⟨_,hu,rfl⟩);rw[is_eq,show T.str z=T.str y from e]at this;simp at this
  have h3:=h3 hk;have room:=hS.room;have hpl:=hS.len;have m7:7<=t.mask:=by rcases hS.ok.mm with e|e|e<;>lia
  obtain⟨N,K,n1,n2,hf,n3⟩:=zjw hS.ok.mm (J:=P) (by lia) (hashStr w y);have hK:K<=10*(13+t.mask):=by have:=zvn (m:=t.mask) (h:=hashStr w y) N;lia
  have hfs:t.freeSlot (hashStr w y)=some (ps t.mask (hashStr w y) K,false):=by
   unfold SetTable.freeSlot SetTable.probe;rw[show t.probeStart (hashStr w y)=pb t.mask (hashStr w y) 0 from rfl,ziy hS.ok (ha:=fun _=>hashStr w y+1) hf K 0 _ (by lia) (by show K<10*(t.mask+15);lia) fun m _ hm=>?_,zp1]
   .rfl
   .obtain⟨i,hi⟩:=List.getElem?_of_mem (n3 m hm);exact⟨i,hi,by show hashStr w y+1≠hashStr w y;lia⟩
  generalize hp:SetTable.below P.toArray (ps t.mask (hashStr w y) K)=p;have pm:=zov L p (T.str y,Value.str y tk);have iP:=zmo (P:=P) (j:=ps t.mask (hashStr w y) K);have hl:(L.take p++(T.str y,Value.str y tk)::L.drop p).length=L.length+1:=by rw[pm.length_eq,zya]
  have pl:(yc1 P (ps t.mask (hashStr w y) K)).length=L.length+1:=by rw[iP.length_eq,zya,hS.len]
  have ed:(t.put (ps t.mask (hashStr w y) K)).1.dummies=#[]:=by show(if SetTable.has t.dummies _ then _ else t.dummies)=_;rw[hS.ok.dum];rfl
  have ep':(t.put (ps t.mask (hashStr w y) K)).1.place=(yc1 P (ps t.mask (hashStr w y) K)).toArray:=by show SetTable.insertAt t.place (SetTable.below t.place _) _=_;rw[hS.ok.pl,ziv];rfl
  have eE:SetTable.insertAt (ybo w L).toArray (t.put (ps t.mask (hashStr w y) K)).2 (hashStr w y,Value.str y tk)=(ybo w (L.take p++(T.str y,Value.str y tk)::L.drop p)).toArray:=by rw[show(t.put (ps t.mask (hashStr w y) K)).2=p by show SetTable.below t.place _=p;rw[hS.ok.pl];exact hp,ziv];simp[ybo,yba]
  have ok':∀tb:SetTable,tb.mask=t.mask->tb.dummies=#[]->tb.place=(yc1 P (ps t.mask (hashStr w y) K)).toArray->TOk tb (yc1 P (ps t.mask (hashStr w y) K)):=fun tb t1 t2 t3=>⟨by rw[t1];exact hS.ok.mm,t2,t3,zsp hS.ok.so hf,fun j hj=>by
   rw[t1];rcases omc (iP.mem_iff.mp hj)with rfl|hj
   .exact yeo _
   .exact hS.ok.lt _ hj⟩
  have hf1:=zhl (es:=ybo w (L.take p++(T.str y,Value.str y tk)::L.drop p)) (ok' (t.put (ps t.mask (hashStr w y) K)).1 rfl ed ep') (by rw[zc5,pl,hl]) (by rw[pl];show L.length+1<=t.mask;lia);have hlay:layNew t (ybo w L).toArray (hashStr w y) (.str y tk)=((ybo w (L.take p++(T.str y,Value.str y tk)::L.drop p)).toArray,(t.put (ps t.mask (hashStr w y) K)).1,false,false):=by unfold layNew;rw[hfs];show(SetTable.insertAt (ybo w L).toArray (t.put (ps t.mask (hashStr w y) K)).2 (hashStr w y,Value.str y tk),(t.put (ps t.mask (hashStr w y) K)).1.orStandIn (SetTable.insertAt (ybo w L).toArray (t.put (ps t.mask (hashStr w y) K)).2 (hashStr w y,Value.str y tk)).size,false,!(t.put (ps t.mask (hashStr w y) K)).1.fits (SetTable.insertAt (ybo w L).toArray (t.put (ps t.mask (hashStr w y) K)).2 (hashStr w y,Value.str y tk)).size)=_;rw[eE];unfold SetTable.orStandIn;rw[hf1];rfl
  rw[hlay];dsimp only;have fin:∀tb:SetTable,tb.mask=t.mask->tb.dummies=#[]->tb.place=(yc1 P (ps t.mask (hashStr w y) K)).toArray->tb.led=t.led->∀rest:Sem (a7 Bool),
    wpAny (model prog w) A (do
     storeSet S (ybo w (L.take p++(T.str y,Value.str y tk)::L.drop p)).toArray tb
     if(!false&&tb.tooFull)=true then rest else pure (some true)) (fun r s'=>r=some true/\Q true s') E s:=by
   intro tb t1 t2 t3 t4 rest;have et:tb.tooFull=false:=by unfold SetTable.tooFull SetTable.fill;rw[t1,t2,t3];simp[pl];lia
   refine zxq (wpAny_storeSet_of hS.ob rfl ?_ (by rw[zyl,zc5,hl,ub5];lia));rw[et,if_neg (by decide)];refine zxs ⟨rfl,q2 hk _ (ep+1) tb _ _ pm (ub3 s.heap S (Obj.putSet _ tb)) ⟨Heap.get?_update_self (Obj.putSet _ tb) hS.ob rfl,ok' tb t1 t2 t3,by rw[pl,hl],by rw[pl,t1];lia,fun z=>hS.led (by rw[<-t4];exact z),?_,fun e he=>?_,fun q hq=>?_⟩⟩
   .refine(pm.map (·.1)).nodup_iff.mpr ?_;rw[zxz];exact ua7.mpr ⟨hk,hS.nd⟩
   .rcases omc (pm.mem_iff.mp he)with rfl|he
    .exact⟨rfl,tk,rfl⟩
    .exact hS.ks e he
   .rw[t1];have inc:∀m,m∈P->m∈yc1 P (ps t.mask (hashStr w y) K):=fun m hm=>iP.mem_iff.mpr (.tail _ hm);unfold yc1 at hq;rw[hp]at hq;rcases zj2 hS.len hq with rfl|hq
    .exact⟨K,hK,rfl,fun m hm=>inc _ (n3 m hm)⟩
    .obtain⟨n,m1,m2,m3⟩:=hS.rch q hq;exact⟨n,m1,m2,fun m hm=>inc _ (m3 m hm)⟩
  refine zxq (show wpAny _ _ (pure ()) _ _ _ from zxs ?_);split
  .refine zxq ?_;rw[hashByValue_scannable 8 (show(Value.str y tk).scannable=true from rfl)];refine zxs ?_;refine zyt (fin _ ?_ ?_ ?_ ?_ _) (fun r s' hr=>?_) (fun _ _ e=>e)
   .split<;>rfl
   .split<;>exact ed
   .split<;>exact ep'
   .split<;>rfl
   .obtain⟨rfl,hq⟩:=hr;exact zxs hq
  .refine zxq (zxs ?_);refine zyt (fin (t.put (ps t.mask (hashStr w y) K)).1 rfl ed ep' rfl _) (fun r s' hr=>?_) (fun _ _ e=>e);obtain⟨rfl,hq⟩:=hr;exact zxs hq
end
end Nb
section
namespace Nb
open PySem Spec PyProof.Rows Ev
variable {qc:Array Value}
theorem zhj{z:T}(hz:isS z=true):yao 4 z=true:=by cases z<;>first|rfl|cases hz
theorem zqf{x y:T}(hx:isS x=true)(hy:isS y=true):Ev.eqT x y=decide (x=y):=(ziq 4 _ _ (zhj hx) (zhj hy)).2
theorem zlz{ks:List T}{q:T}(hk:∀x∈ks,isS x=true)(hq:isS q=true):ybv ks q=true↔q∈ks:=by
 unfold ybv;rw[List.any_eq_true];constructor
 .rintro⟨x,hx,e⟩;rw[zqf (hk x hx) hq]at e;rw[<-zyk e];exact hx
 .intro h;exact⟨q,h,by rw[zqf hq hq];simp⟩
theorem zhq:∀(l ks:List T),(∀x∈ks,isS x=true)->(∀x∈l,isS x=true)->ks.Nodup->(l.foldl yad ks).Nodup/\∀x,x∈l.foldl yad ks↔x∈ks\/x∈l
 |[],ks,_,_,nd=>⟨nd,fun x=>by simp⟩
 |q::l,ks,hk,hl,nd=>by
  have hq:=hl q (.head _);have e:=zlz hk hq;rw[List.foldl_cons];by_cases z:q∈ks
  .rw[show yad ks q=ks from if_pos (e.mpr z)];obtain⟨h1,h2⟩:=zhq l ks hk (fun x hx=>hl x (.tail _ hx)) nd;refine⟨h1,fun x=>?_⟩;rw[h2 x,ua1];exact⟨fun w=>w.imp id .inr,fun w=>w.elim .inl fun w=>w.elim (fun w=>.inl (w▸z)) .inr⟩
  .rw[show yad ks q=ks++[q]from if_neg (mt e.mp z)];obtain⟨h1,h2⟩:=zhq l (ks++[q]) (fun x hx=>(oma hx).elim (hk x) fun w=>by rw[omg w];exact hq) (fun x hx=>hl x (.tail _ hx)) (List.nodup_append.mpr ⟨nd,by simp,fun a ha b hb e=>z (by rw[<-omg hb,<-e];exact ha)⟩);refine⟨h1,fun x=>?_⟩;rw[h2 x,ud9,ue1,ua1,or_assoc]
theorem znc{l:List T}(hl:∀x∈l,isS x=true):(yb8 l).Nodup/\∀x,x∈yb8 l↔x∈l:=by obtain⟨h1,h2⟩:=zhq l [] (fun _ h=>nomatch h) hl .nil;exact⟨h1,fun x=>by rw[yb8,h2 x];simp⟩
section
variable {prog:Program}{w:World}{A:Around}{R:Result->Shared->Prop}{I:Addr}{fp wr:List Addr}{G:Array GenState->Array GenState->Prop}{P:Nat->Value->Prop}{St:Nat->Shared->Prop}{F:Fz}{S:Addr}
theorem zn3{xs:List T}(W:WalksS prog w A.in1 I fp wr G qc.size P St)(hP:∀i v,P i v->qc[i]?=some v)(hf:S∉fp)(hFw:∀c∈wr,F c=none)(hFS:F S=none)(r:Reps w F xs qc.toList)(hk:∀x∈xs,isS x=true)(h4:(yb8 xs).length<=4)(hu:A.units+20<cLine):∀(k i:Nat)(s:Shared),qc.size-i=k->i<=qc.size->St i s->F.In s.heap->(∃L ep t P,SetN isS w F s.heap S L ep t P/\∀x,x∈L.map (·.1)↔x∈xs.take i) ->(∀s',Moved (S::wr) G s s'->F.In s'.heap->(∃L ep t P,SetN isS w F s'.heap S L ep t P/\∀x,x∈L.map (·.1)↔x∈xs)->R (.ok (.ret .none)) s')->codeAny (model prog w) A (.builtin "set.update.loop" ⟨[.ref S,.ref I],[]⟩) R s:=by
 have hsu:∀c∈wr,c∈S::wr:=fun c hc=>zyh _ hc;have hw:S∉wr:=fun z=>hf (W.sub _ z);have kF:∀{s s1:Shared},Moved wr G s s1->F.In s.heap->F.In s1.heap:=fun mv hF b o e=>mv.heap b o (fun z=>by rw[hFw b z]at e;cases e) (hF b o e);have kS:∀{s s1:Shared}{L ep t P},Moved wr G s s1->SetN isS w F s.heap S L ep t P->SetN isS w F s1.heap S L ep t P:=fun mv y=>{y with ob:=mv.heap S _ hw y.ob};have hl:=r.length;rw[zx1]at hl;intro k
 induction k with
 |zero=>
  intro i s e1 e2 st hF y q;have e3:i=qc.size:=by lia
  subst e3;rw[hl,List.take_length]at y;refine codeAny_builtin PyProof.Rows.F.entry_set_update_loop (show wpAny _ _ _ _ _ _ from ?_);rw[Around.under_plainId PyProof.Rows.F.plain_set_update_loop _];show wpAny _ A.in1 (pyNext (.ref I) >>= _) _ _ s;obtain⟨L,ep,t,P',y,ym⟩:=y;exact zxq (W.done s _ _ st fun s1 mv=>(show wpAny _ A.in1 (ret Value.none) _ _ s1 from zxs (q s1 (mv.mono hsu) (kF mv hF) ⟨L,ep,t,P',kS mv y,ym⟩)))
 |succ k ih=>
  intro i s e1 e2 st hF y q;have lt:i<qc.size:=by lia
  refine codeAny_builtin PyProof.Rows.F.entry_set_update_loop (show wpAny _ _ _ _ _ _ from ?_);rw[Around.under_plainId PyProof.Rows.F.plain_set_update_loop _];show wpAny _ A.in1 (pyNext (.ref I) >>= _) _ _ s;refine zxq (W.item i s _ _ lt st fun v s1 hv st1 mv=>?_);have hF1:=kF mv hF;obtain⟨x,ex,rx⟩:=r.ix (i:=i) (by rw[zx1];exact lt);have ev:=hP i v hv;rw[ub2 lt]at ev;cases ev;rw[Array.getElem_toList]at rx;have hx:=zx4 ex;obtain⟨L,ep,t,P',y,ym⟩:=y;have y1:=kS mv y;obtain⟨d1,d2⟩:=znc hk;have tk:xs.take (i+1)=xs.take i++[x]:=by rw[List.take_succ,ex];rfl
  have big:∀{M:List T},M.Nodup->(∀z∈M,z∈xs)->M.length<=(yb8 xs).length:=fun{M}h1 h2=>zg6 h1 fun z hz=>(d2 z).mpr (h2 z hz);have few:x∉L.map (·.1)->L.length+1<=(yb8 xs).length:=fun hm=>by
   have:=big (M:=x::L.map (·.1)) (ua7.mpr ⟨hm,y1.nd⟩) fun z hz=>(omc hz).elim (fun e=>by rw[e];exact hx) fun hz=>ub6 ((ym z).mp hz)
   rwa[zya,zxt]at this
  have few0:L.length<=(yb8 xs).length:=by
   have:=big y1.nd fun z hz=>ub6 ((ym z).mp hz)
   rwa[zxt]at this
  have fin:∀(k':Nat)(g:Heap),s1.toks<=k'->Heap.SameBut S s1.heap g->(∃L ep t P,SetN isS w F g S L ep t P/\∀z,z∈L.map (·.1)↔z∈xs.take i\/z=x)->
    wpAny (model prog w) A.in1 (again (.builtin "set.update.loop" ⟨[.ref S,.ref I],[]⟩)) (fun fin s'=>match fin with|.done f=>R (.ok f) s'|.again c'=>c'.quiet=true/\codeAny (model prog w) A c' R s') (fun e s'=>R (.error e) s') {s1 with heap:=g,toks:=k'}:=fun k' g hk' sb y2=>by
   refine zxs ⟨plainId_quiet PyProof.Rows.F.plain_set_update_loop _,ih (i+1) _ (by lia) lt (W.frame _ s1 _ _ st1 hk' fun c hc o e=>?_) (fun b o e=>?_) ?_ fun s2 mv2 y4=>?_⟩
   .rw[sb.2 c fun z:c=S=>hf (by rw[<-z];exact hc)];exact e
   .show g.get? b=some o;rw[sb.2 b fun z:b=S=>by rw[z,hFS]at e;cases e];exact hF1 b o e
   .obtain⟨L',ep',t',P2,y2,hm⟩:=y2;exact⟨L',ep',t',P2,y2,fun z=>by rw[hm,tk,ud9,ue1]⟩
   .refine q s2 (Moved.trans W.gtrans ((mv.mono hsu).then_heap hk' fun c o hc e=>?_) mv2) y4;rw[sb.2 c fun z:c=S=>hc (by rw[z];exact zyo)];exact e
  have old:x∈L.map (·.1)->∃L ep t P,SetN isS w F s1.heap S L ep t P/\∀z,z∈L.map (·.1)↔z∈xs.take i\/z=x:=fun hm=>⟨L,ep,t,P',y1,fun z=>by rw[ym z];exact⟨.inl,fun w=>w.elim id fun w=>by rw[w];exact(ym _).mp hm⟩⟩;have new:∀{v':Value}{L':List (T×Value)},L'.Perm ((x,v')::L)->∀z,z∈L'.map (·.1)↔z∈xs.take i\/z=x:=fun pm z=>by rw[(pm.map (·.1)).mem_iff,zxz,ua1,ym z];exact Or.comm
  have kx:=hk x hx;refine zxq (uc2 (show wpAny _ _ (setAdd S _) _ _ _ from ?_));unfold setAdd;refine uc2 (zxq (zeg 4 x (zhj kx) (by show A.units+1+4<cLine;lia) hF1 rx ?_));clear hv;generalize qc[i]=v at rx ⊢;have le:s1.toks<=s1.toks+drT x:=Nat.le_add_right _ _;obtain⟨x,tkx,ka⟩:=zmf (e:=(x,_)) ⟨kx,rx⟩;cases ka;exact zwu (s:={s1 with toks:=s1.toks+_}) y1 (fun hm=>by have:=few hm;lia) (by lia) (fun hm=>fin _ _ le ⟨rfl,fun _ _=>rfl⟩ (old hm)) fun hm L' ep' t' P2 g pm sb y2=>fin _ _ le sb ⟨L',ep',t',P2,y2,new pm⟩
end
section
variable {Y:Yc}{E:Value->Shared->Prop}{s:Shared}{F:Fz}
abbrev ycr(led:Bool):Obj:={cls:=.type "set",dict:=none,data:=.set #[] 0 (.fresh 0 0 led)}
theorem zn2{prog:Program}{w:World}{A:Around}(a:Value){Q₁:Value->Shared->Prop}(h:∀led:Bool,(led=false->w.params.followText "set-order"=true)->Q₁ (.ref s.heap.objs.size) {s with heap:=s.heap.push (ycr led)}):codeAny (model prog w) A (.call (.builtin "set.__new__") ⟨[.type "set",a],[]⟩) (wants Q₁ E) s:=by
 refine codeAny_of_tree ?_;show wpAny _ A.in1 (do checkBuiltinCall "set.__new__" ⟨[.type "set",a],[]⟩;again (.builtin "set.__new__" ⟨[.type "set",a],[]⟩)) _ _ s;refine zxq (wpAny_of_eq (PySem.F.newCall_set_1 a) (zxs ⟨plainId_quiet PySem.F.plain_set_new _,codeAny_builtin PySem.F.entry_set_new ?_⟩));rw[Around.under_plainId PySem.F.plain_set_new _];unfold Builtin.«set.__new__» Builtin.Frozenset.newClass;have hsub:=sub_set_self;obtain⟨hp,g,d,tk,os⟩:=s;dsimp only
 wp_walk
 refine wpAny_askSetting (zxs ?_);dsimp only;simp only[newObj];refine zxq (wpAny_alloc (zxs ?_));refine zxs (h _ fun e=>?_);have e':(!w.params.followText "set-order")=false:=e;simpa using e'
theorem zph{xs:List T}{l:Addr}{n:Nat}{Q:Value->Shared->Prop}(hu:Y.Rm)(hh:Y.A.handled=none)(hF:F.In s.heap)(hl:F l=some {cls:=.type "list",data:=.seq qc n})(r:Reps Y.w F xs qc.toList)(hk:∀x∈xs,isS x=true)(h4:(yb8 xs).length<=4)(q:∀(g:Heap)(k:Nat),(∃L ep t P,SetN isS Y.w F g s.heap.objs.size L ep t P/\∀x,x∈L.map (·.1)↔x∈xs)->(∀b o,s.heap.get? b=some o->g.get? b=some o)->Q (.ref s.heap.objs.size) {s with heap:=g,toks:=k}):wpAny Y.M Y.A (call (.type "set") [.ref l]) Q E s:=by
 have hol:=hF _ _ hl;obtain⟨c,tl,hmro⟩:=PySem.F.called_set.mro;have k1:=PySem.F.called_set.made;have k2:=PySem.F.called_set.sub;refine wpAny_call (codeAny_of_tree (show wpAny _ _ (callAny (.type "set") _) _ _ _ from ?_));refine zxs ⟨Code.quiet_builtin _ (by decide +kernel),codeAny_builtin PySem.F.entry_type_call (show wpAny _ _ _ _ _ _ from ?_)⟩;rw[Around.under_plain (weight_type_call_type "set" [.ref l] []) rfl];have k3:=PySem.F.called_set.notType;have k4:=PySem.F.called_set.canCreate;have k5:=PySem.F.typeCall_set_1 (.ref l)
 repeat(any_goals (first|wp_step|assumption))
 refine codeAny_mono (zn2 (.ref l) (E:=E) (Q₁:=fun ob s1=>∃b:Bool,(b=false->Y.w.params.followText "set-order"=true)/\ob=.ref s.heap.objs.size/\s1={s with heap:=s.heap.push (ycr b)}) fun b hb=>⟨b,hb,rfl,rfl⟩) fun r s1 hr=>?_;cases r with
 |error e=>exact hr
 |ok fl=>
  cases fl with
  |ret ob=>
   obtain⟨b,hb,rfl,rfl⟩:=hr;have hS:(s.heap.push (ycr b)).get? s.heap.objs.size=some (ycr b):=zxx _ rfl;have hT:Shared.TypeIs {s with heap:=s.heap.push (ycr b)} (.ref s.heap.objs.size) "set":=⟨_,hS,rfl⟩;have k6:=PySem.F.called_set.init.lookup;have k7:=PySem.F.called_set.init.bind (.ref s.heap.objs.size)
   repeat(any_goals (first|wp_step|assumption))
   refine codeAny_mono (codeAny_call_builtin (R:=wants (fun r s2=>r=.none/\∃g tk,s2={s with heap:=g,toks:=tk}/\(∃L ep t P,SetN isS Y.w F g s.heap.objs.size L ep t P/\∀x,x∈L.map (·.1)↔x∈xs) /\
     (∀b o,s.heap.get? b=some o->g.get? b=some o)) E) PySem.F.called_set.init.plain PySem.F.entry_set_init (check_set_init_1 hT ?_)) fun r2 s2 hr2=>?_
   .have ho2:(s.heap.push (ycr b)).get? l=some {cls:=.type "list",data:=.seq qc n}:=zxr _ hol;have k8:=PySem.F.sub_list_set;have k9:=PySem.F.sub_list_frozenset;have k10:(Value.type "list"==Value.type "dict")=false:=by decide
    have hl1:(s.heap.push (ycr b)).IsList l qc:=⟨_,ho2,rfl,n,rfl⟩;unfold Builtin.«set.__init__» noKeywords Builtin.Frozenset.updateFrom;generalize hPI:pyIter=PI
    wp_walk
    subst hPI;refine wpAny_pyIter_list hl1 (zxq (wpAny_runValue (show codeAny _ _ _ _ _ from ?_)));have ll:l<s.heap.objs.size:=zx5 hol;have h3:Y.A.in1.in1.in1.handled=none:=by simp[hh]
    have ne:l≠(s.heap.push (ycr b)).objs.size:=by rw[zyb];exact zye (Nat.lt_succ_of_lt ll)
    have W:=(Walks.list (prog:=Y.prog) (w:=Y.w) h3 (s.heap.push (ycr b)).objs.size l ne qc).toS;have nS:F s.heap.objs.size=none:=hF.none zac;have nI:F (s.heap.push (ycr b)).objs.size=none:=hF.none (Heap.get?_none_of_le (by rw[zyb];exact Nat.le_succ _));refine zn3 (F:=F) (S:=s.heap.objs.size) W (fun i v h=>h) ?_ (fun c hc=>by rw[omg hc];exact nI) nS r hk h4 (by show Y.A.units+1+1+20<cLine;have:Y.A.units+100<cLine:=hu;lia) (qc.size-0) 0 _ (by lia) (zyg _)
     ⟨⟨_,zxx _ rfl,rfl,rfl⟩,let⟨o,e,r⟩:=hl1;⟨o,zxr _ e,r⟩⟩ (fun b o e=>zxr _ (zxr _ (hF b o e))) ?_ fun s3 mv hF3 y=>?_
    .rw[zyb];simp only[List.mem_cons,List.not_mem_nil,or_false,not_or];exact⟨zye (zy8 _),Nat.ne_of_gt ll⟩
    .exact⟨[],0,_,[],⟨Heap.get?_push_of_some _ hS,⟨.inl rfl,rfl,rfl,.nil,fun _ h=>(nomatch h)⟩,rfl,by show 0*5<7*3;decide,hb,.nil,(fun e he=>(nomatch he)),fun q hq=>(nomatch hq)⟩,fun x=>by simp⟩
    .obtain⟨g3,gs3,d3,tk3,os3⟩:=s3;have eg:gs3=s.gens:=mv.gens;have ed:d3=s.drawn:=mv.drawn;have eo:os3=s.os:=mv.os;subst eg;subst ed;subst eo;refine(show wpAny _ _ _ _ _ _ from zxs (show wpAny _ _ (ret Value.none) _ _ _ from zxs ⟨rfl,g3,tk3,rfl,y,fun c o e=>?_⟩));have hc:=zx5 e;have n1:c≠s.heap.objs.size:=zye hc;have n2:c≠(s.heap.push (ycr b)).objs.size:=by rw[zyb];exact zye (Nat.lt_succ_of_lt hc)
     exact mv.heap c o (by simp only[List.mem_cons,List.not_mem_nil,or_false,not_or];exact⟨n1,n2⟩) (Heap.get?_push_of_some _ (Heap.get?_push_of_some _ e))
   .cases r2 with
    |error e=>exact hr2
    |ok fl2=>
     cases fl2 with
     |ret r=>
      obtain⟨rfl,g,tk,rfl,y,k⟩:=hr2
      repeat(any_goals (first|wp_step|assumption))
      exact q _ _ y k
     |_=>exact hr2.elim
  |_=>exact hr.elim
end
end Nb
section
namespace Nb
open PySem PySem.W PySem.Spec PySem.Calls PyProof.Rows Ev
variable {n sl i ep m:Nat}{Q:a7 Value->Shared->Prop}{I S D:Addr}{es:List (Int×Value)}{t:SetTable}{ys:List Nat}{oD:Obj}
theorem zkp:Slot "set" "__iter__" "set.__iter__" :=
 .of (owner:="set") (n:="__iter__") (by rw[typeLookup_type,builtinLookup_eq_fast];kernel_rfl) (by decide +kernel) (by decide +kernel) (by decide +kernel)
  (by first|exact .inl (by decide +kernel)|exact .inr (by decide +kernel)) (by rw[isSubtype_type];kernel_rfl)
theorem zs7:entryFor table "set.__iter__"=some Builtin.«frozenset.__iter__»:=entryFor_alias (id':="frozenset.__iter__") (by kernel_rfl) rfl (by decide +kernel) (by kernel_rfl)
theorem zus:Manifest.owners.lookup (String.ofList ['t','e','s'].reverse)=some Manifest.sig_set:=by kernel_rfl
theorem ztm(a:Value):argsOk "set.__iter__" ⟨[a],[]⟩:=by unfold argsOk;rw[signature?_of (id:="set.__iter__") (n:=['_','_','r','e','t','i','_','_']) (o:=['t','e','s']) (by kernel_rfl) zus];kernel_rfl
theorem zbl:Slot "set_iterator" "__next__" "set_iterator.__next__" :=
 .of (owner:="set_iterator") (n:="__next__") (by rw[typeLookup_type,builtinLookup_eq_fast];kernel_rfl) (by decide +kernel) (by decide +kernel) (by decide +kernel)
  (by first|exact .inl (by decide +kernel)|exact .inr (by decide +kernel)) (by rw[isSubtype_type];kernel_rfl)
theorem zfz:entryFor table "set_iterator.__next__"=some Builtin.«set_iterator.__next__»:=entryFor_of_tree (by kernel_rfl)
theorem zut:Manifest.owners.lookup (String.ofList ['r','o','t','a','r','e','t','i','_','t','e','s'].reverse)=some Manifest.sig_set_iterator:=by kernel_rfl
theorem zf7(a:Value):argsOk "set_iterator.__next__" ⟨[a],[]⟩:=by unfold argsOk;rw[signature?_of (id:="set_iterator.__next__") (n:=['_','_','t','x','e','n','_','_']) (o:=['r','o','t','a','r','e','t','i','_','t','e','s']) (by kernel_rfl) zut];kernel_rfl
theorem zko:Slot "set_iterator" "__iter__" "set_iterator.__iter__" :=
 .of (owner:="set_iterator") (n:="__iter__") (by rw[typeLookup_type,builtinLookup_eq_fast];kernel_rfl) (by decide +kernel) (by decide +kernel) (by decide +kernel)
  (by first|exact .inl (by decide +kernel)|exact .inr (by decide +kernel)) (by rw[isSubtype_type];kernel_rfl)
theorem zs6:entryFor table "set_iterator.__iter__"=some Builtin.«dict_keyiterator.__iter__»:=entryFor_alias (id':="dict_keyiterator.__iter__") (by kernel_rfl) rfl (by decide +kernel) (by kernel_rfl)
theorem ztl(a:Value):argsOk "set_iterator.__iter__" ⟨[a],[]⟩:=by unfold argsOk;rw[signature?_of (id:="set_iterator.__iter__") (n:=['_','_','r','e','t','i','_','_']) (o:=['r','o','t','a','r','e','t','i','_','t','e','s']) (by kernel_rfl) zut];kernel_rfl
theorem zho{α:Type}:∀{l:List α}{i:Nat}(h:i<l.length),(l[i]::l.eraseIdx i).Perm l
 |a::l,0,_=>.refl _
 |a::l,i+1,h=>by
  have h':i<l.length:=by simpa using h
  exact(List.Perm.swap a l[i] (l.eraseIdx i)).trans (List.Perm.cons a (zho h'))
theorem zla{α:Type}(next:Nat->Nat):∀(f k:Nat)(left:List α)(out:Array α),left.length=f->((pickOrder.go next f k left out).toList).Perm (out.toList++left)
 |0,k,left,out,h=>by have:left=[]:=List.length_eq_zero_iff.mp h;subst this;rw[pickOrder.go,zy0]
 |f+1,k,left,out,h=>by
  have hi:next k%left.length<left.length:=Nat.mod_lt _ (by lia)
  rw[pickOrder.go,zxu hi];refine(zla next f (k+1) _ _ (by rw[List.length_eraseIdx_of_lt hi];lia)).trans ?_;rw[Array.toList_push,zyz];exact List.Perm.append_left _ (zho hi)
theorem zk9{α:Type}(next:Nat->Nat)(xs:Array α):(pickOrder next xs).toList.Perm xs.toList:=by
 unfold pickOrder;have:=zla next xs.size 0 xs.toList #[] (by simp)
 simpa using this
section
variable {prog:Program}{w:World}{M:Model}{A:Around}{E:Value->Shared->Prop}{s:Shared}
theorem znk{src:Source}{Q:Nat->Shared->Prop}(hn:n≠0)(h:∀i d,i<n->Q i {s with drawn:=d}):wpAny M A (choose src n) Q E s:=fun Γ p hΓ=>by unfold choose;rw[Sem.wp_choose];exact⟨hn,h _ _ (Nat.mod_lt _ (Nat.pos_of_ne_zero hn))⟩
theorem zm9{α:Type}:∀(n:Nat)(xs:List α)(s:Shared){Q:List α->Shared->Prop},xs.length=n->(∀ys d,ys.Perm xs->Q ys {s with drawn:=d})->wpAny M A (drawOrder n xs) Q E s
 |0,xs,s,Q,hl,h=>by have:xs=[]:=List.length_eq_zero_iff.mp hl;subst this;exact zxs (h [] s.drawn (.refl _))
 |n+1,[],s,Q,hl,h=>by cases hl
 |n+1,x::xs,s,Q,hl,h=>by unfold drawOrder;refine wpAny_bind (znk (by simp) fun i d hi=>?_);rw[zxu hi];dsimp only;refine wpAny_bind (zm9 n _ _ (by rw[List.length_eraseIdx_of_lt hi];simpa using hl) fun ys d' hp=>wpAny_pure ?_);exact h _ d' ((List.Perm.cons _ hp).trans (zho hi))
theorem zo0{r:Addr}{Q:Bool->Shared->Prop}(hT:s.TypeIs (.ref r) "set")(h:Q false s):wpAny (model prog w) A (Builtin.List.listLengthHint (.ref r)) Q E s:=by
 unfold Builtin.List.listLengthHint;refine zxq (wpAny_specialOf hT PySem.F.slot_set_len.lookup ?_);generalize hid:("set.__len__":String)=id0
 wp_delta
 rw[show splitId id0=some ("set", "__len__")from by subst hid;decide +kernel];subst hid;refine zxq (wpAny_isInstance (T:="set") (b:=true) hT (by rw[isSubtype_type];kernel_rfl) ?_);refine wpAny_ite_split (fun hab=>absurd hab (by decide)) (fun _=>?_);refine wpAny_ite_split (fun _=>?_) (fun hab=>absurd (by decide +kernel) hab);refine zxq (wpAny_typeOf hT ?_);exact zxs h
end
section
variable {prog:Program}{w:World}{A:Around}{E:Value->Shared->Prop}{s:Shared}
def itO(first:Value)(i:Nat)(S:Addr)(n ep:Nat):Obj:={cls:=.type "set_iterator",dict:=none,data:=.fields #[first,.int i 0,.ref S,.int n 0,.int ep 0],slots:=#[]}
abbrev stO(es:List (Int×Value))(ep:Nat)(t:SetTable):Obj:={cls:=.type "set",dict:=none,data:=.set es.toArray ep t}
theorem ydb{nx:Nat}{x:Value}(hI:s.heap.get? I=some (itO (.int sl 0) i S n ep))(hS:s.heap.get? S=some (stO es ep t))(hf:t.fits es.toArray.size=true)(hn:n=es.length)(hx:∀(A:Around)(Q:a7 (Value×Nat)->Shared->Prop)(E:Value->Shared->Prop),Q (some (x,nx)) s->wpAny (model prog w) A (setNext S sl i ep) Q E s)(hQ:∀h',h'.get? I=some (itO (.int nx 0) (i+1) S n ep)->Heap.SameBut I s.heap h'->Q (some x) {s with heap:=h'}):wpAny (model prog w) A (pyNext (.ref I)) Q E s:=by
 have hT:s.TypeIs (.ref I) "set_iterator":=⟨_,hI,rfl⟩;unfold pyNext;refine zxq (zy1 (zyf (name:=Str.ofString "__next__") hT zbl (zyd zbl hT zfz ?_ (zf7 _))));unfold Builtin.«set_iterator.__next__»;refine zxq (zxs ?_);refine zxq (ud0 hI rfl ?_);dsimp only;refine zxq (wpAny_setEntries_of hS rfl hf ?_);rw[if_neg (by simp[hn])];rw[zyq,zyq,zyq];refine zxq (hx _ _ _ ?_);dsimp only;refine wpAny_bind (ud3 hI (by simp) fun h1 e1 b1=>?_);refine wpAny_bind (ud3 e1 (by simp) fun h2 e2 b2=>?_);refine zxs ⟨x,rfl,zxs (hQ _ ?_ (b1.trans b2))⟩;rw[e2];unfold itO;simp[rawInt]
theorem zkk{h1:Heap}(hh:A.handled=none)(b1:Heap.ExtBut I s.heap h1)(hQ:∀h',Heap.ExtBut I s.heap h'->Q none {s with heap:=h'}):wpAny (model prog w) A.in1 (newExc (.type "StopIteration") [] >>= fun e=>(raiseNew e:Sem PySem.Fin)) (fun fin s'=>∃v,fin=Fin.done (Flow.ret v)/\wpAny (model prog w) A (pure (some v)) Q E s') (fun e s'=>wpAny (model prog w) A (isInstance e (Value.type "StopIteration") >>= fun b=>if b=true then pure none else throw e) Q E s') {s with heap:=h1}:=by
 refine zxq ?_;simp only[newExc,newTuple];refine zxq (zyj ?_ (by size_fits));refine wpAny_bind (m:=firstArgMember _ _) (wpAny_of_eq (a:=Value.none) (by first|rfl|(simp only[firstArgMember];rfl)) ?_);refine zyj ?_ (by size_fits);simp only[raiseNew];refine zxq (wpAny_handled ?_);rw[show A.in1.handled=none from hh];refine zxq (zxs (wpAny_throw ?_));refine zxq (wpAny_isInstance (T:="StopIteration") (b:=true) ⟨_,zxx _ rfl,rfl⟩ isSubtype_stop ?_);exact zxs (hQ _ ((b1.push _).push _))
theorem zs5(hh:A.handled=none)(hI:s.heap.get? I=some (itO (.int sl 0) i S n ep))(hS:s.heap.get? S=some (stO es ep t))(hf:t.fits es.toArray.size=true)(hn:n=es.length)(hx:∀(A:Around)(Q:a7 (Value×Nat)->Shared->Prop)(E:Value->Shared->Prop),Q none s->wpAny (model prog w) A (setNext S sl i ep) Q E s)(hQ:∀h',Heap.ExtBut I s.heap h'->Q none {s with heap:=h'}):wpAny (model prog w) A (pyNext (.ref I)) Q E s:=by
 have hT:s.TypeIs (.ref I) "set_iterator":=⟨_,hI,rfl⟩;unfold pyNext;refine zxq (zy1 (zyf (name:=Str.ofString "__next__") hT zbl (zyd zbl hT zfz ?_ (zf7 _))));unfold Builtin.«set_iterator.__next__»;refine zxq (zxs ?_);refine zxq (ud0 hI rfl ?_);dsimp only;refine zxq (wpAny_setEntries_of hS rfl hf ?_);rw[if_neg (by simp[hn])];rw[zyq,zyq,zyq];refine zxq (hx _ _ _ ?_);dsimp only;refine wpAny_bind (ud3 hI (by simp) fun h1 e1 b1=>?_);exact zkk (s:=s) hh b1.extBut hQ
theorem zjr{p:Nat}{e:Int×Value}(hI:s.heap.get? I=some (itO (.ref D) i S n ep))(hD:s.heap.get? D=some oD)(hd:oD.data=.seq (ys.map fun(j:Nat)=>rawInt j).toArray m)(hS:s.heap.get? S=some (stO es ep t))(hf:t.fits es.toArray.size=true)(hn:n=es.length)(hp:ys[i]?=some p)(he:es[p]?=some e)(hQ:∀h',h'.get? I=some (itO (.ref D) (i+1) S n ep)->Heap.SameBut I s.heap h'->Q (some e.2) {s with heap:=h'}):wpAny (model prog w) A (pyNext (.ref I)) Q E s:=by
 have hT:s.TypeIs (.ref I) "set_iterator":=⟨_,hI,rfl⟩;unfold pyNext;refine zxq (zy1 (zyf (name:=Str.ofString "__next__") hT zbl (zyd zbl hT zfz ?_ (zf7 _))));unfold Builtin.«set_iterator.__next__»;refine zxq (zxs ?_);refine zxq (ud0 hI rfl ?_);dsimp only;refine zxq (wpAny_setEntries_of hS rfl hf ?_);rw[if_neg (by simp[hn])];refine zxq (uc9 hD hd ?_);dsimp only;rw[show(ys.map fun(j:Nat)=>rawInt j).toArray[(i:Int).toNat]?=some (.int p 0) by simp[hp,rawInt]];dsimp only;rw[zyq,zyq];refine zxq ?_;unfold setNextDrawn;refine zxq (wpAny_setState_of hS rfl hf ?_);dsimp only;rw[if_neg (by simp)];rw[show es.toArray[p]?=some e by simp[he]];refine zxs ?_;refine wpAny_bind (ud3 hI (by simp) fun h1 e1 b1=>?_);refine zxs ⟨_,rfl,zxs (hQ _ ?_ b1)⟩;rw[e1];unfold itO;simp[rawInt]
theorem zm7(hh:A.handled=none)(hI:s.heap.get? I=some (itO (.ref D) i S n ep))(hD:s.heap.get? D=some oD)(hd:oD.data=.seq (ys.map fun(j:Nat)=>rawInt j).toArray m)(hS:s.heap.get? S=some (stO es ep t))(hf:t.fits es.toArray.size=true)(hn:n=es.length)(hp:ys[i]?=none)(hQ:∀h',Heap.ExtBut I s.heap h'->Q none {s with heap:=h'}):wpAny (model prog w) A (pyNext (.ref I)) Q E s:=by
 have hT:s.TypeIs (.ref I) "set_iterator":=⟨_,hI,rfl⟩;unfold pyNext;refine zxq (zy1 (zyf (name:=Str.ofString "__next__") hT zbl (zyd zbl hT zfz ?_ (zf7 _))));unfold Builtin.«set_iterator.__next__»;refine zxq (zxs ?_);refine zxq (ud0 hI rfl ?_);dsimp only;refine zxq (wpAny_setEntries_of hS rfl hf ?_);rw[if_neg (by simp[hn])];refine zxq (uc9 hD hd ?_);dsimp only;rw[show(ys.map fun(j:Nat)=>rawInt j).toArray[(i:Int).toNat]?=none by simpa using hp];dsimp only;refine wpAny_bind (ud3 hI (by simp) fun h1 e1 b1=>?_);refine wpAny_bind (ud3 e1 (by simp) fun h2 e2 b2=>?_);exact zkk (s:=s) hh (b1.trans b2).extBut hQ
theorem zku{first:Value}{Q:Value->Shared->Prop}(hI:s.heap.get? I=some (itO first i S n ep))(h:Q (.ref I) s):wpAny (model prog w) A (pyIter (.ref I)) Q E s:=by have hT:s.TypeIs (.ref I) "set_iterator":=⟨_,hI,rfl⟩;refine wpAny_pyIter_slot hT zko (zyd zko hT zs6 ?_ (ztl _));show wpAny _ _ (ret (.ref I)) _ _ s;exact zxs ⟨_,rfl, "set_iterator",_,hT,zbl.lookup,h⟩
theorem zjh(hh:A.handled=none)(hS:S≠I)(hD:D≠I)(hd:oD.data=.seq (ys.map fun(j:Nat)=>rawInt j).toArray m)(hf:t.fits es.toArray.size=true)(hn:n=es.length)(hy:∀p∈ys,p<es.length):Walks prog w A I [I,S,D] [I] ys.length (fun i v=>∃p e,ys[i]?=some p/\es[p]?=some e/\v=e.2) (fun i h=>h.get? I=some (itO (.ref D) i S n ep)/\h.get? S=some (stO es ep t)/\h.get? D=some oD) where
 sub:=fun b hb=>by simp at hb;simp[hb]
 frame:=fun _ _ _ st hk=>⟨hk I (by simp) _ st.1,hk S (by simp) _ st.2.1,hk D (by simp) _ st.2.2⟩
 item:=fun i s Q E hi st hQ=>by have hp:ys[i]?=some ys[i]:=zxu hi;have he:es[ys[i]]?=some (es[ys[i]]'(hy _ (ua5 hi))):=zxu _;refine zjr st.1 st.2.2 hd st.2.1 hf hn hp he fun h' e' b'=>?_;exact hQ _ h' s.toks ⟨_,_,hp,he,rfl⟩ ⟨e',by rw[b'.2 S hS];exact st.2.1,by rw[b'.2 D hD];exact st.2.2⟩ fun b o hb e=>by rw[b'.2 b fun z=>hb (by simp[z])];exact e
 done:=fun s Q E st hQ=>zm7 hh st.1 st.2.2 hd st.2.1 hf hn (by simp) fun h' b'=>hQ h' s.toks fun b o hb e=>b' b o (fun z=>hb (by simp[z])) e
 self:=fun _ _ _ _ st hQ=>zku st.1 hQ
theorem zhw{ord:List (Int×Value)}{sl:Nat->Nat}(hh:A.handled=none)(hS:S≠I)(hf:t.fits es.toArray.size=true)(hn:n=es.length)(hx:∀i,i<ord.length->∀e,ord[i]?=some e->∀(s:Shared)(A:Around)(Q:a7 (Value×Nat)->Shared->Prop)(E:Value->Shared->Prop),s.heap.get? S=some (stO es ep t)->Q (some (e.2,sl (i+1))) s->wpAny (model prog w) A (setNext S (sl i) i ep) Q E s)(hz:∀(s:Shared)(A:Around)(Q:a7 (Value×Nat)->Shared->Prop)(E:Value->Shared->Prop),s.heap.get? S=some (stO es ep t)->Q none s->wpAny (model prog w) A (setNext S (sl ord.length) ord.length ep) Q E s):Walks prog w A I [I,S] [I] ord.length (fun i v=>∃e,ord[i]?=some e/\v=e.2) (fun i h=>h.get? I=some (itO (.int (sl i) 0) i S n ep)/\h.get? S=some (stO es ep t)) where
 sub:=fun b hb=>by simp at hb;simp[hb]
 frame:=fun _ _ _ st hk=>⟨hk I (by simp) _ st.1,hk S (by simp) _ st.2⟩
 item:=fun i s Q E hi st hQ=>by have hp:ord[i]?=some ord[i]:=zxu hi;refine ydb st.1 st.2 hf hn (fun A Q E h=>hx i hi _ hp s A Q E st.2 h) fun h' e' b'=>?_;exact hQ _ h' s.toks ⟨_,hp,rfl⟩ ⟨e',by rw[b'.2 S hS];exact st.2⟩ fun b o hb e=>by rw[b'.2 b fun z=>hb (by simp[z])];exact e
 done:=fun s Q E st hQ=>zs5 hh st.1 st.2 hf hn (fun A Q E h=>hz s A Q E st.2 h) fun h' b'=>hQ h' s.toks fun b o hb e=>b' b o (fun z=>hb (by simp[z])) e
 self:=fun _ _ _ _ st hQ=>zku st.1 hQ
end
section
variable {prog:Program}{w:World}{A:Around}{E:Value->Shared->Prop}{s:Shared}
theorem zgl{Q:a7 (Value×Nat)->Shared->Prop}(hS:s.heap.get? S=some (stO es ep t))(hf:t.fits es.toArray.size=true)(hb:w.params.followText "set-order"=true)(h:Q (((pickOrder (w.params.setOrder S ep) es.toArray)[i]?).map fun e=>(e.2,sl)) s):wpAny (model prog w) A (setNext S sl i ep) Q E s:=by
 unfold setNext;refine zxq (wpAny_setState_of hS rfl hf ?_);dsimp only;unfold setsByText;refine zxq (zxq (wpAny_askSetting (zxs ?_)));rw[if_pos (show(model prog w).w.params.followText "set-order"=true from hb),if_neg (by simp)];unfold setWalk;refine zxq (zxq (wpAny_setState_of hS rfl hf ?_));dsimp only;unfold setsByText;refine zxq (zxq (wpAny_askSetting (zxs ?_)));rw[if_pos (show(model prog w).w.params.followText "set-order"=true from hb)];refine zxq (wpAny_askSetting (zxs ?_));exact zxs h
theorem ze9{Q:a7 (Value×Nat)->Shared->Prop}(hS:s.heap.get? S=some (stO es ep t))(hf:t.fits es.toArray.size=true)(hb:w.params.followText "set-order"=false)(hl:t.led=true)(hd:(!t.plain&&decide (es.toArray.size>1))=false)(hi:SetTable.below t.place sl=i)(h:Q (match es.toArray[i]?,t.place[i]? with|some (_,x),some j=>some (x,j+1)|_,_=>none) s):wpAny (model prog w) A (setNext S sl i ep) Q E s:=by
 unfold setNext;refine zxq (wpAny_setState_of hS rfl hf ?_);dsimp only;unfold setsByText;refine zxq (zxq (wpAny_askSetting (zxs ?_)));rw[if_neg (show ¬(model prog w).w.params.followText "set-order"=true from by rw[show(model prog w).w.params.followText "set-order"=false from hb];decide)];refine wpAny_ite_split (fun hab=>absurd (show(!t.plain&&decide (es.toArray.size>1))=true from hab) (by rw[hd];decide)) (fun _=>?_);refine zxq (show wpAny _ _ (if(!t.led&&!es.toArray.isEmpty)=true then unsupported _ else pure ()) _ _ _ from ?_);rw[if_neg (by rw[hl];simp)];refine zxs ?_;rw[hi];exact zxs h
theorem znt{fp wr:List Addr}{n':Nat}{P P':Nat->Value->Prop}{St:Nat->Heap->Prop}(W:Walks prog w A I fp wr n P St)(hn:n=n')(h:∀i v,P i v->P' i v):Walks prog w A I fp wr n' P' St:=by subst hn;exact⟨W.sub,W.frame,fun i s Q E hi st hQ=>W.item i s Q E hi st fun v h' tk hp=>hQ v h' tk (h i v hp),W.done,W.self⟩
end
end Nb
section
namespace Nb
open PySem PySem.W PySem.Spec PySem.Calls PyProof.Rows Ev
variable {S:Addr}{es:List (Int×Value)}{ep:Nat}{t:SetTable}{P:List Nat}
structure SetG(w:World)(g:Heap)(S:Addr)(es:List (Int×Value))(ep:Nat)(t:SetTable)(P:List Nat):Prop where
 ob:g.get? S=some {cls:=.type "set",dict:=none,data:=.set es.toArray ep t}
 ok:TOk t P
 len:P.length=es.length
 room:P.length*5<t.mask*3
 led:t.led=false->w.params.followText "set-order"=true
theorem SetG.fits{w:World}{g:Heap}{S:Addr}{es:List (Int×Value)}{ep:Nat}{t:SetTable}{P:List Nat}(h:SetG w g S es ep t P):t.fits es.toArray.size=true :=
 zhl h.ok h.len (by have:=h.room;lia)
theorem SetG.few{w:World}{g:Heap}(h:SetG w g S es ep t P):P.length<=76:=by have:=h.room;rcases h.ok.mm with e|e|e<;>rw[e]at this<;>lia
def ye7(P:List Nat)(i:Nat):Nat:=if i=0 then 0 else P.getD (i-1) 0+1
theorem zmx(so:P.Pairwise (·<·)){i:Nat}(hi:i<=P.length):SetTable.below P.toArray (ye7 P i)=i:=by
 refine zjc so hi fun i' x e=>?_;unfold ye7;split
 .rename_i z;subst z;lia
 .have e0:P[i-1]?=some (P.getD (i-1) 0):=by rw[zx6,zxu (by lia)];rfl
  have:=znz so e0 e;lia
section
variable {prog:Program}{w:World}{A:Around}{E:Value->Shared->Prop}{s:Shared}
theorem zks{Q:Value->Shared->Prop}(hh:A.handled=none)(hS:SetG w s.heap S es ep t P)(q:∀(I:Addr)(fp:List Addr)(g:Heap)(d:_)(ord:List (Int×Value))(St:Nat->Heap->Prop),ord.Perm es->(∀b o,s.heap.get? b=some o->g.get? b=some o)->s.heap.objs.size<=I->(∀b∈fp,b=S\/s.heap.objs.size<=b/\b<g.objs.size)->Walks prog w A I fp [I] ord.length (fun i v=>∃e,ord[i]?=some e/\v=e.2) St->St 0 g->Q (.ref I) {s with heap:=g,drawn:=d}):wpAny (model prog w) A (pyIter (.ref S)) Q E s:=by
 have hT:s.TypeIs (.ref S) "set":=⟨_,hS.ob,rfl⟩;have hlt:S<s.heap.objs.size:=zx5 hS.ob;have hf:=hS.fits;refine wpAny_pyIter_slot hT zkp (zyd zkp hT zs7 ?_ (ztm _));unfold Builtin.«frozenset.__iter__»;refine zxq (show wpAny _ _ (pure S) _ _ _ from zxs ?_);unfold Builtin.Frozenset.sizeOf;refine zxq (zxq (wpAny_setEntries_of hS.ob rfl hf (zxs ?_)));unfold setDrawn;refine zxq (zxq (wpAny_setState_of hS.ob rfl hf ?_));dsimp only;unfold setsByText;refine zxq (zxq (wpAny_askSetting (zxs ?_)));refine zxs ?_;have hz:es.toArray.size<=76:=by rw[zyl,<-hS.len];exact hS.few
 have hne:∀g:Heap,s.heap.objs.size<=g.objs.size->S≠g.objs.size:=fun g h=>zye (zy9 hlt h);refine wpAny_ite_split (fun hab=>?_) (fun hab=>?_)
 .refine wpAny_bind (zm9 _ (List.range es.toArray.size) s (by simp) fun ys d hp=>?_);have hyl:ys.length=es.length:=by rw[hp.length_eq,zy2,zyl]
  refine zxq (wpAny_newTuple ?_ (by rw[zxt,hyl,ub5];rw[zyl]at hz;lia));refine zxq (wpAny_setEpoch_of (zxr _ hS.ob) rfl hf ?_);refine zxq (zyj (zxs ⟨_,rfl, "set_iterator",_,⟨_,zxx _ rfl,rfl⟩,zbl.lookup,?_⟩));have hD:s.heap.objs.size≠(s.heap.push (seqObj "tuple" (ys.map fun(i:Nat)=>rawInt i).toArray 0)).objs.size:=by rw[zyb];exact zye (zy8 _)
  have hI:s.heap.objs.size<=(s.heap.push (seqObj "tuple" (ys.map fun(i:Nat)=>rawInt i).toArray 0)).objs.size:=by rw[zyb];exact Nat.le_succ _
  have hy:∀p∈ys,p<es.length:=fun p hp'=>by have:=List.mem_range.mp (hp.mem_iff.mp hp');simpa using this
  have W:=zjh (prog:=prog) (w:=w) (A:=A) (I:=(s.heap.push (seqObj "tuple" (ys.map fun(i:Nat)=>rawInt i).toArray 0)).objs.size) (S:=S) (D:=s.heap.objs.size) (n:=es.toArray.size) (ep:=ep) (m:=0) (es:=es) (t:=t) (ys:=ys) (oD:=seqObj "tuple" (ys.map fun(i:Nat)=>rawInt i).toArray 0) hh (hne _ hI) hD rfl hf (by simp) hy;refine q _ _ _ d (ys.map fun p=>es.getD p (0,.none)) _ ?_ (fun b o e=>Heap.get?_push_of_some _ (Heap.get?_push_of_some _ e)) hI (fun b hb=>?_) (znt W (by simp) fun i v hv=>?_) ⟨Heap.get?_push_size _ rfl,Heap.get?_push_of_some _ (Heap.get?_push_of_some _ hS.ob),Heap.get?_push_of_some _ (Heap.get?_push_size _ rfl)⟩
  .have:=hp.map fun p=>es.getD p (0,Value.none);rw[zyl,<-zey]at this;exact this
  .rw[zyb,zyb];simp only[List.mem_cons,List.not_mem_nil,or_false]at hb;rcases hb with rfl|rfl|rfl
   .right;rw[zyb];exact⟨Nat.le_succ _,zy8 _⟩
   .exact .inl rfl
   .right;exact⟨zx3 _,Nat.lt_succ_of_lt (zy8 _)⟩
  .obtain⟨p,e,h1,h2,h3⟩:=hv;exact⟨e,by simp[h1,h2],h3⟩
 .refine zxq (zxs ?_);refine zxq (wpAny_setEpoch_of hS.ob rfl hf ?_);refine zxq (zyj (zxs ⟨_,rfl, "set_iterator",_,⟨_,zxx _ rfl,rfl⟩,zbl.lookup,?_⟩));have fpo:∀o:Obj,∀b∈[s.heap.objs.size,S],b=S\/s.heap.objs.size<=b/\b<(s.heap.push o).objs.size:=fun o b hb=>by
   simp only[List.mem_cons,List.not_mem_nil,or_false]at hb;rcases hb with rfl|rfl
   .right;rw[zyb];exact⟨zx3 _,zy8 _⟩
   .exact .inl rfl
  cases hb:w.params.followText "set-order" with
  |true=>
   have W:=zhw (prog:=prog) (w:=w) (A:=A) (I:=s.heap.objs.size) (S:=S) (n:=es.toArray.size) (ep:=ep) (es:=es) (ord:=(pickOrder (w.params.setOrder S ep) es.toArray).toList) (t:=t) (sl:=fun _=>0) hh (hne _ (Nat.le_refl _)) hf (by simp)
    (fun i hi e he s A Q E ho h=>zgl ho hf hb (by rw[<-zx9,he];exact h))
    (fun s A Q E ho h=>zgl ho hf hb (by rw[zx1,Array.getElem?_eq_none (zx3 _)];exact h))
   exact q _ _ _ s.drawn _ _ (by simpa using zk9 (w.params.setOrder S ep) es.toArray) (fun b o e=>Heap.get?_push_of_some _ e) (Nat.le_refl _) (fpo _) W ⟨Heap.get?_push_size _ rfl,Heap.get?_push_of_some _ hS.ob⟩
  |false=>
   have hl:t.led=true:=by
    cases e:t.led with
    |true=>rfl
    |false=>rw[hS.led e]at hb;cases hb
   have hd:(!t.plain&&decide (es.toArray.size>1))=false:=by
    cases e:(!t.plain&&decide (es.toArray.size>1))with
    |false=>rfl
    |true=>refine absurd ?_ hab;show(!w.params.followText "set-order"&&(!t.plain&&decide (es.toArray.size>1)))=true;rw[hb,e];rfl
   have hlen:P.length=es.length:=hS.len;have W:=zhw (prog:=prog) (w:=w) (A:=A) (I:=s.heap.objs.size) (S:=S) (n:=es.toArray.size) (ep:=ep) (es:=es) (ord:=es) (t:=t) (sl:=ye7 P) hh (hne _ (Nat.le_refl _)) hf (by simp)
    (fun i hi e he s A Q E ho h=>ze9 ho hf hb hl hd (by rw[hS.ok.pl];exact zmx hS.ok.so (by lia)) (by rw[hS.ok.pl,List.getElem?_toArray,he,List.getElem?_toArray,zxu (by lia)];rw[ye7,if_neg (by lia),Nat.add_sub_cancel,zx6,zxu (by lia)]at h;exact h))
    (fun s A Q E ho h=>ze9 ho hf hb hl hd (by
     rw[hS.ok.pl,<-hlen];exact zmx hS.ok.so (zx3 _)) (by
     rw[List.getElem?_toArray,ud7 (zx3 _)];exact h))
   exact q _ _ _ s.drawn _ _ (.refl _) (fun b o e=>zxr _ e) (zx3 _) (fpo _) W ⟨zxx _ rfl,zxr _ hS.ob⟩
end
section
variable {prog:Program}{w:World}{A:Around}{E:Value->Shared->Prop}{s:Shared}
theorem zg9{R:Result->Shared->Prop}{Z:Addr}(hh:A.handled=none)(hS:SetG w s.heap S es ep t P)(hne:Z≠S)(res:Value)(c₀:Nat)(hZ:s.heap.get? Z=some {cls:=.type "list",data:=.seq #[] c₀})(hR:∀h' tk d(ord:List (Int×Value))c',ord.Perm es->(∀b o,b≠Z->s.heap.get? b=some o->h'.get? b=some o)->h'.get? Z=some {cls:=.type "list",dict:=none,data:=.seq (ord.map (·.2)).toArray c',slots:=#[]}->R (.ok (.ret res)) {s with heap:=h',toks:=tk,drawn:=d}):wpAny (model prog w) A.in1 (Builtin.List.listExtendWith (.ref Z) (.ref S) res) (fun fin s'=>match fin with|.done f=>R (.ok f) s'|.again c'=>c'.quiet=true/\codeAny (model prog w) A c' R s') (fun e s'=>R (.error e) s') s:=by
 have hZl:Z<s.heap.objs.size:=zx5 hZ;have hT:s.TypeIs (.ref S) "set":=⟨_,hS.ob,rfl⟩;unfold Builtin.List.listExtendWith;refine zxq (wpAny_typeOf (T:="set") hT ?_);have h1:Builtin.List.listSameRef (.ref Z) (.ref S)=false:=by simp[Builtin.List.listSameRef,hne]
 have k1:(Value.type "set"==Value.type "list")=false:=by decide
 have k2:(Value.type "set"==Value.type "tuple")=false:=by decide
 simp only[h1,k1,k2,Bool.or_false,Bool.false_eq_true,if_false];refine zxq (zks (A:=A.in1) hh hS fun I fp g d ord St hp hk hI hfp W st=>?_);have hZf:Z∉fp:=fun z=>(hfp Z z).elim hne fun z=>absurd hZl (Nat.not_lt.mpr z.1);have hol:ord.length<=sizeLine:=by have:=hS.few;rw[hp.length_eq,<-hS.len,ub5];lia
 have key:∀(h:Heap)(c₁ tk:Nat),St 0 h->(∀b o,b≠Z->s.heap.get? b=some o->h.get? b=some o)->
   h.get? Z=some {cls:=.type "list",data:=.seq #[] c₁}->codeAny (model prog w) A (.builtin "list.extend.loop" ⟨[.ref Z,.ref I,res],[]⟩) R {s with heap:=h,toks:=tk,drawn:=d}:=by
  intro h c₁ tk hst hk' hZ₁;refine codeAny_extend_loopS W.toS hol Z hZf res ord.length 0 _ #[] c₁ rfl (zyg _) hst hZ₁ (ItemsOf.nil _) fun s' acc' c' hm hZ' hacc=>?_;rw[Moved.eq_with hm];have ea:acc'=(ord.map (·.2)).toArray:=by
   apply Array.toList_inj.mp;apply List.ext_getElem?;intro i;by_cases hi:i<ord.length
   .have hi':i<acc'.size:=by rw[hacc.1];exact hi
    obtain⟨e,he,hv⟩:=hacc.2 i acc'[i] (by simp[hi']);rw[zx9,ub2 hi',hv];simp[he]
   .rw[ud7 (by rw[Array.length_toList,hacc.1];lia),ud7 (by simp;lia)]
  subst ea;refine hR s'.heap s'.toks d ord c' hp (fun b o hb e=>hm.heap b o (fun hmem=>?_) (hk' b o hb e)) hZ';rcases omc hmem with e'|hmem
  .exact hb e'
  .exact absurd (zx5 e) (by rw[omg hmem];exact Nat.not_lt.mpr hI)
 have hT₁:Shared.TypeIs {s with heap:=g,drawn:=d} (.ref S) "set":=⟨_,hk _ _ hS.ob,rfl⟩;have hZ₁:=hk _ _ hZ;refine zxq (uc2 (zo0 hT₁ ?_));refine wpAny_ite_split (fun _=>?_) (fun _=>zxs ⟨plainId_quiet PySem.F.plain_extend_loop _,key _ c₀ _ st (fun b o _ e=>hk b o e) hZ₁⟩);refine zxq (wpAny_rule ?_);refine zxq ?_;show wpAny _ _ (updateSeq Z (·.push .none) >>= fun _=>updateSeq Z (·.pop)) _ _ _;refine zxq (wpAny_updateSeq hZ₁ rfl ?_);have hS₂:=Heap.get?_update_self (Obj.mapSeq (·.push Value.none)) hZ₁ rfl;refine wpAny_updateSeq (hz:=by seq_fits) hS₂ rfl ?_;have hS₃:=Heap.get?_update_self (Obj.mapSeq (·.pop)) hS₂ rfl;refine zxs ⟨plainId_quiet PySem.F.plain_extend_loop _,key _ _ _ ?_ (fun b o hb e=>?_) hS₃⟩
 .refine W.frame 0 _ _ st fun b hb o e=>?_;have hbS:b≠Z:=fun h=>hZf (h▸hb);exact(Heap.get?_update_other _ _ (Ne.symm hbS)).trans ((Heap.get?_update_other _ _ (Ne.symm hbS)).trans e)
 .exact(Heap.get?_update_other _ _ (Ne.symm hb)).trans ((Heap.get?_update_other _ _ (Ne.symm hb)).trans (hk b o e))
theorem zgg{R:List Value->Shared->Prop}(hh:A.handled=none)(hS:SetG w s.heap S es ep t P)(h:∀(h':Heap)(tk:Nat)(d:_)(ord:List (Int×Value)),ord.Perm es->(∀b o,s.heap.get? b=some o->h'.get? b=some o)->R (ord.map (·.2)) {s with heap:=h',toks:=tk,drawn:=d}):wpAny (model prog w) A (collect (.ref S)) R E s:=by
 have hlt:S<s.heap.objs.size:=zx5 hS.ob;unfold collect;refine zxq (wpAny_runValue (codeAny_builtin entry_proto_collect' ?_));rw[Around.under_plainId PySem.F.plain_proto_collect _];show wpAny _ A.in1 (newList [] >>= fun l=>again (.builtin "list.__iadd__" ⟨[l,.ref S],[]⟩)) _ _ s;refine zxq (zyj ?_);refine zxs ⟨plainId_quiet PySem.F.plain_list_iadd _,codeAny_builtin entry_list_iadd' ?_⟩;rw[Around.under_plainId PySem.F.plain_list_iadd _];have hS₁:(s.heap.push {cls:=.type "list",data:=.seq ([]:List Value).toArray}).get? s.heap.objs.size=some {cls:=.type "list",data:=.seq #[]}:=zxx _ rfl;show wpAny _ A.in1 (Builtin.List.listExtendWith (.ref s.heap.objs.size) (.ref S) (.ref s.heap.objs.size)) _ _ _;have hS':SetG w (s.heap.push {cls:=.type "list",data:=.seq ([]:List Value).toArray}) S es ep t P :=
  ⟨zxr _ hS.ob,hS.ok,hS.len,hS.room,hS.led⟩
 have key:=zg9 (prog:=prog) (A:=A) (s:={s with heap:=s.heap.push {cls:=.type "list",data:=.seq ([]:List Value).toArray} })
  (R:=fun(q:Result)(s':Shared)=>∃(h':Heap)(tk:Nat)(d:_)(ord:List (Int×Value))(c':Nat),q=.ok (.ret (.ref s.heap.objs.size))/\s'={s with heap:=h',toks:=tk,drawn:=d}/\ord.Perm es /\
   (∀b o,s.heap.get? b=some o->h'.get? b=some o)/\h'.get? s.heap.objs.size=some {cls:=.type "list",dict:=none,data:=.seq (ord.map (·.2)).toArray c',slots:=#[]})
  hh hS' (Nat.ne_of_gt hlt) (.ref s.heap.objs.size) 0 hS₁
  (fun h' tk d ord c' hp hk hS'=>⟨h',tk,d,ord,c',rfl,rfl,hp,fun b o e=>hk b o (zye (zx5 e)) (zxr _ e),hS'⟩)
 refine zyt key (fun fin s' x=>?_) fun e s' x=>?_
 .cases fin with
  |done f=>obtain⟨h',tk,d,ord,c',e,rfl,hp,hk,hS'⟩:=x;cases e;show wpAny _ A (load s.heap.objs.size >>= _) _ _ _;refine zxq (wpAny_load hS' ?_);exact zxs (h h' tk d ord hp hk)
  |again c₁=>refine⟨x.1,codeAny_mono x.2 fun q s₂ y=>?_⟩;obtain⟨h',tk,d,ord,c',rfl,rfl,hp,hk,hS'⟩:=y;show wpAny _ A (load s.heap.objs.size >>= _) _ _ _;refine zxq (wpAny_load hS' ?_);exact zxs (h h' tk d ord hp hk)
 .obtain⟨_,_,_,_,_,e',_⟩:=x;cases e'
end
end Nb
section
namespace Nb
open PySem Spec PyProof.Rows Ev
variable {Y:Yc}{N:Str->Nat->Prop}{F:Fz}{s:Shared}{r:Ev.Env}{E:Value->Shared->Prop}{a:Expr}{f:Ev.Env->a7 T}{pos p p2 q2:Pos}{u:Value}{t x:T}
theorem zis{w:World}{kn:T->Bool}:∀{M:List (T×Value)},(∀e∈M,Kat kn w F e)->Reps w F (M.map (·.1)) (M.map (·.2))
 |[],_=>rfl
 |e::M,h=>Reps.cons (h e (.head _)).2 (zis fun z hz=>h z (.tail _ hz))
theorem zq6(hu:Y.Rm)(cm:Y.calm)(S:St Y.toPc Y.A Y.stack F s)(r:Rep Y.w F x u)(h:yb2 .sset x=some t):wpAny Y.M Y.A (call (.type "set") [u]) (fun v s1=>wpAny Y.M Y.A (call (.builtin "sorted") [v]) (Res Y.w F s t) E s1) E s:=by
 cases x with
 |lst xs=>
  replace h:(if xs.length<=1000/\xs.all isS=true/\(yb8 xs).length<=4 then ya5 (yb8 xs)else none)=some t:=h;split at h
  .rename_i hc;have hk:∀x∈xs,isS x=true:=oml hc.2.1;have h4:=hc.2.2;obtain⟨l,qc,n,rfl,fl,z,r⟩:=r;refine zph hu (S.hd cm) S.fh fl r hk h4 fun g k y kp=>?_;obtain⟨L,ep,tb,P,y,ym⟩:=y;have U:=Up.kept (k:=k) S.fh kp;refine thn (zkl (s:={s with heap:=g,toks:=k}) hu U.fh h fun R q=>zgg (A:=Y.A.in1) (S.hd cm) (es:=ybo Y.w L) ⟨y.ob,y.ok,by rw[zc5,y.len],y.room,y.led⟩ fun h' tk d ord hp hk'=>?_) fun v s2 q=>Res.mk U q;obtain⟨M,rfl,pm⟩:=zbr hp rfl;rw[zyi];refine q (M.map (·.1)) _ h' tk d ?_ (zis fun e he=>y.ks e (pm.mem_iff.mp he)) hk';obtain⟨d1,d2⟩:=znc hk;exact(pm.map (·.1)).trans ((List.perm_ext_iff_of_nodup y.nd d1).mpr fun x=>by rw[ym,d2])
  .cases h
 |_=>cases h
theorem zr6(hu:Y.Rm)(cm:Y.calm)(hg:Gl Y "sorted")(hm:Y.mg "sorted"=none)(hg2:Gl Y "set")(hm2:Y.mg "set"=none)(ha:Oke Y N a f)(hs:starEach [a] Y.env=[(false,eval a Y.env)]):Oke Y N (.Call (.Name "sorted" p) [.Call (.Name "set" p2) [a] [] q2] [] pos) fun r=>(f r).bind fun x=>yb2 .sset x:=fun{s F r t E}A q=>by
 obtain⟨x1,e1,q⟩:=obs q;refine wpAny_Call_Name_kw (zcf A hg hm (show bootBuiltins "sorted"=some (.builtin "sorted") by decide +kernel) ?_ (by decide) (by decide));refine PyProof.Rows.callWith_builtin1 ?_ rfl rfl;refine Calls.spliced_cons ?_;refine wpAny_Call_Name_kw (zcf A hg2 hm2 (show bootBuiltins "set"=some (.type "set") by decide +kernel) ?_ (by decide) (by decide));refine PyProof.Rows.callWith_type1 ?_ (by rw[hs];rfl) rfl;rw[hs];refine Calls.spliced_cons (thn (ha A e1) fun u s1 z=>?_);obtain⟨G,u1,r1⟩:=z;refine Calls.spliced_nil (thn (zq6 hu cm (A.up u1).toSt r1 q) fun v s2 z=>?_);exact Calls.spliced_nil (thn z fun _ _ z=>Res.mk u1 z)
end Nb
section
namespace Nb
open PySem Ev
def yaf:List Str->Str->a7 Nat
 |[],_=>none
 |y::r,x=>if y==x then some 0 else(yaf r x).map (·+1)
structure Tc where
 sc:Scope
 nm:List Str
def yef(sc:Scope)(x:Str):Bool:=match sc.names.lookup x with
 |some .local=>true
 |some .cell=>true
 |some .free=>true
 |_=>false
def glB(sc:Scope)(x:Str):Bool:=sc.names.lookup x==some .globalImplicit
def zai(x:Str):Bool:=!(x==("__debug__":Str))&&!(x==("__classdict__":Str))&&!(x==("__name__":Str))&&!(x==(".0":Str))
def yb0(sc:Scope)(x:Str):Bool:=zai x&&(sc.names.lookup x==some .local||sc.names.lookup x==some .cell)
def Tc.N(c:Tc)(x:Str)(i:Nat):Prop:=zai x=true/\yef c.sc x=true/\yaf c.nm x=some i
def zcb:Expr->a7 (List Str)
 |.Name x _=>some [x]
 |.Tuple es _ _=>es.mapM fun e=>match e with
  |.Name x _=>some x
  |_=>none
 |_=>none
def ybb:Expr->Bool
 |.Tuple ..=>true
 |_=>false
def ycc:List Str->Bool
 |[]=>true
 |x::r=>!r.contains x&&ycc r
def zc7(out sc:Scope)(xs:List Str):Bool :=
 sc.kind==.function&&ycc xs&&(xs.all (yb0 sc)) &&
 (sc.names.all fun p=>match p.2 with
  |.free=>(sc.names.lookup p.1==some .free)&&(out.names.lookup p.1==some .cell||out.names.lookup p.1==some .free)
  |.local=>(sc.names.lookup p.1==some .local)&&(xs.contains p.1||p.1==(".0":Str))
  |.cell=>(sc.names.lookup p.1==some .cell)&&xs.contains p.1
  |_=>true)
theorem zbj:∀{l:List Str}{x:Str}{i:Nat},yaf l x=some i->l[i]?=some x
 |[],_,_,h=>by cases h
 |y::r,x,i,h=>by
  unfold yaf at h;split at h
  .rename_i e;cases h;rw[ua2 e];rfl
  .obtain⟨j,hj,rfl⟩:=oms h;simpa using zbj hj
theorem zfb:∀{l r:List Str}{x:Str}{i:Nat},yaf (l++r) x=some i->(yaf l x=some i/\i<l.length)\/(x∉l/\l.length<=i/\yaf r x=some (i-l.length))
 |[],r,x,i,h=>.inr ⟨by simp,Nat.zero_le _,by simpa using h⟩
 |y::l,r,x,i,h=>by
  rw[List.cons_append,yaf]at h;split at h
  .rename_i e;cases h;left;rw[yaf,if_pos e];exact⟨rfl,by simp⟩
  .rename_i e;obtain⟨j,hj,rfl⟩:=oms h;rcases zfb hj with⟨h1,h2⟩|⟨h1,h2,h3⟩
   .left;rw[yaf,if_neg e,h1];exact⟨rfl,by simpa using h2⟩
   .right;refine⟨fun z=>?_,by simpa using h2,?_⟩
    .rcases omc z with q|q
     .exact e (by rw[q];exact ua9 _)
     .exact h1 q
    .rw[h3,zya,show j+1-(l.length+1)=j-l.length by lia]
theorem zgk:∀{xs:List Str},ycc xs=true->xs.Nodup
 |[],_=>ud1
 |x::r,h=>by simp only[ycc,Bool.and_eq_true,Bool.not_eq_true']at h;refine ua7.mpr ⟨fun z=>?_,zgk h.2⟩;have:=h.1;rw[List.contains_iff_mem.mpr z]at this;cases this
structure CsB(out sc:Scope)(xs:List Str):Prop where
 kind:sc.kind=.function
 nd:xs.Nodup
 own:∀x∈xs,zai x=true/\(sc.names.lookup x=some .local\/sc.names.lookup x=some .cell)
 free:∀y∈sc.names,y.2=.free->sc.names.lookup y.1=some .free/\(out.names.lookup y.1=some .cell\/out.names.lookup y.1=some .free)
 loc:∀y∈sc.names,y.2=.local->sc.names.lookup y.1=some .local/\(y.1∈xs\/y.1=".0")
 cel:∀y∈sc.names,y.2=.cell->sc.names.lookup y.1=some .cell/\y.1∈xs
theorem zfr{sc:Scope}{x:Str}(h:yb0 sc x=true):zai x=true/\(sc.names.lookup x=some .local\/sc.names.lookup x=some .cell):=by simpa[yb0,Bool.and_eq_true,Bool.or_eq_true]using h
theorem zqq{out sc:Scope}{xs:List Str}(h:zc7 out sc xs=true):CsB out sc xs:=by
 simp only[zc7,Bool.and_eq_true]at h;obtain⟨⟨⟨h1,h2⟩,h3⟩,h4⟩:=h;have all:=oml h4;refine⟨by simpa using h1,zgk h2,fun x hx=>zfr (oml h3 x hx),fun y hy e=>?_,fun y hy e=>?_,fun y hy e=>?_⟩<;>(have q:=all y hy;rw[e]at q;simp only[Bool.and_eq_true,Bool.or_eq_true,beq_iff_eq]at q)
 .exact q
 .exact⟨q.1,q.2.imp (fun z=>List.contains_iff_mem.mp z) id⟩
 .exact⟨q.1,List.contains_iff_mem.mp q.2⟩
end Nb
namespace L2
open PySem
variable {scope:Scope}{env:Env}
def zao(env:Env):List (Str×NameKind)->List (Str×Addr)->List (Str×Addr)
 |[],acc=>acc
 |(n,k)::r,acc=>if k==.free then zao env r ((n,(env.cells.lookup n).getD 0)::acc)else zao env r acc
theorem zev{env:Env}(f:Str×NameKind->List (Str×Addr)->Sem (ForInStep (List (Str×Addr))))(hf:∀n k cs,f (n,k) cs=if k==.free then(do let a <-cellOf env n;pure (ForInStep.yield ((n,a)::cs)))else pure (.yield cs)):∀(names:List (Str×NameKind))(acc:List (Str×Addr)),(∀y∈names,y.2=.free->∃c,env.cells.lookup y.1=some c)->(forIn names acc f:Sem _)=pure (zao env names acc)
 |[],acc,_=>rfl
 |(n,k)::r,acc,h=>by
  rw[List.forIn_cons,hf];unfold zao;by_cases hk:(k==.free)=true
  .rw[if_pos hk,if_pos hk];obtain⟨c,hc⟩:=h (n,k) List.mem_cons_self (by simpa using hk);have e:cellOf env n=pure c:=by unfold cellOf;rw[hc]
   rw[e,hc];simp only[pure_bind,Option.getD_some];exact zev f hf r _ fun y hy=>h y (zyh _ hy)
  .rw[if_neg hk,if_neg hk];simp only[pure_bind];exact zev f hf r _ fun y hy=>h y (zyh _ hy)
theorem zb8(h:∀y∈scope.names,y.2=.free->∃c,env.cells.lookup y.1=some c):closureFor scope env=pure (zao env scope.names []):=by simp only[closureFor];rw[zev (env:=env) _ (fun n k cs=>by by_cases hk:(k==NameKind.free)=true<;>simp[hk]) scope.names [] h];simp only[pure_bind]
theorem zdw{env:Env}:∀(names:List (Str×NameKind))(acc:List (Str×Addr)),(∀x c,acc.lookup x=some c->env.cells.lookup x=some c)->(∀y∈names,y.2=.free->∃c,env.cells.lookup y.1=some c) ->∀x c,(zao env names acc).lookup x=some c->env.cells.lookup x=some c
 |[],acc,h,_,x,c,e=>h x c e
 |(n,k)::r,acc,h,hn,x,c,e=>by
  unfold zao at e;have hr:∀y∈r,y.2=.free->∃c,env.cells.lookup y.1=some c:=fun y hy=>hn y (zyh _ hy);by_cases hk:(k==.free)=true
  .rw[if_pos hk]at e;obtain⟨c',hc'⟩:=hn (n,k) List.mem_cons_self (by simpa using hk);refine zdw r _ (fun x c e=>?_) hr x c e;rw[zyp]at e;cases hb:x==n with
   |true=>rw[hb]at e;have e':some ((env.cells.lookup n).getD 0)=some c:=e;rw[hc']at e';cases e';rw[ue3.mp hb];exact hc'
   |false=>rw[hb]at e;exact h x c e
  .rw[if_neg hk]at e;exact zdw r acc h hr x c e
theorem zc8{env:Env}{x:Str}:∀(names:List (Str×NameKind))(acc:List (Str×Addr)),((x,NameKind.free)∈names\/(acc.lookup x).isSome=true)->((zao env names acc).lookup x).isSome=true
 |[],acc,h=>h.elim (fun z=>nomatch z) id
 |(n,k)::r,acc,h=>by
  unfold zao;have up:∀a:Addr,(acc.lookup x).isSome=true->(List.lookup x ((n,a)::acc)).isSome=true:=fun a z=>by
   rw[zyp];cases x==n with
   |true=>rfl
   |false=>exact z
  by_cases hk:(k==.free)=true
  .rw[if_pos hk];refine zc8 r _ ?_;rcases h with h|h
   .rcases omc h with e|e
    .cases e;right;rw[zyp,ua9];rfl
    .exact .inl e
   .exact .inr (up _ h)
  .rw[if_neg hk];refine zc8 r _ ?_;rcases h with h|h
   .rcases omc h with e|e
    .cases e;exact absurd rfl hk
    .exact .inl e
   .exact .inr h
theorem yda{x:Str}{names:List (Str×NameKind)}(hn:∀y∈names,y.2=.free->∃c,env.cells.lookup y.1=some c)(h:(x,NameKind.free)∈names):(zao env names []).lookup x=env.cells.lookup x:=by obtain⟨c,hc⟩:=Option.isSome_iff_exists.mp (zc8 (env:=env) names [] (.inl h));rw[hc,zdw names [] (fun _ _ e=>by cases e) hn x c hc]
theorem zb2:∀(names:List (Str×NameKind))(n:Nat)(acc:List (Str×Addr)),cellsFrom n names acc=cellsFrom n names []++acc
 |[],n,acc=>rfl
 |(x,k)::r,n,acc=>by
  unfold cellsFrom;by_cases hk:(k==.cell)=true
  .rw[if_pos hk,if_pos hk,zb2 r (n+1) ((x,n)::acc),zb2 r (n+1) [(x,n)],zyz];rfl
  .rw[if_neg hk,if_neg hk];exact zb2 r n acc
theorem zc9{x:Str}{c:Addr}:∀(names:List (Str×NameKind))(n:Nat),(x,c)∈cellsFrom n names []->n<=c/\(x,NameKind.cell)∈names
 |[],n,h=>by cases h
 |(y,k)::r,n,h=>by
  unfold cellsFrom at h;by_cases hk:(k==.cell)=true
  .rw[if_pos hk,zb2]at h;have ek:k=.cell:=by simpa using hk
   rcases oma h with h|h
   .obtain⟨h1,h2⟩:=zc9 r (n+1) h;exact⟨by lia,zyh _ h2⟩
   .have e:(x,c)=(y,n):=by simpa using h
    cases e;exact⟨zx3 _,by rw[ek];exact zyo⟩
  .rw[if_neg hk]at h;obtain⟨h1,h2⟩:=zc9 r n h;exact⟨h1,zyh _ h2⟩
theorem zew{x:Str}:∀(names:List (Str×NameKind))(n:Nat)(acc:List (Str×Addr)),((x,NameKind.cell)∈names\/(acc.lookup x).isSome=true)->((cellsFrom n names acc).lookup x).isSome=true
 |[],_,acc,h=>h.elim (fun z=>nomatch z) id
 |(y,k)::r,n,acc,h=>by
  unfold cellsFrom;by_cases hk:(k==.cell)=true
  .rw[if_pos hk];refine zew r _ _ ?_;rcases h with h|h
   .rcases omc h with e|e
    .cases e;right;rw[zyp,ua9];rfl
    .exact .inl e
   .right;rw[zyp];cases x==y with
    |true=>rfl
    |false=>exact h
  .rw[if_neg hk];refine zew r _ _ ?_;rcases h with h|h
   .rcases omc h with e|e
    .cases e;exact absurd rfl hk
    .exact .inl e
   .exact .inr h
theorem ycd{x:Str}{c:Addr}{names:List (Str×NameKind)}{n:Nat}{acc:List (Str×Addr)}(h:(cellsFrom n names acc).lookup x=some c):(x,c)∈cellsFrom n names []\/((cellsFrom n names []).lookup x=none/\acc.lookup x=some c):=by
 rw[zb2,List.lookup_append]at h;cases e:(cellsFrom n names []).lookup x with
 |none=>rw[e]at h;exact .inr ⟨rfl,by simpa using h⟩
 |some d=>
  rw[e]at h;have h':some d=some c:=by simpa using h
  cases h';exact .inl (mem_of_lookup e)
section
variable {M:Model}{A:Around}{E:Value->Shared->Prop}{s:Shared}
theorem zok{globals:Addr}{cl:List (Str×Addr)}{qual:Str}{Q:Env->Shared->Prop}(hQ:Q {scope:=scope,locals:=s.heap.objs.size,globals:=globals,cells:=cellsFrom (s.heap.objs.size+1) scope.names cl,qual:=qual,func:=none,code:=env.code,frame:=env.frame,builtins:=env.builtins} {s with heap:=pushCells (s.heap.push {cls:=.type "dict",data:=.dict #[]}) scope.names}):wpAny M A (newFunctionEnv scope globals cl [] qual none .none (some env)) Q E s:=by
 simp only[newFunctionEnv,Option.isSome_some,if_true];refine zxq (wpAny_alloc ?_);refine wpAny_bind (wpAny_layCells _ (fun name kind cells=>by cases hkc:kind==NameKind.cell<;>simp[]) _ _ _ _ ?_);rw[show({s with heap:=s.heap.push {cls:=.type "dict",data:=.dict #[]} }:Shared).heap.objs.size=s.heap.objs.size+1 from zyb ..];simp only[List.forIn_nil,pure_bind];exact zxs hQ
end
end L2
section
namespace Nb
open PySem Spec PyProof.Rows Ev L2
theorem zco{env:PySem.Env}:∀(names:List (Str×NameKind))(x:Str),(names.map fun(n,k)=>if(k==NameKind.free&&env.scope.kind==.function&&env.kindOf n==some .cell)then(n,NameKind.cell)else(n,k)).lookup x =(match names.lookup x with|some .free=>if(env.scope.kind==.function&&env.kindOf x==some .cell)then some .cell else some .free|o=>o)
 |[],_=>rfl
 |(n,k)::r,x=>by
  rw[zxz];cases hx:x==n with
  |false=>
   have e:∀k',List.lookup x ((n,k')::(r.map fun(n,k)=>if(k==NameKind.free&&env.scope.kind==.function&&env.kindOf n==some .cell)then(n,NameKind.cell)else(n,k)))=List.lookup x (r.map fun(n,k)=>if(k==NameKind.free&&env.scope.kind==.function&&env.kindOf n==some .cell)then(n,NameKind.cell)else(n,k)):=fun k'=>by rw[zyp,hx]
   have e2:List.lookup x ((n,k)::r)=List.lookup x r:=by rw[zyp,hx]
   rw[e2,<-zco r x];show List.lookup x ((if(k==NameKind.free&&env.scope.kind==.function&&env.kindOf n==some .cell)=true then(n,NameKind.cell)else(n,k))::_)=_;by_cases hc:(k==NameKind.free&&env.scope.kind==.function&&env.kindOf n==some .cell)=true
   .rw[if_pos hc];exact e _
   .rw[if_neg hc];exact e _
  |true=>
   have en:x=n:=ue3.mp hx;subst en;have e2:List.lookup x ((x,k)::r)=some k:=by rw[zyp,ua9]
   rw[e2];have e:∀k',List.lookup x ((x,k')::(r.map fun(n,k)=>if(k==NameKind.free&&env.scope.kind==.function&&env.kindOf n==some .cell)then(n,NameKind.cell)else(n,k)))=some k':=fun k'=>by rw[zyp,ua9]
   cases k<;>simp only[beq_self_eq_true,Bool.true_and,Bool.false_and,Bool.false_eq_true,if_false,show(NameKind.local==NameKind.free)=false from rfl,show(NameKind.cell==NameKind.free)=false from rfl,show(NameKind.globalExplicit==NameKind.free)=false from rfl,show(NameKind.globalImplicit==NameKind.free)=false from rfl]<;>first|exact e _|(split<;>exact e _)
structure ScR(Y:Yc)(sc:Scope):Prop where
 gl:∀x,glB sc x=true->Gl Y x
 cap:∀x,sc.names.lookup x=some .cell\/sc.names.lookup x=some .free->Y.env.kindOf x=some .cell\/Y.env.kindOf x=some .free
def ya1(Y:Yc)(scope:Scope)(L:Addr):Yc:={Y with
 env:={scope:=relabel scope Y.env,locals:=L,globals:=Y.env.globals,cells:=cellsFrom (L+1) scope.names (zao Y.env scope.names []),qual:=Y.env.qual,func:=none,code:=Y.env.code,frame:=Y.env.frame,builtins:=Y.env.builtins},I:=fun _=>True}
def yd9(Y:Yc)(scope:Scope)(L:Addr)(xs:List Str)(F:Fz)(s:Shared):Bd:={ya1 Y scope L with tbp:=[],N:=xs,F0:=F,s0:=s}
variable {Y:Yc}{out scope:Scope}{L:Addr}{xs nm:List Str}{F F3 G:Fz}{s s3:Shared}{r:Ev.Env}{N:Str->Nat->Prop}
theorem zce{l:List (Str×NameKind)}{x:Str}{k:NameKind}(h:l.lookup x=some k):(x,k)∈l:=PySem.mem_of_lookup h
theorem zda(x:Str):(ya1 Y scope L).env.scope.names.lookup x=(match scope.names.lookup x with|some .free=>if(Y.env.scope.kind==.function&&Y.env.kindOf x==some .cell)then some .cell else some .free|o=>o):=zco scope.names x
theorem ztg(S:CsB out scope xs)(R:ScR Y out):ScR (ya1 Y scope L) scope:=⟨fun x h=>by
 show(ya1 Y scope L).env.scope.names.lookup x=_;have h:scope.names.lookup x=some .globalImplicit:=by simpa[glB]using h
 rw[zda,h],fun x h=>by
 show(ya1 Y scope L).env.scope.names.lookup x=_\/(ya1 Y scope L).env.scope.names.lookup x=_;rw[zda];rcases h with h|h<;>rw[h]
 .exact .inl rfl
 .dsimp only;split
  .exact .inl rfl
  .exact .inr rfl⟩
theorem zht(S:CsB out scope xs)(R:ScR Y out)(ok:Y.Ok):∀y∈scope.names,y.2=.free->∃c,Y.env.cells.lookup y.1=some c:=fun y hy e=>ok.has _ (R.cap _ (S.free y hy e).2)
theorem zth(S:CsB out scope xs)(R:ScR Y out)(ok:Y.Ok):(ya1 Y scope L).Ok where
 kind:=S.kind
 glob:=ok.glob
 blt:=ok.blt
 im:=fun _ z=>z
 has:=fun x h=>by
  have h':(ya1 Y scope L).env.scope.names.lookup x=some .cell\/(ya1 Y scope L).env.scope.names.lookup x=some .free:=h;rw[zda]at h';have key:(x,NameKind.cell)∈scope.names\/(x,NameKind.free)∈scope.names:=by
   cases e:scope.names.lookup x with
   |none=>rw[e]at h';rcases h' with h'|h'<;>cases h'
   |some k=>
    rw[e]at h';cases k with
    |cell=>exact .inl (zce e)
    |free=>exact .inr (zce e)
    |_=>rcases h' with h'|h'<;>cases h'
  refine Option.isSome_iff_exists.mp (zew scope.names _ _ ?_);exact key.imp id fun k=>zc8 scope.names [] (.inl k)
theorem zf5{env:PySem.Env}:∀(names:List (Str×NameKind))(acc:List (Str×Addr)){x:Str}{c:Addr},(zao env names acc).lookup x=some c->(x,NameKind.free)∈names\/acc.lookup x=some c
 |[],acc,_,_,e=>.inr e
 |(n,k)::r,acc,x,c,e=>by
  unfold zao at e;by_cases hk:(k==.free)=true
  .rw[if_pos hk]at e;rcases zf5 r _ e with h|h
   .exact .inl (.tail _ h)
   .rw[zyp]at h;cases hb:x==n with
    |true=>exact .inl (by rw[ue3.mp hb,show k=.free by simpa using hk];exact .head _)
    |false=>rw[hb]at h;exact .inr h
  .rw[if_neg hk]at e;exact(zf5 r _ e).imp (.tail _) id
theorem zez(S:CsB out scope xs){x:Str}{c:Addr}(hx:x∈xs)(h:(ya1 Y scope L).env.cells.lookup x=some c):L+1<=c/\(x,c)∈cellsFrom (L+1) scope.names []:=by
 rcases ycd h with h|⟨_,h2⟩
 .exact⟨(zc9 scope.names _ h).1,h⟩
 .rcases zf5 scope.names [] h2 with q|q
  .have:=(S.free _ q rfl).1;rcases(S.own x hx).2 with z|z<;>rw[z]at this<;>cases this
  .cases q
theorem zwk(S:CsB out scope xs)(R:ScR Y out)(A:At Y N r F s)(u:Up F s F3 s3):(yd9 Y scope s3.heap.objs.size xs F s).Fr [] (fun _=>[]) (List.replicate xs.length .no) F3 {s3 with heap:=pushCells (s3.heap.push {cls:=.type "dict",data:=.dict #[]}) scope.names}:=by
 have keep:∀b o,s3.heap.get? b=some o->(pushCells (s3.heap.push {cls:=.type "dict",data:=.dict #[]}) scope.names).get? b=some o:=fun b o e=>pushCells_keeps _ _ b o (zxr _ e);have cok:=cellsFrom_ok scope.names (s3.heap.push {cls:=.type "dict",data:=.dict #[]}) (s3.heap.objs.size+1) [] ⟨fun _ _ hm=>(nomatch hm),List.Pairwise.nil⟩ (by rw[zyb];exact zx3 _);rw[zyb]at cok;have new:∀x∈xs,∀c,(ya1 Y scope s3.heap.objs.size).env.cells.lookup x=some c->s3.heap.get? c=none:=fun x hx c h=>Heap.get?_none_of_le (Nat.le_of_lt (zez S hx h).1);refine⟨⟨zth S R A.ok,trivial,fun u' _=>A.toSt.up u',u.old zac,fun x hx c h=>u.old (new x hx c h),fun x hx y hy c h1 h2=>name_of_addr cok.apart (zez S hx h1).2 (zez S hy h2).2,S.nd⟩,u.trans (Up.kept (k:=s3.toks) u.fh keep),?_,⟨u.fh.none zac,fun _=>none,(Heap.Ns.new s3.heap (.type "dict")).keeps (pushCells_keeps _ _)⟩,fun x hx c h=>⟨u.fh.none (new x hx c h),_,(cok.empty x c (zez S hx h).2).1⟩,fun _ _ e=>(nomatch e),fun _ z=>(nomatch z),fun _ _ _ e=>(nomatch e),fun i y sl e1 e2=>?_⟩
 .exact List.length_replicate ..
 .rw[List.getElem?_replicate]at e2;split at e2<;>cases e2;trivial
theorem zqs{pn:List (Addr×a7 Obj)}{ad:Nat->List Addr}{ts:List T}(S:CsB out scope xs)(R:ScR Y out)(A:At Y (Tc.N ⟨out,nm⟩) r F s)(h:(yd9 Y scope L xs F s).Fr pn ad (ts.map .val) G s3)(hl:ts.length=xs.length):At (ya1 Y scope L) (Tc.N ⟨scope,xs++nm⟩) (ts.map some++r) G s3:=⟨h.toSt,h.ok,trivial,fun x i t ⟨n1,n2,n3⟩ e=>by
 rcases zfb n3 with⟨h1,h2⟩|⟨h1,h2,h3⟩
 .rw[uc4 (by simpa[hl]using h2)]at e;refine h.at.get x i t (zbj h1) ?_;rw[<-e];simp[ygg,List.getElem?_map,Function.comp_def,Sl.get]
 .rw[uc3 (by simp[hl];lia)]at e;have e:r[i-xs.length]?=some (some t):=by simpa[hl]using e
  have hfree:scope.names.lookup x=some .free:=by
   unfold yef at n2;dsimp only at n2;cases q:scope.names.lookup x with
   |none=>rw[q]at n2;cases n2
   |some kd=>
    rw[q]at n2;cases kd with
    |free=>rfl
    | «local»=>
     rcases(S.loc _ (zce q) rfl).2 with z|z
     .exact absurd z h1
     .rw[show x=".0" from z]at n1;exact absurd n1 (by decide +kernel)
    |cell=>exact absurd (S.cel _ (zce q) rfl).2 h1
    |_=>cases n2
  have hm:=zce hfree;have ho:=(S.free _ hm rfl).2;have hk:=R.cap x ho;obtain⟨v,l,q⟩:=A.get x (i-xs.length) t ⟨n1,by rcases ho with z|z<;>simp[yef,z],h3⟩ e;refine⟨v,.inr ⟨?_,?_⟩,q.mono h.up.ff⟩
  .show(ya1 Y scope L).env.scope.names.lookup x=_\/(ya1 Y scope L).env.scope.names.lookup x=_;rw[zda,hfree];dsimp only;split
   .exact .inl rfl
   .exact .inr rfl
  .rcases l with⟨k,_⟩|⟨k,c,hc,z⟩
   .rcases hk with hk|hk<;>rw[hk]at k<;>cases k
   .refine⟨c,?_,z.keeps h.up.ext⟩;show(cellsFrom (L+1) scope.names (zao Y.env scope.names [])).lookup x=some c;have e0:(cellsFrom (L+1) scope.names []).lookup x=none:=by
     cases q:(cellsFrom (L+1) scope.names []).lookup x with
     |none=>rfl
     |some d=>have:=S.cel _ (zc9 scope.names _ (PySem.mem_of_lookup q)).2 rfl;rw[hfree]at this;cases this.1
    rw[zb2,List.lookup_append,e0,yda (zht S R A.ok) hm];exact hc⟩
end Nb
section
namespace Nb
open PySem Spec PyProof.Rows Ev L2
variable {is:List Nat}{fp:List Addr}{tn:Nat->Heap->Prop}{total:List T}
variable {Y:Yc}{out scope:Scope}{L:Addr}{xs nm:List Str}{F F3 G:Fz}{s s2 s3:Shared}{r:Ev.Env}{N:Str->Nat->Prop}{B:Bd}{tg iter elt:Expr}{ifs:List Expr}{pos:Pos}{E:Value->Shared->Prop}
def Tgs(B:Bd)(xs:List Str)(is:List Nat):Prop:=xs.length=is.length/\∀(j:Nat)x i,xs[j]?=some x->is[j]?=some i->B.N[i]?=some x/\Loc B.env.scope x
theorem Tgs.cons{x:Str}{i:Nat}(h:Tgs B (x::xs) (i::is)):(B.N[i]?=some x/\Loc B.env.scope x)/\Tgs B xs is:=⟨h.2 0 x i rfl rfl,by simpa using h.1,fun j y k e1 e2=>h.2 (j+1) y k (by simpa using e1) (by simpa using e2)⟩
theorem zih:∀{es:List Expr}{xs:List Str}{is:List Nat},(es.mapM fun e=>match e with|.Name x _=>some x|_=>none)=some xs->Tgs B xs is ->PGs B es is/\(assignEach es B.env).length=xs.length/\(assignEach es B.env).findIdx? (·.1)=none
 |[],xs,is,h,ha=>by
  have e:xs=[]:=by simpa using h.symm
  subst e;cases is with
  |nil=>exact⟨zrt,rfl,rfl⟩
  |cons _ _=>cases ha.1
 |e::es,xs,is,h,ha=>by
  rw[List.mapM_cons]at h;obtain⟨x,h1,h⟩:=obs h;obtain⟨xs',h2,h⟩:=obs h;cases h;cases is with
  |nil=>cases ha.1
  |cons i is=>
   obtain⟨⟨a1,a2⟩,a3⟩:=ha.cons;obtain⟨q1,q2,q3⟩:=zih h2 a3;cases e with
   |Name y pos=>
    cases h1;refine⟨zod a1 a2 q1 rfl,?_,?_⟩
    .show(assignEach es B.env).length+1=xs'.length+1;rw[q2]
    .show List.findIdx? (·.1) ((false,_)::assignEach es B.env)=none;rw[List.findIdx?_cons];simp[q3]
   |_=>cases h1
theorem zru(cm:B.calm)(h:zcb tg=some xs)(ha:Tgs B xs is)(h2:ybb tg=true->2<=xs.length):PG B tg is:=by
 cases tg with
 |Name x pos=>
  cases h;rcases is with _|⟨i,_|_⟩
  .cases ha.1
  .exact zrv ha.cons.1.1 ha.cons.1.2
  .cases ha.1
 |Tuple es k pos=>obtain⟨q1,q2,q3⟩:=zih h ha;exact zuq cm q1 (by rw[<-ha.1];exact h2 rfl) (q2.trans ha.1) q3
 |_=>cases h
theorem zdo:∀(us:List T)(front pre:List Sl),pre.length=us.length->yat (List.range' front.length us.length) us (front++pre)=some (front++us.map .val)
 |[],front,pre,h=>by
  cases pre with
  |nil=>rfl
  |cons _ _=>cases h
 |u::us,front,pre,h=>by
  cases pre with
  |nil=>cases h
  |cons p pre=>
   rw[zya,List.range'_succ,yat];have e:(front++p::pre).set front.length (.val u)=(front++[.val u])++pre:=by rw[List.set_append,if_neg (Nat.lt_irrefl _)];simp
   have e2:(front++[Sl.val u]).length=front.length+1:=by simp
   rw[e,<-e2,zdo us _ pre (by simpa using h)];simp
theorem zpk{x:T}{τ:List Sl}{r':Ev.Env}{n:Nat}(h:bnd n x r=some r')(hl:τ.length=n)(hn:n≠0):∃us:List T,us.length=n/\r'=us.map some++r/\ybs (List.range' 0 n) x τ=some (us.map .val):=by
 unfold bnd at h;split at h
 .rename_i e;subst e;cases h;rcases τ with _|⟨a,_|_⟩
  .cases hl
  .exact⟨[x],rfl,rfl,rfl⟩
  .cases hl
 .rename_i hn1;cases x with
  |tup us=>
   replace h:(if us.length=n then some (us.map some++r)else none)=some r':=h;split at h
   .rename_i e;cases h;refine⟨us,e,rfl,?_⟩;have:=zdo us [] τ (by rw[hl,e]);rw[List.length_nil,e]at this;rcases n with _|_|n
    .exact absurd rfl hn
    .exact absurd rfl hn1
    .exact this
   .cases h
  |_=>cases h
def Okf(Y:Yc)(N:Str->Nat->Prop)(ifs:List Expr)(fo:Ev.Env->a7 (a7 T)):Prop :=
 ∀{s F r c E},At Y N r F s->fo r=some c->wpAny Y.M Y.A (forIn ifs true fun c r=>if r=true then do let ok <-isTrue c Y.env (eval c Y.env);pure (ForInStep.yield ok)else pure (ForInStep.yield r)) (fun ok s'=>∃G,Up F s G s'/\if ok=true then c=none\/c=some (.bl true)else c=some (.bl false)) E s
theorem zr5:Okf Y N [] fun _=>some none:=fun A q=>by cases q;exact wpAny_tests_nil ⟨_,Up.tok A.fh,.inl rfl⟩
theorem zr4{c:Expr}{f:Ev.Env->a7 T}(h:Okb Y N c f):Okf Y N [c] fun r=>(f r).map some:=fun A q=>by
 obtain⟨t,e,rfl⟩:=oms q;refine wpAny_tests_one (thn (h A e) fun b s1 z=>?_);obtain⟨G,u,rfl⟩:=z;cases b with
 |true=>exact⟨G,u,.inr rfl⟩
 |false=>exact⟨G,u,rfl⟩
def elM(n:Nat)(r:Ev.Env)(fo:Ev.Env->a7 (a7 T))(fe:Ev.Env->a7 T)(x:T):a7 (a7 T):=(bnd n x r).bind fun r'=>(fo r').bind fun c=>match c with
  |none=>(fe r').map some
  |some (.bl true)=>(fe r').map some
  |some (.bl false)=>some none
  |some _=>none
def yb4(n:Nat)(fi:Ev.Env->a7 (List T))(fo:Ev.Env->a7 (a7 T))(fe:Ev.Env->a7 T)(r:Ev.Env):a7 T:=((fi r).bind fun qc=>if qc.length<=SZ then some qc else none).bind fun qc=>(ya4 (elM n r fo fe) qc).map .lst
theorem Walk.blk{qc:List T}{it:Addr}(W:Walk Y tg qc F fp it tn):Walk (ya1 Y scope L) tg qc F fp it tn:=⟨W.obj,W.keep,W.item,W.done,W.self⟩
structure Cend(Y:Yc)(F:Fz)(s:Shared)(C D:Addr)(total:List T)(G:Fz)(s':Shared):Prop where
 up:Up F s G s'
 c0:s.heap.get? C=none
 gc:G C=none
 ns:∃m,s'.heap.Ns C m
 d0:s.heap.get? D=none
 gd:G D=none
 ne:D≠C
 lst:∃js k,s'.heap.get? D=some {cls:=.type "list",data:=.seq js k}/\js.size<=sizeLine/\Reps Y.w G total js.toList
theorem zgy{fo:Ev.Env->a7 (a7 T)}{fe:Ev.Env->a7 T}{qc:List T}{G2:Fz}{it:Addr}(cm:Y.calm)(S:CsB out scope xs)(R:ScR Y out)(htg:zcb tg=some xs)(h2n:ybb tg=true->2<=xs.length)(hn:xs≠[])(A:At Y (Tc.N ⟨out,nm⟩) r F s)(hf:∀L,Okf (ya1 Y scope L) (Tc.N ⟨scope,xs++nm⟩) ifs fo)(he:∀L,Oke (ya1 Y scope L) (Tc.N ⟨scope,xs++nm⟩) elt fe)(u2:Up F s G2 s2)(fr:∀b∈fp,s.heap.get? b=none/\G2 b=none)(W:Walk Y tg qc G2 fp it tn)(t0:tn 0 s2.heap)(hz:qc.length<=SZ)(hcm:ya4 (elM xs.length r fo fe) qc=some total):wpAny Y.M Y.A (newList []) (fun acc qz=>wpAny Y.M Y.A (newFunctionEnv scope Y.env.globals (zao Y.env scope.names []) [] Y.env.qual none .none (some Y.env)) (fun cenv s₄=>
   codeAny Y.M Y.A (.compStart (.ListComp elt [⟨tg,iter,ifs,0⟩] scope pos) 0 (.ref it) acc {cenv with scope:=relabel scope Y.env})
    (fun res s'=>res=.ok .next/\∃D G,acc=.ref D/\Cend Y F s cenv.locals D total G s') s₄) E qz) E s2:=by
 refine zyj ?_ (by size_fits);have u3:Up F s G2 {s2 with heap:=s2.heap.push {cls:=.type "list",data:=.seq #[]} }:=u2.trans (Up.side (k:=s2.toks) u2.fh);have d0:s.heap.get? s2.heap.objs.size=none:=u2.old zac;have dG:G2 s2.heap.objs.size=none:=u2.fh.none zac;have dfp:s2.heap.objs.size∉fp:=fun hb=>by obtain⟨o,e⟩:=W.obj t0 _ hb;rw[zac]at e;cases e
 generalize hs3:({s2 with heap:=s2.heap.push {cls:=.type "list",data:=.seq #[]} }:Shared)=s3 at u3 ⊢;have d3:s3.heap.get? s2.heap.objs.size=some {cls:=.type "list",data:=.seq #[]}:=by rw[<-hs3];exact zxx _ rfl
 have t3:tn 0 s3.heap:=W.keep t0 fun b _ o e=>by rw[<-hs3];exact zxr _ e
 generalize hD:(s2.heap.objs.size:Addr)=D at d0 dG d3 dfp ⊢;refine zok ?_;have h4:=zwk S R A u3;have keep4:∀b o,s3.heap.get? b=some o->(pushCells (s3.heap.push {cls:=.type "dict",data:=.dict #[]}) scope.names).get? b=some o:=fun b o e=>pushCells_keeps _ _ b o (zxr _ e);have t4:=W.keep t3 fun b _ o e=>keep4 b o e;have pg:PG (yd9 Y scope s3.heap.objs.size xs F s) tg (List.range' 0 xs.length):=zru cm htg ⟨by simp,fun j x i e1 e2=>by
  have hj:j<xs.length:=(ome e1).1;rw[List.getElem?_range' hj]at e2;cases e2;refine⟨by simpa[yd9]using e1,?_⟩;show(ya1 Y scope s3.heap.objs.size).env.scope.names.lookup x=_\/(ya1 Y scope s3.heap.objs.size).env.scope.names.lookup x=_;rw[zda];rcases(S.own x (zx4 e1)).2 with e|e<;>rw[e]
  .exact .inl rfl
  .exact .inr rfl⟩ h2n
 have off3:∀{b},(∃o,s3.heap.get? b=some o)->s.heap.get? b=none->Off (ya1 Y scope s3.heap.objs.size) xs s [] (fun _=>[]) b:=fun{b} ⟨o,ho⟩ z=>⟨z,(fun e=>by rw[e]at ho;rw[show s3.heap.get? (ya1 Y scope s3.heap.objs.size).env.locals=none from zac]at ho;cases ho),(fun x hx c hc e=>by rw[<-e,Heap.get?_none_of_le (Nat.le_of_lt (zez S hx hc).1)]at ho;cases ho),fun _ z=>(nomatch z),fun _ z=>(nomatch z)⟩;have DC:D≠s3.heap.objs.size:=fun e=>by rw[e,zac]at d3;cases d3
 have c0:s.heap.get? s3.heap.objs.size=none:=u3.old zac;have start:∀b∈D::fp,G2 b=none/\Off (ya1 Y scope s3.heap.objs.size) xs s [] (fun _=>[]) b:=fun b hb=>by
  rcases omc hb with rfl|hb
  .exact⟨dG,off3 ⟨_,d3⟩ d0⟩
  .exact⟨(fr b hb).2,off3 (W.obj t3 b hb) (fr b hb).1⟩
 refine codeAny_compStart_list ?loop (W.self t4 ?loop);refine codeAny_loop rfl (fun n s'=>∃i ad τ G js k rs rest,(yd9 Y scope s3.heap.objs.size xs F s).Fr [] ad τ G s'/\G2.le G/\tn i s'.heap/\(∀b∈D::fp,G b=none/\Off (ya1 Y scope s3.heap.objs.size) xs s [] ad b) /\
   s'.heap.get? D=some {cls:=.type "list",data:=.seq js k}/\js.size<=i/\Reps Y.w G rs js.toList/\n+i=qc.length/\ya4 (elM xs.length r fo fe) (qc.drop i)=some rest/\rs++rest=total) ?_ qc.length
  ⟨0,_,_,_,#[],0,[],total,h4,fun _ _ e=>e,t4,start,keep4 _ _ d3,zx3 _,rfl,rfl,hcm,rfl⟩
 rintro n s5 ⟨i,ad,τ,G,js,k,rs,rest,h5,le5,t5,of5,e5,hj5,rs5,hn5,cm5,tot5⟩;have of5':∀b∈fp,G b=none/\Off (ya1 Y scope s3.heap.objs.size) xs s [] ad b:=fun b hb=>of5 b (.tail _ hb);show wpAny _ Y.A ((compTurn (.ListComp elt [⟨tg,iter,ifs,0⟩] scope pos) 0 (.ref it) (.ref D) (ya1 Y scope s3.heap.objs.size).env).onRaise (fun x=>do noteFrame x (ya1 Y scope s3.heap.objs.size).env;theTreesLotGoes x)) _ _ s5;refine wpAny_noted ?_;rw[compTurn_list];refine zxq (wpAny_standAt (zxq ?_));cases hx:qc[i]? with
 |none=>have hl:=List.getElem?_eq_none_iff.mp hx;rw[List.drop_eq_nil_of_le hl]at cm5;cases cm5;rw[zy0]at tot5;subst tot5;refine thn (W.done le5 h5.up.fh (fun b hb=>(of5' b hb).1) t5 (by lia)) fun res s6 z=>?_;obtain⟨rfl,u6⟩:=z;have h6:=Fr.turned h5 (fun b hb=>(of5' b hb).2) u6;exact zxs ⟨rfl,D,G,rfl,h6.up,c0,h6.ns.1,h6.ns.2,d0,(of5 D (.head _)).1,DC,js,k,u6.ext D _ dfp e5,zyc hj5 (by have:=zcp hz;lia),rs5⟩
 |some x=>
  obtain⟨hil,ex⟩:=ome hx;rw[List.drop_eq_getElem_cons hil,ex,ya4]at cm5;obtain⟨ro,hro,cm5⟩:=obs cm5;obtain⟨rest',cm6,cm5⟩:=obs cm5;obtain⟨r',hb,hro⟩:=obs hro;obtain⟨co,hco,hro⟩:=obs hro;obtain⟨us,l1,rfl,l3⟩:=zpk hb (τ:=τ) h5.len (fun e=>hn (List.length_eq_zero_iff.mp e));refine thn (W.item le5 h5.up.fh (fun b hb=>(of5' b hb).1) t5 hx) fun res s6 z=>?_;obtain⟨v,rfl,z⟩:=z;refine zxq (thn z fun _ s7 z=>?_);obtain⟨G7,u7,r7,t7⟩:=z;have h7:=Fr.turned h5 (fun b hb=>(of5' b hb).2) u7;have le7:=le5.trans u7.ff;have e7:=u7.ext D _ dfp e5;have rs7:=rs5.mono u7.ff;have dG7:G7 D=none:=by
   cases q:G7 D with
   |none=>rfl
   |some o=>rcases u7.nw D (by rw[q];simp)with w|w
            .exact absurd (of5 D (.head _)).1 w
            .rw[e5]at w;cases w
  have of7:∀b∈D::fp,G7 b=none/\Off (ya1 Y scope s3.heap.objs.size) xs s [] ad b:=fun b hb=>⟨by
   rcases omc hb with rfl|hb
   .exact dG7
   .exact u7.fn b hb,(of5 b hb).2⟩
  have h7p:=Fr.pinned (fp:=D::fp) h7 of7;refine zxq (no (thn (pg h7p r7 l3) fun _ s8 z=>?_));obtain⟨ad8,h8⟩:=z;refine zxq (thn (hf _ (zqs S R A h8 l1) hco) fun ok s9 z=>?_);obtain⟨G9,u9,hok⟩:=z;have h9:=h8.after u9;have pk:∀{ad' τ' G' s'},(yd9 Y scope s3.heap.objs.size xs F s).Fr ([]++ybc (D::fp) s7.heap) ad' τ' G' s'->∀b∈D::fp,∃o,s7.heap.get? b=some o/\s'.heap.get? b=some o/\G' b=none/\Off (ya1 Y scope s3.heap.objs.size) xs s [] ad' b:=fun{ad' τ' G' s'}h b hb=>by
   obtain⟨o,eo⟩:∃o,s7.heap.get? b=some o:=by
    rcases omc hb with rfl|hb
    .exact⟨_,e7⟩
    .exact W.obj t7 b hb
   obtain⟨p1,⟨p3,_⟩,p6⟩:=h.pin (b,some o) (zym _ (ud5.mpr ⟨b,hb,by rw[eo];rfl⟩));exact⟨o,eo,p3,p1.f,p1.z,p1.l,p1.c,p6,fun _ z=>(nomatch z)⟩
  cases ok with
  |false=>
   rw[if_neg zys]at hok;subst hok;cases hro;cases cm5;refine zxs ⟨rfl,n-1,by lia,i+1,ad8,_,G9,js,k,rs,_,Fr.unpin (pn:=[]) h9,le7.trans u9.ff,W.keep t7 fun b hb o e=>?_,fun b hb=>(pk h9 b hb).choose_spec.2.2,?_,by lia,rs7.mono u9.ff,by lia,cm6,tot5⟩
   .obtain⟨o',w1,w2,_⟩:=pk h9 b (.tail _ hb);rw[e]at w1;cases w1;exact w2
   .obtain⟨o',w1,w2,_⟩:=pk h9 D (.head _);rw[e7]at w1;cases w1;exact w2
  |true=>
   rw[if_pos rfl]at hok;have hro:(fe (us.map some++r)).map some=some ro:=by rcases hok with rfl|rfl<;>exact hro
   obtain⟨y,hy,rfl⟩:=oms hro;cases cm5;refine zxq (zxq (thn (he _ (zqs S R A h9 l1) hy) fun w s10 z=>?_));obtain⟨G10,u10,r10⟩:=z;have h10:=h9.after u10;obtain⟨o',w1,w2,w3,w4⟩:=pk h10 D (.head _);rw[e7]at w1;cases w1;have hsz:js.size+1<=sizeLine:=zyc (show js.size+1<=qc.length by lia) (zcp hz);refine zxq (call_meets PySem.F.slot_list_append (yeb w2) PySem.F.entry_list_append (PySem.F.args_list_append_2 _ _) (PySem.list_append D js k w (by lia)) ⟨w2,?_⟩);obtain⟨k',e11⟩:∃k',(s10.heap.update D (Obj.mapSeq fun x=>x.push w)).get? D=some {cls:=.type "list",data:=.seq (js.push w) k'}:=⟨_,by rw[Heap.get?_update_self _ w2 rfl];rfl⟩;have h11:=Fr.turned (fp:=[D]) (Fr.unpin (pn:=[]) h10) (fun b hb=>by rw[omg hb];exact w4) (UpX.one (k:=s10.toks) (h':=s10.heap.update D (Obj.mapSeq fun x=>x.push w)) h10.up.fh w3 fun b o hb e=>(Heap.get?_update_other _ _ (Ne.symm hb)).trans e);refine zxs (zxs ⟨rfl,n-1,by lia,i+1,ad8,_,G10,_,_,rs++[y],_,h11,(le7.trans u9.ff).trans u10.ff,W.keep t7 fun b hb o e=>?_,fun b hb=>(pk h10 b hb).choose_spec.2.2,e11,by rw[Array.size_push];lia,?_,by lia,cm6,by rw[zyz];exact tot5⟩)
   .obtain⟨o',w1,w2,_⟩:=pk h10 b (.tail _ hb);rw[e]at w1;cases w1;exact(Heap.get?_update_other _ _ fun z=>dfp (by rw[z];exact hb)).trans w2
   .rw[Array.toList_push];exact((rs7.mono u9.ff).mono u10.ff).app ⟨_,_,rfl,r10,rfl⟩
theorem Cend.fin{C D:Addr}{G:Fz}{h':Heap}{k:Nat}(c:Cend Y F s C D total G s2)(hs:Heap.SameBut C s2.heap h'):∃G',Up F s G' {s2 with heap:=h',toks:=k}/\Rep Y.w G' (.lst total) (.ref D)/\G' C=none:=by
 obtain⟨js,e,d1,d2,d3⟩:=c.lst;have d1':h'.get? D=some _:=(hs.2 D c.ne).trans d1;have le:G.le (fup G D {cls:=.type "list",data:=.seq js e}):=zbm c.gd;refine⟨fup G D {cls:=.type "list",data:=.seq js e},⟨fun b o e=>(hs.2 b fun z=>by rw[z,c.c0]at e;cases e).trans (c.up.ext b o e),c.up.os,c.up.bare,c.up.ff.trans le,fun b o q=>?_,fun b q=>?_⟩,⟨D,js,e,rfl,zbs,d2,d3.mono le⟩,by unfold fup;rw[if_neg (Ne.symm c.ne)];exact c.gc⟩
 .unfold fup at q;split at q
  .rename_i z;cases q;rw[z];exact d1'
  .exact(hs.2 b fun z=>by rw[z,c.gc]at q;cases q).trans (c.up.fh b o q)
 .unfold fup at q;split at q
  .rename_i z;exact .inr (by rw[z];exact c.d0)
  .exact c.up.nw b q
section
variable {fi:Ev.Env->a7 (List T)}{fo:Ev.Env->a7 (a7 T)}{fe:Ev.Env->a7 T}(cm:Y.calm)(S:CsB out scope xs)(R:ScR Y out)(htg:zcb tg=some xs)(h2n:ybb tg=true->2<=xs.length)(hn:xs≠[])(hit:OkI Y (Tc.N ⟨out,nm⟩) tg iter fi)(hfs:∀x,foldedSetIterable iter Y.env x=pure x)
 (hf:∀L,Okf (ya1 Y scope L) (Tc.N ⟨scope,xs++nm⟩) ifs fo) (he:∀L,Oke (ya1 Y scope L) (Tc.N ⟨scope,xs++nm⟩) elt fe)
include cm S R htg h2n hn hit hfs hf he
theorem zgz{t:T}(h:yb4 xs.length fi fo fe r=some t):∃qc total,fi r=some qc/\qc.length<=SZ/\ya4 (elM xs.length r fo fe) qc=some total/\t=.lst total:=by
 obtain⟨qc,h1,h⟩:=obs h;obtain⟨its',h2,h1⟩:=obs h1;split at h1
 .rename_i hz;cases h1;obtain⟨total,h3,rfl⟩:=oms h;exact⟨qc,total,h2,hz,h3,rfl⟩
 .cases h1
theorem zlo:Oke Y (Tc.N ⟨out,nm⟩) (.ListComp elt [⟨tg,iter,ifs,0⟩] scope pos) (yb4 xs.length fi fo fe):=fun A q=>by obtain⟨qc,total,h1,hz,hcm,rfl⟩:=zgz cm S R htg h2n hn hit hfs hf he q;rw[eval_ListComp];refine wpAny_comprehension_free (use:=none) rfl hfs (zb8 (zht S R A.ok)) S.kind (fun y hy e=>(S.loc y hy e).1) (thn (hit A h1) fun v s1 z=>thn z fun itv s2 z=>?_);obtain⟨it,fp,tn,G2,rfl,u2,fr,W,t0⟩:=z;refine thn (zgy cm S R htg h2n hn A hf he u2 fr W t0 hz hcm) fun acc s3 h3=>thn h3 fun cenv s4 h4=>codeAny_mono h4 fun res s' hres=>?_;obtain⟨rfl,D,G,rfl,c⟩:=hres;obtain⟨m,hm⟩:=c.ns;exact⟨m,hm,fun h' hsb=>let⟨G',u,r,_⟩:=c.fin (k:=s'.toks) hsb;⟨G',u,r⟩⟩
end
end Nb
section
namespace Nb
open PySem Spec PyProof.Rows Ev L2
variable {B:Bd}{out scope:Scope}{xs nm:List Str}{tg iter elt:Expr}{ifs:List Expr}{pos p spos:Pos}{x:Str}{i:Nat}
theorem At.mono{Y:Yc}{N N':Str->Nat->Prop}{r:Ev.Env}{F:Fz}{s:Shared}(A:At Y N r F s)(h:∀x i,N' x i->N x i):At Y N' r F s:={A with get:=fun x i t n=>A.get x i t (h x i n)}
theorem zrq{fi:Ev.Env->a7 (List T)}{fo:Ev.Env->a7 (a7 T)}{fe:Ev.Env->a7 T}(is:List Nat)(cm:B.calm)(S:CsB out scope xs)(R:ScR B.toYc out)(htg:zcb tg=some xs)(h2n:ybb tg=true->2<=xs.length)(hn:xs≠[])(hit:OkI B.toYc (Tc.N ⟨out,nm⟩) tg iter fi)(hfs:∀x,foldedSetIterable iter B.env x=pure x)(hf:∀L,Okf (ya1 B.toYc scope L) (Tc.N ⟨scope,xs++nm⟩) ifs fo)(he:∀L,Oke (ya1 B.toYc scope L) (Tc.N ⟨scope,xs++nm⟩) elt fe)(hN:∀x i,Tc.N ⟨out,nm⟩ x i->Nn B.N x i)(hx:B.N[i]?=some x)(hl:Loc B.env.scope x):PS B (.Assign [.Name x p] (.ListComp elt [⟨tg,iter,ifs,0⟩] scope pos) spos) fun τ=>(yb4 xs.length fi fo fe (ygg (frzAt is τ))).bind fun t=>some (.nx ((frzAt is τ).set i (.val t))):=fun{pn ad τ F s o}hF q=>by
 obtain⟨t,q1,q⟩:=obs q;cases q;obtain⟨G0,ad',le,h'⟩:=hF.frzAt is;have A:=(h'.at).mono hN;have hS:∀{u:Value}{G:Fz}{s1:Shared}{E:Value->Shared->Prop},B.Fr pn ad' (frzAt is τ) G s1->F.le G->Rep B.w G t u->wpAny B.M B.A (storeName B.env x u) (fun _ s'=>B.Post pn F (.nx ((frzAt is τ).set i (.val t))) .next s') E s1:=fun{u G s1 E}h1 le1 r=>h1.store (d:=[]) (sl:=.val t) hx hl (fun _ w=>nomatch w) (fun _ lk=>⟨u,lk,r⟩) fun s2 _ _ h2=>⟨_,_,le1,h2⟩;obtain⟨b,hb⟩:∃b:Bool,swapsWith (.ListComp elt [⟨tg,iter,ifs,0⟩] scope pos) (some (.Name x p)) spos.line B.env=pure b:=⟨_,rfl⟩;cases b with
 |false=>refine wpAny_Assign_Name (thn (zlo cm S R htg h2n hn hit hfs hf he A q1) fun u s1 z=>?_) hb;obtain⟨G,u1,r⟩:=z;exact hS (h'.after u1) (le.trans u1.ff) r
 |true=>
  obtain⟨qc,total,h1,hz,hcm,rfl⟩:=zgz cm S R htg h2n hn hit hfs hf he q1;rw[exec_Assign_Name_used _ _ _ _ hb];refine zxq (wpAny_standAt (zxq ?_));show wpAny _ B.A (do let _ <-comprehension (.ListComp elt [⟨tg,iter,ifs,0⟩] scope pos) scope B.env _ (newList []) false (eval iter B.env) (some (assign (.Name x p) B.env))) _ _ s;refine zxq (zyt (wpAny_comprehension_free (use:=some (assign (.Name x p) B.env)) (Q:=fun _ s'=>B.Post pn F (.nx ((frzAt is τ).set i (.val (.lst total)))) .next s') rfl hfs (zb8 (zht S R A.ok)) S.kind (fun y hy e=>(S.loc y hy e).1)
   (thn (hit A h1) fun v s1 z=>thn z fun itv s2 z=>?_)) (fun _ s' hq=>zxs (zxs hq)) fun _ _ e=>e)
  obtain⟨it,fp,tn,G2,rfl,u2,fr,W,t0⟩:=z;refine thn (zgy cm S R htg h2n hn A hf he u2 fr W t0 hz hcm) fun acc s3 h3=>thn h3 fun cenv s4 h4=>codeAny_mono h4 fun res s' hres=>?_;obtain⟨rfl,D,G,rfl,c⟩:=hres;show wpAny _ B.A (assign (.Name x p) B.env (.ref D)) _ _ s';have fin:=c.fin (k:=s'.toks) (h':=s'.heap) ⟨rfl,fun _ _=>rfl⟩;obtain⟨G3,u3,r3,gC⟩:=fin;have h3':=h'.after u3;have hp:=Fr.pinned (fp:=[cenv.locals]) h3' fun b hb=>by rw[omg hb];exact⟨gC,h'.off c.c0⟩
  refine wpAny_assign_Name (hp.store (d:=[]) (sl:=.val (.lst total)) hx hl (fun _ w=>nomatch w) (fun _ lk=>⟨_,lk,r3⟩) fun s5 _ _ h5=>?_);obtain⟨m,hm⟩:=c.ns;obtain⟨oC,eC⟩:=Heap.Ns.has hm;obtain⟨p1,⟨p2,_⟩,p3⟩:=h5.pin (cenv.locals,some oC) (zym _ (zym _ (ud5.mpr ⟨_,.head _,by rw[eC];rfl⟩)));refine⟨m,hm.at fun o e=>by rw[eC]at e;cases e;exact p2,fun h7 hsb=>⟨_,_,le.trans u3.ff,Fr.turned (fp:=[cenv.locals]) h5.unpin (fun b hb=>?_) (UpX.one (k:=s5.toks) h5.up.fh p1.f fun b o hb e=>(hsb.2 b hb).trans e)⟩⟩;rw[omg hb];exact⟨p1.z,p1.l,p1.c,p3,(h'.off c.c0).p⟩
end Nb
namespace L2
open PySem
section
open AutoSeq1 (wpAny_loadPart')
theorem zdc(hit:s.heap.IsTupleIter it l i)(hl:s.heap.IsTuple l items)(hx:items[i]?=some x)(hQ:∀h',h'.IsTupleIter it l (i+1)->Heap.SameBut it s.heap h'->Q x {s with heap:=h'}):wpAny (model prog w) A (Builtin.SmallTypes.nextOf (.ref it)) Q E s:=by
 obtain⟨o,ho,hc,hd⟩:=id hit;obtain⟨ol,hol,_,nl,hdl⟩:=hl;unfold Builtin.SmallTypes.nextOf;refine zxq (zyf (name:=Str.ofString "__next__") hit.typeIs F.slot_tuple_iterator_next
  (zyd F.slot_tuple_iterator_next hit.typeIs F.entry_tuple_iterator_next ?_ (F.args_tuple_iterator_next_1 _)))
 show wpAny _ _ (field (.ref it) 0 >>= _) _ _ s;refine zxq (ub4 ho hd (x:=.ref l) rfl ?_);show wpAny _ _ (if(Value.ref l==Value.none)=true then _ else _) _ _ s;rw[if_neg (show ¬((Value.ref l==Value.none)=true)from zys)];show wpAny _ _ (field (.ref it) 1 >>= _) _ _ s;refine zxq (ub4 ho hd (x:=.int i 0) rfl ?_);show wpAny _ _ (seqItems? (.ref l) >>= _) _ _ s;refine zxq (uc9 hol hdl ?_);simp only[Int.toNat_natCast,hx];refine wpAny_bind (wpAny_setField ho hd (by simp) (wpAny_pure ⟨x,rfl,wpAny_pure (hQ _ ?_ (ub3 ..))⟩));exact⟨_,Heap.get?_update_self _ ho (Obj.isFreed_of_fields (ud4 hd _)),(Obj.cls_mapFields ..).trans hc,by rw[ud4 hd];simp[rawInt]⟩
theorem zdq(hh:A.handled=none)(hit:s.heap.IsTupleIter it l i)(hl:s.heap.IsTuple l items)(hx:items[i]?=none)(hE:∀h' e,Heap.ExtBut it s.heap h'->(∃o,h'.get? e=some o/\o.cls=.type "StopIteration")->E (.ref e) {s with heap:=h'}):wpAny (model prog w) A (Builtin.SmallTypes.nextOf (.ref it)) Q E s:=by
 obtain⟨o,ho,hc,hd⟩:=id hit;obtain⟨ol,hol,_,nl,hdl⟩:=hl;unfold Builtin.SmallTypes.nextOf;refine zxq (zyf (name:=Str.ofString "__next__") hit.typeIs F.slot_tuple_iterator_next
  (zyd F.slot_tuple_iterator_next hit.typeIs F.entry_tuple_iterator_next ?_ (F.args_tuple_iterator_next_1 _)))
 show wpAny _ _ (field (.ref it) 0 >>= _) _ _ s;refine zxq (ub4 ho hd (x:=.ref l) rfl ?_);show wpAny _ _ (if(Value.ref l==Value.none)=true then _ else _) _ _ s;rw[if_neg (show ¬((Value.ref l==Value.none)=true)from zys)];show wpAny _ _ (field (.ref it) 1 >>= _) _ _ s;refine zxq (ub4 ho hd (x:=.int i 0) rfl ?_);show wpAny _ _ (seqItems? (.ref l) >>= _) _ _ s;refine zxq (uc9 hol hdl ?_);simp only[Int.toNat_natCast,hx]
 first
  |refine wpAny_bind (wpAny_rule (wpAny_bind (wpAny_setField ho hd (by simp) (wpAny_bind (wpAny_letGo ?_)))))
  |refine wpAny_bind (wpAny_rule (wpAny_bind (wpAny_setField ho hd (by simp) ?_)))
 show wpAny _ _ (newExc (.type "StopIteration") [] >>= _) _ _ _;refine zxq ?_;simp only[newExc,newTuple];refine zxq (zyj ?_ (by size_fits));refine wpAny_bind (m:=firstArgMember _ _) (wpAny_of_eq (a:=Value.none) (by first|rfl|(simp only[firstArgMember];rfl)) ?_);refine zyj ?_ (by size_fits);simp only[raiseNew];refine zxq (wpAny_handled ?_)
 first|rw[show A.in1.handled=none from hh]|rw[hh]
 refine zxq (zxs (wpAny_throw ?_));exact hE _ _ (((ub3 ..).extBut.push _).push _) ⟨_,zxx _ rfl,rfl⟩
theorem zhp(hh:A.handled=none)(it l:Addr)(hne:l≠it)(items:Array Value):Draws prog w A it [it,l] items.size (fun i v=>items[i]?=some v) (fun i h=>h.IsTupleIter it l i/\h.IsTuple l items) where
 live:=fun _ _ st=>let⟨o,ho,_⟩:=st.1;⟨o,ho⟩
 frame:=fun _ _ _ st hk=>⟨let⟨o,ho,r⟩:=st.1;⟨o,hk it (by simp) o ho,r⟩,let⟨o,ho,r⟩:=st.2;⟨o,hk l (by simp) o ho,r⟩⟩
 item:=fun i s Q E hi st hQ=>by refine zdc st.1 st.2 (x:=items[i]) (by simp[hi]) fun h' hit' hs'=>?_;exact hQ _ h' s.toks (by simp[hi]) ⟨hit',let⟨o,ho,r⟩:=st.2;⟨o,hs'.extBut l o hne ho,r⟩⟩ hs'
 done:=fun s Q E st hE=>zdq hh st.1 st.2 (by simp) hE
theorem zd9(l:Addr)(items:Array Value)(n:Nat)(dct:a7 Addr)(sl:Array (a7 Value)):Meets (Builtin.«enumerate.__new__» ⟨[.type "enumerate",.ref l],[]⟩) (fun _ R s=>s.heap.get? l=some {cls:=.type "tuple",dict:=dct,data:=.seq items n,slots:=sl} /\
   R (.ok (.ret (.ref (s.heap.push {cls:=.type "tuple_iterator",data:=.fields #[.ref l,.int 0 0]}).objs.size)))
    {s with heap:=(s.heap.push {cls:=.type "tuple_iterator",data:=.fields #[.ref l,.int 0 0]}).push {cls:=.type "enumerate",data:=.fields #[.none,.bool false,.ref s.heap.objs.size,rawInt 0,.none,.none]} }) :=
 .of_wp fun prog w A R s h=>by
  obtain⟨hp,g,d,tk,os⟩:=s;obtain⟨hl,h⟩:=h;have hsub:=sub_enumerate;have hL:Heap.IsTuple (Shared.heap ⟨hp,g,d,tk,os⟩) l items:=⟨_,hl,rfl,n,rfl⟩
  wp_walk using wpAny_loadPart' hl
  refine wpAny_stack_any fun st=>zxs ?_;split
  .rename_i c _ _ _ _ _;cases(c==Value.type "enumerate")
   .wp_walk using wpAny_loadPart' hl,ub8 hL
    exact⟨_,rfl,h⟩
   .wp_walk using wpAny_loadPart' hl,ub8 hL
    exact⟨_,rfl,h⟩
  .wp_walk using wpAny_loadPart' hl,ub8 hL
   exact⟨_,rfl,h⟩
theorem zex(hL:s.heap.IsTuple l items)(h:∀h',IsEnum h' (s.heap.objs.size+1) s.heap.objs.size 0 .none->h'.IsTupleIter s.heap.objs.size l 0->h'.objs.size=s.heap.objs.size+2 ->(∀b o,s.heap.get? b=some o->h'.get? b=some o)->Q (.ref (s.heap.objs.size+1)) {s with heap:=h'}):wpAny (model prog w) A (call (.type "enumerate") [.ref l]) Q E s:=by
 obtain⟨⟨c,dct,dt,sl⟩,hl,hc,n,hd⟩:=hL;replace hc:c=.type "tuple":=hc;replace hd:dt=.seq items n:=hd;subst hc hd;refine callType_new F.called_enumerate (by decide) (F.typeCall_enumerate_1 _) (F.newCall_enumerate_1 _) (fun obj=>F.args_object_init_2 obj _) F.entry_enumerate_new
  (zd9 l items n dct sl) ⟨hl,?_⟩
 have hz:(s.heap.push {cls:=.type "tuple_iterator",data:=.fields #[.ref l,.int 0 0]}).objs.size=s.heap.objs.size+1:=zyb ..;show _/\_;rw[hz];have he:IsEnum ((s.heap.push {cls:=.type "tuple_iterator",data:=.fields #[.ref l,.int 0 0]}).push
   {cls:=.type "enumerate",data:=.fields #[.none,.bool false,.ref s.heap.objs.size,rawInt 0,.none,.none]}) (s.heap.objs.size+1) s.heap.objs.size 0 .none:=by
  have:=zxx (s.heap.push {cls:=.type "tuple_iterator",data:=.fields #[.ref l,.int 0 0]})
   (o:={cls:=.type "enumerate",data:=.fields #[.none,.bool false,.ref s.heap.objs.size,rawInt 0,.none,.none]}) rfl
  rw[hz]at this;exact this
 refine⟨⟨_,he,rfl⟩,h _ he ⟨_,zxr _ (zxx _ rfl),rfl,rfl⟩ (by rw[zyb,hz]) fun b o x=>zxr _ (zxr _ x)⟩
end
section
open PySem Spec PyProof.Rows
structure ZAp(z TI TO j1 j2:Addr)(f1 f2:List Addr):Prop where
 nz:TI≠z/\TO≠z/\j1≠z/\j2≠z
 nT:TI≠TO/\TI≠j1/\TI≠j2
 nO:TO≠j1/\TO≠j2
 nj:j1≠j2
 fz:z∉f1/\z∉f2
 fO:TO∉f1/\TO∉f2
 fj:j2∉f1/\j1∉f2
section
variable {prog:Program}{w:World}{A:Around}{E:Value->Shared->Prop}{s:Shared}
variable {z TI TO j1 j2:Addr}{f1 f2:List Addr}{n1 n2 k:Nat}{P1 P2:Nat->Value->Prop}{S1 S2:Nat->Heap->Prop}{a b:Value}
theorem zj4{Q:Value->Shared->Prop}(D1:Draws prog w A j1 f1 n1 P1 S1)(D2:Draws prog w A j2 f2 n2 P2 S2)(ap:ZAp z TI TO j1 j2 f1 f2)(hz:IsZip s.heap z TI TO .none)(hI:IsPair s.heap TI (.ref j1) (.ref j2))(hO:IsPair s.heap TO a b)(t1:S1 k s.heap)(t2:S2 k s.heap)(l1:k<n1)(l2:k<n2)(hQ:∀x y g tk,P1 k x->P2 k y->IsZip g z TI TO (rawInt s.heap.objs.size)->IsPair g TO x y->S1 (k+1) g->S2 (k+1) g->IsPair g s.heap.objs.size x y->g.objs.size=s.heap.objs.size+1 ->(∀c o,c≠z->c≠TO->c≠j1->c≠j2->s.heap.get? c=some o->g.get? c=some o)->Q (.ref s.heap.objs.size) {s with heap:=g,toks:=tk}):wpAny (model prog w) A (Builtin.«zip.__next__» ⟨[.ref z],[]⟩) (fun e s'=>∃v,e=.done (.ret v)/\Q v s') E s:=by
 show wpAny _ _ (field (.ref z) 2 >>= _) _ _ s;refine zxq (ub4 (x:=.bool false) hz rfl rfl ?_);show wpAny _ _ (field (.ref z) 3 >>= _) _ _ s;refine zxq (ub4 (x:=.ref TI) hz rfl rfl (zxq (uc9 hI rfl ?_)));show wpAny _ _ (Builtin.SmallTypes.ownedTupleIsFree (.ref z) >>= _) _ _ s;refine zxq (show wpAny _ _ (Builtin.SmallTypes.ownedTupleIsFree (.ref z)) _ _ s from ?_);unfold Builtin.SmallTypes.ownedTupleIsFree;refine zxq (ub4 (x:=.none) hz rfl rfl (zxs ?_));simp only[if_true];refine zxq (wpAny_rule (zxq (ub4 (x:=.ref TO) hz rfl rfl ?_)));refine wpAny_bind (ud3 hz (by simp) fun g1 hz1 e1=>?_);replace hz1:IsZip g1 z TI TO .ellipsis:=hz1;refine zxq (show wpAny _ _ _ _ _ _ from ?_);simp only[List.zipIdx_nil,List.zipIdx_cons,List.forIn_nil,List.forIn_cons];refine zxq (zxq (wpAny_onRaise ?_));show wpAny _ _ (Builtin.SmallTypes.nextOf (.ref j1) >>= _) _ _ {s with heap:=g1};have q1:S1 k g1:=D1.frame _ _ _ t1 fun c hc o e=>e1.extBut _ _ (fun y=>ap.fz.1 (y▸hc)) e;refine zxq (D1.item k _ _ _ l1 q1 fun x g2 tk2 hx u1 e2=>zxs ?_);have hO2:IsPair g2 TO a b:=e2.extBut _ _ ap.nO.1 (e1.extBut _ _ ap.nz.2.1 hO);refine zxq (uc9 hO2 rfl (zxq (wpAny_updateSeq_pair hO2 fun g3 hO3 e3=>?_)));replace hO3:IsPair g3 TO x b:=hO3;refine zxq (wpAny_letGo (zxs (zxq (zxq (wpAny_onRaise ?_)))));show wpAny _ _ (Builtin.SmallTypes.nextOf (.ref j2) >>= _) _ _ {s with heap:=g3,toks:=tk2};have q2:S2 k g3:=D2.frame _ _ _ t2 fun c hc o e=>e3.extBut _ _ (fun y=>ap.fO.2 (y▸hc)) (e2.extBut _ _ (fun y=>ap.fj.2 (y▸hc)) (e1.extBut _ _ (fun y=>ap.fz.2 (y▸hc)) e));refine zxq (D2.item k _ _ _ l2 q2 fun y g4 tk4 hy u2 e4=>zxs ?_);have hO4:IsPair g4 TO x b:=e4.extBut _ _ ap.nO.2 hO3;refine zxq (uc9 hO4 rfl (zxq (wpAny_updateSeq_pair hO4 fun g5 hO5 e5=>?_)));replace hO5:IsPair g5 TO x y:=hO5;refine zxq (wpAny_letGo (zxs (zxs (zxq (uc9 hO5 rfl (zxq (wpAny_newTuple ?_)))))));have sz:g5.objs.size=s.heap.objs.size:=by rw[e5.1,e4.1,e3.1,e2.1,e1.1]
 have hz5:IsZip g5 z TI TO .ellipsis:=e5.extBut _ _ (Ne.symm ap.nz.2.1) (e4.extBut _ _ (Ne.symm ap.nz.2.2.2) (e3.extBut _ _ (Ne.symm ap.nz.2.1) (e2.extBut _ _ (Ne.symm ap.nz.2.2.1) hz1)));have k5:∀c o,c≠z->c≠TO->c≠j1->c≠j2->s.heap.get? c=some o->g5.get? c=some o:=fun c o c1 c2 c3 c4 e=>e5.extBut _ _ c2 (e4.extBut _ _ c4 (e3.extBut _ _ c2 (e2.extBut _ _ c3 (e1.extBut _ _ c1 e))));have v1:S1 (k+1) g5:=D1.frame _ _ _ u1 fun c hc o e=>e5.extBut _ _ (fun y=>ap.fO.1 (y▸hc)) (e4.extBut _ _ (fun y=>ap.fj.1 (y▸hc)) (e3.extBut _ _ (fun y=>ap.fO.1 (y▸hc)) e));have v2:S2 (k+1) g5:=D2.frame _ _ _ u2 fun c hc o e=>e5.extBut _ _ (fun y=>ap.fO.2 (y▸hc)) e;have ltz:z<g5.objs.size:=zx5 hz5;show wpAny _ _ (Builtin.SmallTypes.ownedTupleHandOut (.ref z) (.ref g5.objs.size) >>= _) _ _ _;refine zxq (show wpAny _ _ (Builtin.SmallTypes.ownedTupleHandOut (.ref z) (.ref g5.objs.size)) _ _ _ from ?_);unfold Builtin.SmallTypes.ownedTupleHandOut;have hz6:IsZip (g5.push {cls:=.type "tuple",data:=.seq #[x,y]}) z TI TO .ellipsis:=zxr _ hz5;refine wpAny_bind (ud3 hz6 (by simp) fun g7 hz7 e7=>?_);replace hz7:IsZip g7 z TI TO (rawInt g5.objs.size):=hz7;refine ud3 hz7 (by simp) fun g8 hz8 e8=>?_;replace hz8:IsZip g8 z TI TO (rawInt g5.objs.size):=hz8;have up:∀c o,c≠z->g5.get? c=some o->g8.get? c=some o:=fun c o c1 e=>e8.extBut _ _ c1 (e7.extBut _ _ c1 (zxr _ e));have hT8:IsPair g8 g5.objs.size x y:=e8.extBut _ _ (Nat.ne_of_gt ltz) (e7.extBut _ _ (Nat.ne_of_gt ltz) (zxx _ rfl));have sz8:g8.objs.size=g5.objs.size+1:=by rw[e8.1,e7.1,zyb]
 rw[sz]at hz8 hT8 sz8;refine zxs ⟨_,rfl,?_⟩;show Q (.ref g5.objs.size) {s with heap:=g8,toks:=tk4};rw[sz];exact hQ x y g8 tk4 hx hy hz8 (up _ _ ap.nz.2.1 hO5) (D1.frame _ _ _ v1 fun c hc o e=>up c o (fun y=>ap.fz.1 (y▸hc)) e) (D2.frame _ _ _ v2 fun c hc o e=>up c o (fun y=>ap.fz.2 (y▸hc)) e) hT8 sz8
  fun c o c1 c2 c3 c4 e=>up c o c1 (k5 c o c1 c2 c3 c4 e)
theorem zns(D1:Draws prog w A j1 f1 n1 P1 S1)(D2:Draws prog w A j2 f2 n2 P2 S2)(ap:ZAp z TI TO j1 j2 f1 f2)(hz:IsZip s.heap z TI TO .none)(hI:IsPair s.heap TI (.ref j1) (.ref j2))(hO:IsPair s.heap TO a b)(t1:S1 k s.heap)(t2:S2 k s.heap)(hk:k=n1\/k<n1/\k=n2)(hE:∀g e tk,(∀c o,c≠z->c≠TO->c≠j1->c≠j2->s.heap.get? c=some o->g.get? c=some o)->(∃o,g.get? e=some o/\o.cls=.type "StopIteration")->E (.ref e) {s with heap:=g,toks:=tk}):wpAny (model prog w) A (Builtin.«zip.__next__» ⟨[.ref z],[]⟩) Q E s:=by
 show wpAny _ _ (field (.ref z) 2 >>= _) _ _ s;refine zxq (ub4 (x:=.bool false) hz rfl rfl ?_);show wpAny _ _ (field (.ref z) 3 >>= _) _ _ s;refine zxq (ub4 (x:=.ref TI) hz rfl rfl (zxq (uc9 hI rfl ?_)));show wpAny _ _ (Builtin.SmallTypes.ownedTupleIsFree (.ref z) >>= _) _ _ s;refine zxq (show wpAny _ _ (Builtin.SmallTypes.ownedTupleIsFree (.ref z)) _ _ s from ?_);unfold Builtin.SmallTypes.ownedTupleIsFree;refine zxq (ub4 (x:=.none) hz rfl rfl (zxs ?_));simp only[if_true];refine zxq (wpAny_rule (zxq (ub4 (x:=.ref TO) hz rfl rfl ?_)));refine wpAny_bind (ud3 hz (by simp) fun g1 hz1 e1=>?_);replace hz1:IsZip g1 z TI TO .ellipsis:=hz1;refine zxq (show wpAny _ _ _ _ _ _ from ?_);simp only[List.zipIdx_nil,List.zipIdx_cons,List.forIn_nil,List.forIn_cons];refine zxq (zxq (wpAny_onRaise ?_));show wpAny _ _ (Builtin.SmallTypes.nextOf (.ref j1) >>= _) _ _ {s with heap:=g1};have q1:S1 k g1:=D1.frame _ _ _ t1 fun c hc o e=>e1.extBut _ _ (fun y=>ap.fz.1 (y▸hc)) e;rcases hk with rfl|⟨hlt,rfl⟩
 .refine zxq (D1.done _ _ _ q1 fun g2 e e2 he=>?_);obtain⟨oe,hoe,hce⟩:=he;have hz2:IsZip g2 z TI TO .ellipsis:=e2 _ _ (Ne.symm ap.nz.2.2.1) hz1;have ez:e≠z:=fun y=>by subst y;rw[hz2]at hoe;cases hoe;simp at hce
  exact ud3 hz2 (by simp) fun g3 _ e3=>hE g3 e s.toks (fun c o c1 _ c3 _ y=>e3.extBut _ _ c1 (e2 _ _ c3 (e1.extBut _ _ c1 y))) ⟨oe,e3.extBut _ _ ez hoe,hce⟩
 .refine zxq (D1.item _ _ _ _ hlt q1 fun x g2 tk2 hx u1 e2=>zxs ?_);have hO2:IsPair g2 TO a b:=e2.extBut _ _ ap.nO.1 (e1.extBut _ _ ap.nz.2.1 hO);refine zxq (uc9 hO2 rfl (zxq (wpAny_updateSeq_pair hO2 fun g3 hO3 e3=>?_)));refine zxq (wpAny_letGo (zxs (zxq (zxq (wpAny_onRaise ?_)))));show wpAny _ _ (Builtin.SmallTypes.nextOf (.ref j2) >>= _) _ _ {s with heap:=g3,toks:=tk2};have q2:S2 k g3:=D2.frame _ _ _ t2 fun c hc o e=>e3.extBut _ _ (fun y=>ap.fO.2 (y▸hc)) (e2.extBut _ _ (fun y=>ap.fj.2 (y▸hc)) (e1.extBut _ _ (fun y=>ap.fz.2 (y▸hc)) e));refine zxq (D2.done _ _ _ q2 fun g4 e e4 he=>?_);obtain⟨oe,hoe,hce⟩:=he;have hz4:IsZip g4 z TI TO .ellipsis:=e4 _ _ (Ne.symm ap.nz.2.2.2) (e3.extBut _ _ (Ne.symm ap.nz.2.1) (e2.extBut _ _ (Ne.symm ap.nz.2.2.1) hz1));have ez:e≠z:=fun y=>by subst y;rw[hz4]at hoe;cases hoe;simp at hce
  exact ud3 hz4 (by simp) fun g5 _ e5=>hE g5 e tk2 (fun c o c1 c2 c3 c4 y=>e5.extBut _ _ c1 (e4 _ _ c4 (e3.extBut _ _ c2 (e2.extBut _ _ c3 (e1.extBut _ _ c1 y))))) ⟨oe,e5.extBut _ _ ez hoe,hce⟩
theorem zjs{Q:a7 Value->Shared->Prop}(D1:Draws prog w A.in1 j1 f1 n1 P1 S1)(D2:Draws prog w A.in1 j2 f2 n2 P2 S2)(ap:ZAp z TI TO j1 j2 f1 f2)(hz:IsZip s.heap z TI TO .none)(hI:IsPair s.heap TI (.ref j1) (.ref j2))(hO:IsPair s.heap TO a b)(t1:S1 k s.heap)(t2:S2 k s.heap)(l1:k<n1)(l2:k<n2)(hQ:∀x y g tk,P1 k x->P2 k y->IsZip g z TI TO (rawInt s.heap.objs.size)->IsPair g TO x y->S1 (k+1) g->S2 (k+1) g->IsPair g s.heap.objs.size x y->g.objs.size=s.heap.objs.size+1 ->(∀c o,c≠z->c≠TO->c≠j1->c≠j2->s.heap.get? c=some o->g.get? c=some o)->Q (some (.ref s.heap.objs.size)) {s with heap:=g,toks:=tk}):wpAny (model prog w) A (pyNext (.ref z)) Q E s:=by
 have ty:s.TypeIs (.ref z) "zip":=⟨_,hz,rfl⟩;unfold pyNext;exact zxq (zy1 (zyf (name:=Str.ofString "__next__") ty F.slot_zip_next (zyd F.slot_zip_next ty F.entry_zip_next
  (zj4 D1 D2 ap hz hI hO t1 t2 l1 l2 fun x y g tk b1 b2 b3 b4 b5 b6 b7 b8 b9=>zxs (hQ x y g tk b1 b2 b3 b4 b5 b6 b7 b8 b9)) (F.args_zip_next_1 _))))
theorem zlv(D1:Draws prog w A.in1 j1 f1 n1 P1 S1)(D2:Draws prog w A.in1 j2 f2 n2 P2 S2)(ap:ZAp z TI TO j1 j2 f1 f2)(hz:IsZip s.heap z TI TO .none)(hI:IsPair s.heap TI (.ref j1) (.ref j2))(hO:IsPair s.heap TO a b)(t1:S1 k s.heap)(t2:S2 k s.heap)(hk:k=n1\/k<n1/\k=n2)(hQ:∀g tk,(∀c o,c≠z->c≠TO->c≠j1->c≠j2->s.heap.get? c=some o->g.get? c=some o)->Q none {s with heap:=g,toks:=tk}):wpAny (model prog w) A (pyNext (.ref z)) Q E s:=by
 have ty:s.TypeIs (.ref z) "zip":=⟨_,hz,rfl⟩;unfold pyNext;refine zxq (zy1 (zyf (name:=Str.ofString "__next__") ty F.slot_zip_next (zyd F.slot_zip_next ty F.entry_zip_next
  (zns D1 D2 ap hz hI hO t1 t2 hk fun g e tk hc he=>?_) (F.args_zip_next_1 _))))
 obtain⟨o,ho,hc2⟩:=he;exact zxq (wpAny_isInstance (b:=true) (T:="StopIteration") ⟨o,ho,hc2⟩ isSubtype_stop (zxs (hQ _ _ hc)))
end
abbrev ydc(h:Heap)(l1:Addr):Heap:=h.push {cls:=.type "tuple_iterator",data:=.fields #[.ref l1,.int 0 0]}
abbrev yde(h:Heap)(l1 l2:Addr):Heap:=(ydc h l1).push {cls:=.type "list_iterator",data:=.fields #[.ref l2,.int 0 0]}
abbrev ydd(h:Heap)(l1 l2:Addr):Heap:=(yde h l1 l2).push {cls:=.type "tuple",data:=.seq #[.ref h.objs.size,.ref (ydc h l1).objs.size]}
abbrev ydf(h:Heap)(l1 l2:Addr):Heap:=(ydd h l1 l2).push {cls:=.type "tuple",data:=.seq #[.none,.none]}
abbrev yb6(h:Heap)(l1 l2:Addr):Heap:=(ydf h l1 l2).push {cls:=.type "zip",data:=.fields #[.none,.bool false,.bool false,.ref (yde h l1 l2).objs.size,.ref (ydd h l1 l2).objs.size]}
theorem zl1(l1 l2:Addr)(xs ys:Array Value):Meets (Builtin.«zip.__new__» ⟨[.type "zip",.ref l1,.ref l2],[]⟩) (fun _ R s=>s.heap.IsTuple l1 xs/\s.heap.IsList l2 ys /\
   R (.ok (.ret (.ref (ydf s.heap l1 l2).objs.size))) {s with heap:=yb6 s.heap l1 l2}) :=
 .of_wp fun prog w A R s q=>by
  obtain⟨hp,gs,dr,tk,os⟩:=s;obtain⟨q1,q2,q⟩:=q;have hsub:=sub_zip;have y1:Heap.IsTuple (Shared.heap ⟨hp,gs,dr,tk,os⟩) l1 xs:=q1;have y2:Heap.IsList (Shared.heap ⟨hp.push {cls:=.type "tuple_iterator",data:=.fields #[.ref l1,.int 0 0]},gs,dr,tk,os⟩) l2 ys:=Heap.IsList.push q2 _
  wp_walk using ub8 y1,wpAny_pyIter_list y2
  exact⟨_,rfl,q⟩
theorem zpg(q1:s.heap.IsTuple l1 xs)(q2:s.heap.IsList l2 ys)(q:∀g,IsZip g (s.heap.objs.size+4) (s.heap.objs.size+2) (s.heap.objs.size+3) .none->IsPair g (s.heap.objs.size+2) (.ref s.heap.objs.size) (.ref (s.heap.objs.size+1))->IsPair g (s.heap.objs.size+3) .none .none ->g.IsTupleIter s.heap.objs.size l1 0->g.IsListIter (s.heap.objs.size+1) l2 0->g.objs.size=s.heap.objs.size+5->(∀c o,s.heap.get? c=some o->g.get? c=some o)->Q (.ref (s.heap.objs.size+4)) {s with heap:=g}):wpAny (model prog w) A (call (.type "zip") [.ref l1,.ref l2]) Q E s:=by
 refine callType_new F.called_zip (by decide) (F.typeCall_zip_2 _ _) (F.newCall_zip_2 _ _) (fun ob=>F.args_object_init_3 ob _ _) F.entry_zip_new (zl1 l1 l2 xs ys) ⟨q1,q2,?_⟩;have a1:(ydc s.heap l1).objs.size=s.heap.objs.size+1:=zyb ..;have a2:(yde s.heap l1 l2).objs.size=s.heap.objs.size+2:=by rw[zyb,a1]
 have a3:(ydd s.heap l1 l2).objs.size=s.heap.objs.size+3:=by rw[zyb,a2]
 have a4:(ydf s.heap l1 l2).objs.size=s.heap.objs.size+4:=by rw[zyb,a3]
 have a5:(yb6 s.heap l1 l2).objs.size=s.heap.objs.size+5:=by rw[zyb,a4]
 have b5:(yb6 s.heap l1 l2).get? (ydf s.heap l1 l2).objs.size=some _:=zxx _ rfl;have b4:(yb6 s.heap l1 l2).get? (ydd s.heap l1 l2).objs.size=some _:=zxr _ (zxx _ rfl);have b3:(yb6 s.heap l1 l2).get? (yde s.heap l1 l2).objs.size=some _:=zxr _ (zxr _ (zxx _ rfl));have b2:(yb6 s.heap l1 l2).get? (ydc s.heap l1).objs.size=some _:=zxr _ (zxr _ (zxr _ (zxx _ rfl)));have b1:(yb6 s.heap l1 l2).get? s.heap.objs.size=some _:=zxr _ (zxr _ (zxr _ (zxr _ (zxx _ rfl))));show _/\_;rw[a2,a3,a4]at b5;rw[a1,a2]at b3;rw[a3]at b4;rw[a1]at b2;rw[a4];exact⟨⟨_,b5,rfl⟩,q _ b5 b3 b4 ⟨_,b1,rfl,rfl⟩ ⟨_,b2,rfl,rfl⟩ a5 fun c o y=>zxr _ (zxr _ (zxr _ (zxr _ (zxr _ y))))⟩
abbrev yc6(h:Heap)(l1:Addr):Heap:=h.push {cls:=.type "tuple_iterator",data:=.fields #[.ref l1,.int 0 0]}
abbrev yc9(h:Heap)(l1 l2:Addr):Heap:=(yc6 h l1).push {cls:=.type "tuple_iterator",data:=.fields #[.ref l2,.int 0 0]}
abbrev yc7(h:Heap)(l1 l2:Addr):Heap:=(yc9 h l1 l2).push {cls:=.type "tuple",data:=.seq #[.ref h.objs.size,.ref (yc6 h l1).objs.size]}
abbrev ydn(h:Heap)(l1 l2:Addr):Heap:=(yc7 h l1 l2).push {cls:=.type "tuple",data:=.seq #[.none,.none]}
abbrev yb5(h:Heap)(l1 l2:Addr):Heap:=(ydn h l1 l2).push {cls:=.type "zip",data:=.fields #[.none,.bool false,.bool false,.ref (yc9 h l1 l2).objs.size,.ref (yc7 h l1 l2).objs.size]}
theorem zl0(l1 l2:Addr)(xs ys:Array Value):Meets (Builtin.«zip.__new__» ⟨[.type "zip",.ref l1,.ref l2],[]⟩) (fun _ R s=>s.heap.IsTuple l1 xs/\s.heap.IsTuple l2 ys /\
   R (.ok (.ret (.ref (ydn s.heap l1 l2).objs.size))) {s with heap:=yb5 s.heap l1 l2}) :=
 .of_wp fun prog w A R s q=>by
  obtain⟨hp,gs,dr,tk,os⟩:=s;obtain⟨q1,q2,q⟩:=q;have hsub:=sub_zip;have y1:Heap.IsTuple (Shared.heap ⟨hp,gs,dr,tk,os⟩) l1 xs:=q1;have y2:Heap.IsTuple (Shared.heap ⟨hp.push {cls:=.type "tuple_iterator",data:=.fields #[.ref l1,.int 0 0]},gs,dr,tk,os⟩) l2 ys:=let⟨o,ho,r⟩:=q2;⟨o,zxr _ ho,r⟩
  wp_walk using ub8 y1,ub8 y2
  exact⟨_,rfl,q⟩
theorem zpf(q1:s.heap.IsTuple l1 xs)(q2:s.heap.IsTuple l2 ys)(q:∀g,IsZip g (s.heap.objs.size+4) (s.heap.objs.size+2) (s.heap.objs.size+3) .none->IsPair g (s.heap.objs.size+2) (.ref s.heap.objs.size) (.ref (s.heap.objs.size+1))->IsPair g (s.heap.objs.size+3) .none .none ->g.IsTupleIter s.heap.objs.size l1 0->g.IsTupleIter (s.heap.objs.size+1) l2 0->g.objs.size=s.heap.objs.size+5->(∀c o,s.heap.get? c=some o->g.get? c=some o)->Q (.ref (s.heap.objs.size+4)) {s with heap:=g}):wpAny (model prog w) A (call (.type "zip") [.ref l1,.ref l2]) Q E s:=by
 refine callType_new F.called_zip (by decide) (F.typeCall_zip_2 _ _) (F.newCall_zip_2 _ _) (fun ob=>F.args_object_init_3 ob _ _) F.entry_zip_new (zl0 l1 l2 xs ys) ⟨q1,q2,?_⟩;have a1:(yc6 s.heap l1).objs.size=s.heap.objs.size+1:=zyb ..;have a2:(yc9 s.heap l1 l2).objs.size=s.heap.objs.size+2:=by rw[zyb,a1]
 have a3:(yc7 s.heap l1 l2).objs.size=s.heap.objs.size+3:=by rw[zyb,a2]
 have a4:(ydn s.heap l1 l2).objs.size=s.heap.objs.size+4:=by rw[zyb,a3]
 have a5:(yb5 s.heap l1 l2).objs.size=s.heap.objs.size+5:=by rw[zyb,a4]
 have b5:(yb5 s.heap l1 l2).get? (ydn s.heap l1 l2).objs.size=some _:=zxx _ rfl;have b4:(yb5 s.heap l1 l2).get? (yc7 s.heap l1 l2).objs.size=some _:=zxr _ (zxx _ rfl);have b3:(yb5 s.heap l1 l2).get? (yc9 s.heap l1 l2).objs.size=some _:=zxr _ (zxr _ (zxx _ rfl));have b2:(yb5 s.heap l1 l2).get? (yc6 s.heap l1).objs.size=some _:=zxr _ (zxr _ (zxr _ (zxx _ rfl)));have b1:(yb5 s.heap l1 l2).get? s.heap.objs.size=some _:=zxr _ (zxr _ (zxr _ (zxr _ (zxx _ rfl))));show _/\_;rw[a2,a3,a4]at b5;rw[a1,a2]at b3;rw[a3]at b4;rw[a1]at b2;rw[a4];exact⟨⟨_,b5,rfl⟩,q _ b5 b3 b4 ⟨_,b1,rfl,rfl⟩ ⟨_,b2,rfl,rfl⟩ a5 fun c o y=>zxr _ (zxr _ (zxr _ (zxr _ (zxr _ y))))⟩
end
end L2
section
namespace Nb
open PySem Spec PyProof.Rows Ev L2
variable {Y:Yc}{N:Str->Nat->Prop}{F G:Fz}{s s1:Shared}{r:Ev.Env}{E:Value->Shared->Prop}{tg a b:Expr}{f g:Ev.Env->a7 T}{pos p p2:Pos}{elts:List Expr}{kx:Nat}{ts us:List T}{x y:T}{u:Value}{h':Heap}{k i n:Nat}{t:Bool}{h:Heap}{j l:Addr}{qc:Array Value}
theorem zjg(hh:Y.A.handled=none)(it:Addr)(n:Nat):Walk Y tg (Ev.rangeT n) F [it] it fun i h=>IsRangeIter h it (0+(i:Nat)*1) ((n:Int)-(i:Nat)) 1:=by
 have W:=Walks.range (prog:=Y.prog) (w:=Y.w) hh it 0 1 n;have get:∀{i:Nat}{t:T},(Ev.rangeT n)[i]?=some t->i<n/\t=.int (i:Int):=fun{i t}h=>by unfold Ev.rangeT at h;rw[zx0]at h;obtain⟨j,h1,rfl⟩:=oms h;obtain⟨h2,h3⟩:=ome h1;rw[List.getElem_range]at h3;subst h3;exact⟨by simpa using h2,rfl⟩
 refine⟨fun q b hb=>by rw[omg hb];exact⟨_,q⟩,fun q k=>k it (by simp) _ q,fun{i x s G E}le hi fn q e=>?_,fun{i s G E}le hi fn q e=>?_,fun q=>wpAny_pyIter_rangeiter q⟩
 .obtain⟨h1,rfl⟩:=get e;refine W.item i s _ _ h1 q fun v h' tk hv st' kk=>?_;obtain⟨t,rfl⟩:=hv;refine⟨_,rfl,zo2 (s:={s with heap:=h',toks:=tk}) (n:="range_iterator") st' rfl rfl (by decide) ⟨G,UpX.one (k:=tk) hi (fn it (by simp)) fun b o hb e=>kk b o (by simpa using hb) e,⟨t,by simp⟩,st'⟩⟩
 .have hl:n<=i:=by rw[show(Ev.rangeT n).length=n by simp[Ev.rangeT]]at e;lia
  exact wpAny_pyNext_range_end hh q (by lia) fun h' eb=>⟨rfl,UpX.one (k:=s.toks) hi (fn it (by simp)) fun b o hb e=>eb b o hb e⟩
theorem zn6{m:Int}{t1 t2 t3:Tok}{tk:Nat}(hh:Y.A.handled=none)(u:Up F s G s1)(h1 : -(2 ^ 62)<=m)(h2:m<2 ^ 62):wpAny Y.M Y.A (pyIter (.ref s1.heap.objs.size)) (fun itv s2=>∃it fp tn G,itv=.ref it/\Up F s G s2/\(∀b∈fp,s.heap.get? b=none/\G b=none)/\Walk Y tg (Ev.rangeT m.toNat) G fp it tn/\tn 0 s2.heap) E
  {s1 with heap:=s1.heap.push {cls:=.type "range",data:=.fields #[.int 0 t1,.int m t2,.int 1 t3]},toks:=tk}:=by
 refine wpAny_pyIter_range (IsRange.new ..) (small_one (by lia) (by lia) h1 h2) ?_;have u1:Up F s G {s1 with heap:=s1.heap.push {cls:=.type "range",data:=.fields #[.int 0 t1,.int m t2,.int 1 t3]},toks:=tk}:=u.trans (Up.side u.fh);refine⟨_,[_],_,G,rfl,u1.trans (Up.side (k:=tk) u1.fh),fun b hb=>?_,zjg hh _ m.toNat,?_⟩
 .rw[omg hb];exact⟨u1.old zac,u1.fh.none zac⟩
 .have e2:(((m.toNat:Nat):Int)-((0:Nat):Int))=Builtin.Range.rangeSize 0 m 1:=by rw[rangeSize_one];split<;>lia
  show IsRangeIter _ _ ((0:Int)+((0:Nat):Int)*1) (((m.toNat:Nat):Int)-((0:Nat):Int)) 1;rw[e2];exact zxx _ rfl
theorem zli(cm:Y.calm)(hg:Gl Y "range")(hm:Y.mg "range"=none)(ha:Oke Y N a f)(hs:starEach [a] Y.env=[(false,eval a Y.env)]):OkI Y N tg (.Call (.Name "range" p) [a] [] pos) fun r=>(f r).bind fun x=>items .range [x]:=fun{s F r qc E}A q=>by
 obtain⟨x,e1,q⟩:=obs q;refine Call_ (zcf A hg hm boot_range (PyProof.Rows.callWith_type1 (thn (ye9 ha hs pos A (ts:=[x]) (by simp only[e1];rfl)) fun us s1 z=>?_) hs rfl) (by decide) (by decide));obtain⟨G,u,v,w,rfl,r1,r2⟩:=z;cases r2;cases x with
 |int m=>
  obtain⟨tk,rfl⟩:=r1;replace q:(if -4611686018427387904<=m/\m<4611686018427387904 then some (Ev.rangeT m.toNat)else none)=some qc:=q;split at q
  .rename_i hz;cases q;have e62:(2:Int) ^ 62=4611686018427387904:=by decide
   exact call_range_1 (zn6 (A.hd cm) u (by lia) (by lia))
  .cases q
 |_=>cases q
def ItB(t:Bool)(h:Heap)(j l:Addr)(i:Nat):Prop:=if t then h.IsTupleIter j l i else h.IsListIter j l i
def IsB(t:Bool)(h:Heap)(l:Addr)(qc:Array Value):Prop:=if t then h.IsTuple l qc else h.IsList l qc
theorem ItB.at(x:ItB t h j l i)(k:∀o,h.get? j=some o->h'.get? j=some o):ItB t h' j l i:=by
 cases t with
 |true=>obtain⟨o,e,r⟩:=(show h.IsTupleIter j l i from x);exact(show h'.IsTupleIter j l i from⟨o,k o e,r⟩)
 |false=>obtain⟨o,e,r⟩:=(show h.IsListIter j l i from x);exact(show h'.IsListIter j l i from⟨o,k o e,r⟩)
theorem ItB.obj(x:ItB t h j l i):∃o,h.get? j=some o:=by
 cases t with
 |true=>obtain⟨o,e,_⟩:=(show h.IsTupleIter j l i from x);exact⟨o,e⟩
 |false=>obtain⟨o,e,_⟩:=(show h.IsListIter j l i from x);exact⟨o,e⟩
theorem yck{prog:Program}{w:World}{A:Around}(t:Bool)(hh:A.handled=none)(j l:Addr)(hne:l≠j)(qc:Array Value):Draws prog w A j [j,l] qc.size (fun i v=>qc[i]?=some v) (fun i h=>ItB t h j l i/\IsB t h l qc):=by
 cases t with
 |true=>exact zhp hh j l hne qc
 |false=>exact Draws.list hh j l hne qc
theorem zmn(q:yby x=some ts)(r:Rep Y.w F x u):∃t l qc,u=.ref l/\(∀{s:Shared}{G:Fz},F.le G->G.In s.heap->IsB t s.heap l qc)/\Reps Y.w F ts qc.toList/\(∃o,F l=some o):=by
 cases x with
 |tup xs=>cases q;obtain⟨a,o,qc,n,rfl,f,c,d,_,r⟩:=r;exact⟨true,a,qc,rfl,fun le hi=>⟨o,hi _ _ (le _ _ f),c,n,d⟩,r,o,f⟩
 |lst xs=>cases q;obtain⟨a,qc,n,rfl,f,_,r⟩:=r;exact⟨false,a,qc,rfl,fun le hi=>⟨_,hi _ _ (le _ _ f),rfl,n,rfl⟩,r,_,f⟩
 |_=>cases q
theorem UpX.lay{fp:List Addr}{o:Obj}(hi:G.In s.heap)(fn:∀b∈fp,G b=none)(hf:∀b∈fp,b≠s.heap.objs.size)(hk:∀b o,b∉fp->s.heap.get? b=some o->h'.get? b=some o)(e:h'.get? s.heap.objs.size=some o):UpX fp G s (fup G s.heap.objs.size o) {s with heap:=h',toks:=k} :=
 ⟨hk,rfl,id,zbm (hi.none zac),fun b v q=>by
  unfold fup at q;split at q
  .rename_i z;cases q;rw[z];exact e
  .exact hk _ _ (fun z=>by rw[fn b z]at q;cases q) (hi b v q),fun b q=>by
  unfold fup at q;split at q
  .rename_i z;exact .inr (by rw[z];exact zac)
  .exact .inl q,fun b hb=>by unfold fup;rw[if_neg (hf b hb)];exact fn b hb⟩
theorem zi5:∀{ts:List T}{i j:Nat}{t:T},(ya3 ts j)[i]?=some t->∃u,ts[i]?=some u/\t=.tup [.int ((j+i:Nat):Int),u]
 |[],i,_,_,h=>by simp[ya3]at h
 |u::ts,0,j,t,h=>by simp[ya3]at h;exact⟨u,rfl,h.symm⟩
 |u::ts,i+1,j,t,h=>by obtain⟨v,h1,h2⟩:=zi5 (ts:=ts) (i:=i) (j:=j+1) (by simpa[ya3]using h);exact⟨v,by simpa using h1,by rw[h2,show j+1+i=j+(i+1) by lia]⟩
theorem zi4:∀(ts:List T)(j:Nat),(ya3 ts j).length=ts.length
 |[],_=>rfl
 |_::ts,j=>zx2 (·+1) (zi4 ts (j+1))
theorem zj6(t:Bool){l it e:Addr}(hh:Y.A.handled=none)(hei:e≠it)(hp:∀{s:Shared}{G:Fz},F.le G->G.In s.heap->IsB t s.heap l qc)(hr:Reps Y.w F ts qc.toList)(hli:l≠it)(hle:l≠e):Walk Y (.Tuple elts kx p2) (ya3 ts 0) F [e,it] e fun i h=>(∃old,IsEnum h e it (i:Int) old)/\ItB t h it l i:=by
 have D:=yck (prog:=Y.prog) (w:=Y.w) (A:=Y.A.in1) t hh it l hli qc;have hz:=zbf hr;refine⟨fun q b hb=>?_,fun q k=>?_,fun{i x s G E}le hi fn q ex=>?_,fun{i s G E}le hi fn q ex=>?_,fun q h=>?_⟩
 .obtain⟨⟨old,he⟩,hit⟩:=q;rcases omc hb with z|z
  .rw[z];exact⟨_,he⟩
  .rw[omg z];exact hit.obj
 .obtain⟨⟨old,he⟩,hit⟩:=q;exact⟨⟨old,k e (by simp) _ he⟩,hit.at fun o z=>k it (by simp) o z⟩
 .obtain⟨⟨old,he⟩,hit⟩:=q;obtain⟨y,hy,rfl⟩:=zi5 ex;obtain⟨u,hu,ru⟩:=hr.get hy;have hlt:i<qc.size:=by rw[hz];exact(ome hy).1
  refine wpAny_pyNext_enum_itemD D he ⟨hit,hp le hi⟩ hlt hei (fun z=>(omc z).elim hei fun q=>hle (omg q).symm) fun x' h1 tk hPx ho st1 hT hsz hk=>⟨_,rfl,wpAny_letOwnedTupleGo_enum ho fun h2 he2 hs2=>?_⟩;have hx':x'=u:=by rw[zx9]at hu;have hPx:qc[i]?=some x':=hPx;rw[hu]at hPx;exact(zyr hPx).symm
  subst hx';have elt:e<s.heap.objs.size:=zx5 he;obtain⟨oi,hoi⟩:=hit.obj;have e2:h2.get? s.heap.objs.size=some {cls:=.type "tuple",data:=.seq #[.int i tk,x']}:=(hs2.2 _ (Nat.ne_of_gt elt)).trans hT;refine⟨_,UpX.lay (k:=tk+1) hi fn (fun b hb=>?_) (fun b o hb q=>?_) e2,⟨_,_,_,0,rfl,zbs,rfl,rfl,by show 2<=sizeLine;decide,?_⟩,⟨⟨_,by simpa using he2⟩,st1.1.at fun o ho'=>(hs2.2 it (Ne.symm hei)).trans ho'⟩⟩
  .rcases omc hb with z|z
   .rw[z];exact zye elt
   .rw[omg z];exact zye (zx5 hoi)
  .exact(hs2.2 b fun z=>hb (by simp[z])).trans (hk b o (fun z=>hb (by simp[z])) (fun z=>hb (by simp[z])) q)
  .exact .cons ⟨tk,by simp⟩ (.cons ((ru.mono le).mono (zbm (hi.none zac))) rfl)
 .obtain⟨⟨old,he⟩,hit⟩:=q;rw[zi4,<-hz]at ex;subst ex;exact wpAny_pyNext_enum_endD D he ⟨hit,hp le hi⟩ fun h1 eb=>⟨rfl,fun b o hb q=>eb b o (fun z=>hb (by simp[z])) q,rfl,id,fun _ _ e=>e,fun b o q=>eb b o (fun z=>by rw[z,fn it (by simp)]at q;cases q) (hi b o q),fun _ z=>.inl z,fn⟩
 .obtain⟨⟨old,he⟩,_⟩:=q;exact wpAny_pyIter_enum he h
end Nb
section
namespace Nb
open PySem Spec PyProof.Rows Ev L2
variable {Y:Yc}{N:Str->Nat->Prop}{F G:Fz}{s s1:Shared}{r:Ev.Env}{E:Value->Shared->Prop}{tg a b:Expr}{f g:Ev.Env->a7 T}{pos p p2:Pos}{elts:List Expr}{kx:Nat}{ts us:List T}{x y:T}{u:Value}{h':Heap}{k i n:Nat}{t t1 t2:Bool}{h:Heap}{j l:Addr}{qc jts:Array Value}
theorem zkt{x:T}{qc:List T}(h:items .enum [x]=some qc):∃ts,yby x=some ts/\qc=ya3 ts 0:=by cases x<;>first|(cases h;exact⟨_,rfl,rfl⟩)|(cases h;done)
theorem zoj(cm:Y.calm)(hg:Gl Y "enumerate")(hm:Y.mg "enumerate"=none)(ha:Oke Y N a f)(hs:starEach [a] Y.env=[(false,eval a Y.env)]):OkI Y N (.Tuple elts kx p2) (.Call (.Name "enumerate" p) [a] [] pos) fun r=>(f r).bind fun x=>items .enum [x]:=fun{s F r qc E}A q=>by
 obtain⟨x,e1,q⟩:=obs q;refine Call_ (zcf A hg hm boot_enumerate (PyProof.Rows.callWith_type1 (thn (ye9 ha hs pos A (ts:=[x]) (by simp only[e1];rfl)) fun us s1 z=>?_) hs rfl) (by decide) (by decide));obtain⟨G,u,v,w,rfl,r1,r2⟩:=z;cases r2;obtain⟨ts,q1,rfl⟩:=zkt q;obtain⟨t,l,qc,rfl,hp,hr,o,ho⟩:=zmn q1 r1;have llt:l<s1.heap.objs.size:=zx5 (u.fh _ _ ho);have fin:∀h',IsEnum h' (s1.heap.objs.size+1) s1.heap.objs.size 0 .none->ItB t h' s1.heap.objs.size l 0->(∀b o,s1.heap.get? b=some o->h'.get? b=some o)->wpAny Y.M Y.A (pyIter (.ref (s1.heap.objs.size+1))) (fun itv s2=>∃it fp tn G,itv=.ref it/\Up F s G s2/\(∀b∈fp,s.heap.get? b=none/\G b=none)/\Walk Y (.Tuple elts kx p2) (ya3 ts 0) G fp it tn/\tn 0 s2.heap) E {s1 with heap:=h'}:=fun h' he hit hk=>
  wpAny_pyIter_enum (s:={s1 with heap:=h'}) he ⟨_,[s1.heap.objs.size+1,s1.heap.objs.size],_,G,rfl,u.trans (Up.kept (k:=s1.toks) u.fh hk),fun b hb=>by
   have nb:s1.heap.get? b=none:=by
    rcases omc hb with z|z
    .rw[z];exact Heap.get?_none_of_le (Nat.le_succ _)
    .rw[omg z];exact zac
   exact⟨u.old nb,u.fh.none nb⟩,zj6 t (A.hd cm) (Nat.succ_ne_self _) hp hr (Nat.ne_of_lt llt) (Nat.ne_of_lt (Nat.lt_succ_of_lt llt)),⟨_,by simpa using he⟩,hit⟩
 cases t with
 |false=>exact call_enumerate_list (hp (fun _ _ e=>e) u.fh:s1.heap.IsList l qc) fun h' he hit _ hk=>fin h' he hit hk
 |true=>exact zex (hp (fun _ _ e=>e) u.fh:s1.heap.IsTuple l qc) fun h' he hit _ hk=>fin h' he hit hk
theorem zj1:∀(xs ys:List T),(ybj xs ys).length=min xs.length ys.length
 |[],_=>by simp[ybj]
 |_::_,[]=>by simp[ybj]
 |x::xs,y::ys=>by simp[ybj,zj1 xs ys]
theorem zpr:∀{xs ys:List T}{i:Nat}{t:T},(ybj xs ys)[i]?=some t->∃x y,xs[i]?=some x/\ys[i]?=some y/\t=.tup [x,y]
 |[],_,_,_,h=>by simp[ybj]at h
 |_::_,[],_,_,h=>by simp[ybj]at h
 |x::xs,y::ys,0,t,h=>by simp[ybj]at h;exact⟨x,y,rfl,rfl,h.symm⟩
 |x::xs,y::ys,i+1,t,h=>by simpa using zpr (xs:=xs) (ys:=ys) (i:=i) (by simpa[ybj]using h)
theorem ane{a b:Nat}(h:a<b\/b<a):(show Addr from a)≠(show Addr from b):=fun e=>by have e:a=b:=e;lia
theorem anm{z a b:Nat}(h1:z<a\/a<z)(h2:z<b\/b<z):(show Addr from z)∉[(show Addr from a),(show Addr from b)]:=fun e=>by
 rcases omc e with e|e
 .exact ane h1 e
 .exact ane h2 (omg e)
theorem zap{N l1 l2:Nat}(h1:l1<N)(h2:l2<N):ZAp (N+4) (N+2) (N+3) N (N+1) [N,l1] [N+1,l2] :=
 ⟨⟨ane (by lia),ane (by lia),ane (by lia),ane (by lia)⟩,⟨ane (by lia),ane (by lia),ane (by lia)⟩,⟨ane (by lia),ane (by lia)⟩,ane (by lia),⟨anm (by lia) (by lia),anm (by lia) (by lia)⟩,⟨anm (by lia) (by lia),anm (by lia) (by lia)⟩,⟨anm (by lia) (by lia),anm (by lia) (by lia)⟩⟩
theorem znu(t1 t2:Bool){l1 l2 M:Nat}(hh:Y.A.handled=none)(h1:l1<M)(h2:l2<M)(hp:∀{s:Shared}{G:Fz},F.le G->G.In s.heap->IsB t1 s.heap l1 qc)(hq:∀{s:Shared}{G:Fz},F.le G->G.In s.heap->IsB t2 s.heap l2 jts)(hr:Reps Y.w F ts qc.toList)(hs:Reps Y.w F us jts.toList):Walk Y (.Tuple elts kx p2) (ybj ts us) F [M+4,M+2,M+3,M,M+1] (M+4) fun i h=>IsZip h (M+4) (M+2) (M+3) .none/\IsPair h (M+2) (.ref M) (.ref (M+1))/\(∃a b,IsPair h (M+3) a b)/\ItB t1 h M l1 i/\ItB t2 h (M+1) l2 i:=by
 have D1:=yck (prog:=Y.prog) (w:=Y.w) (A:=Y.A.in1) t1 hh M l1 (ane (.inl h1)) qc;have D2:=yck (prog:=Y.prog) (w:=Y.w) (A:=Y.A.in1) t2 hh (M+1) l2 (ane (by lia)) jts;have z1:=zbf hr;have z2:=zbf hs;refine⟨fun q b hb=>?_,fun q k=>?_,fun{i x s G E}le hi fn q ex=>?_,fun{i s G E}le hi fn q ex=>?_,fun q h=>wpAny_pyIter_zip q.1 h⟩
 .obtain⟨s1,s2,⟨a,c,s3⟩,s4,s5⟩:=q;simp only[List.mem_cons,List.not_mem_nil,or_false]at hb;rcases hb with rfl|rfl|rfl|rfl|rfl
  .exact⟨_,s1⟩
  .exact⟨_,s2⟩
  .exact⟨_,s3⟩
  .exact s4.obj
  .exact s5.obj
 .obtain⟨s1,s2,⟨a,c,s3⟩,s4,s5⟩:=q;exact⟨k _ (by simp) _ s1,k _ (by simp) _ s2,⟨a,c,k _ (by simp) _ s3⟩,s4.at fun o e=>k _ (by simp) o e,s5.at fun o e=>k _ (by simp) o e⟩
 .obtain⟨s1,s2,⟨a,c,s3⟩,s4,s5⟩:=q;obtain⟨x,y,hx,hy,rfl⟩:=zpr ex;obtain⟨u,hu,ru⟩:=hr.get hx;obtain⟨u',hu',ru'⟩:=hs.get hy;rw[zx9]at hu hu';have zlt:M+4<s.heap.objs.size:=zx5 s1;refine zjs D1 D2 (zap h1 h2) s1 s2 s3 ⟨s4,hp le hi⟩ ⟨s5,hq le hi⟩ (Array.getElem?_eq_some_iff.mp hu).1 (Array.getElem?_eq_some_iff.mp hu').1 fun v v' g tk hv hv' b3 b4 b5 b6 b7 b8 b9=>⟨_,rfl,wpAny_letOwnedTupleGo_zip b3 fun g2 e1 e2=>?_⟩;have hv:qc[i]?=some v:=hv;have hv':jts[i]?=some v':=hv';rw[hu]at hv;rw[hu']at hv';cases hv;cases hv';have up:∀b o,b≠M+4->g.get? b=some o->g2.get? b=some o:=fun b o hb e=>(e2.2 b hb).trans e;have nT:s.heap.objs.size≠M+4:=Nat.ne_of_gt zlt;refine⟨_,UpX.lay (k:=tk) hi fn (fun b hb=>?_) (fun b o hb e=>?_) (up _ _ nT b7),⟨_,_,_,_,rfl,zbs,rfl,rfl,by show 2<=sizeLine;decide,.cons ((ru.mono le).mono (zbm (hi.none zac))) (.cons ((ru'.mono le).mono (zbm (hi.none zac))) rfl)⟩,e1,?_,⟨_,_,up _ _ (ane (a:=M+3) (b:=M+4) (by lia)) b4⟩,?_,?_⟩
  .have zl:M+4<s.heap.objs.size:=zlt;simp only[List.mem_cons,List.not_mem_nil,or_false]at hb;rcases hb with e|e|e|e|e<;>(rw[e];exact zye (show(_:Nat)<_ by lia))
  .simp only[List.mem_cons,List.not_mem_nil,or_false,not_or]at hb;exact up b o hb.1 (b9 b o hb.1 hb.2.2.1 hb.2.2.2.1 hb.2.2.2.2 e)
  .exact up _ _ (ane (a:=M+2) (b:=M+4) (by lia)) (b9 _ _ (ane (a:=M+2) (b:=M+4) (by lia)) (ane (a:=M+2) (b:=M+3) (by lia)) (ane (a:=M+2) (b:=M) (by lia)) (ane (a:=M+2) (b:=M+1) (by lia)) s2)
  .exact b5.1.at fun o e=>up _ o (ane (a:=M) (b:=M+4) (by lia)) e
  .exact b6.1.at fun o e=>up _ o (ane (a:=M+1) (b:=M+4) (by lia)) e
 .obtain⟨s1,s2,⟨a,c,s3⟩,s4,s5⟩:=q;rw[zj1,<-z1,<-z2]at ex;refine zlv D1 D2 (zap h1 h2) s1 s2 s3 ⟨s4,hp le hi⟩ ⟨s5,hq le hi⟩ (k:=i) (by lia) fun g tk hk=>⟨rfl,?_⟩;have hk':∀b o,b∉[M+4,M+2,M+3,M,M+1]->s.heap.get? b=some o->g.get? b=some o:=fun b o hb e=>by simp only[List.mem_cons,List.not_mem_nil,or_false,not_or]at hb;exact hk b o hb.1 hb.2.2.1 hb.2.2.2.1 hb.2.2.2.2 e
  exact⟨hk',rfl,id,fun _ _ e=>e,fun b o q=>hk' b o (fun z=>by rw[fn b z]at q;cases q) (hi b o q),fun _ z=>.inl z,fn⟩
theorem zr3(cm:Y.calm)(hg:Gl Y "zip")(hm:Y.mg "zip"=none)(ha:Oke Y N a f)(hb:Oke Y N b g)(hs:starEach [a,b] Y.env=(false,eval a Y.env)::starEach [b] Y.env)(hs2:starEach [b] Y.env=[(false,eval b Y.env)]):OkI Y N (.Tuple elts kx p2) (.Call (.Name "zip" p) [a,b] [] pos) fun r=>(f r).bind fun x=>(g r).bind fun y=>items .zip [x,y]:=fun{s F r qc E}A q=>by
 obtain⟨x,e1,q⟩:=obs q;obtain⟨y,e2,q⟩:=obs q;have two:=za5 ha (za5 hb zcq (by rw[hs2];rfl)) hs pos A (ts:=[x,y]) (E:=E) (by simp only[e1,e2];rfl);refine Call_ (zcf A hg hm (show bootBuiltins "zip"=some (.type "zip") by decide +kernel) (PyProof.Rows.callWith_type1 (thn two fun us s1 z=>?_) hs (by rw[hs2];rfl)) (by decide) (by decide));obtain⟨G,u,v1,w1,rfl,r1,v2,w2,rfl,r2,r3⟩:=z;cases r3;have qs:∃ts us,x=.tup ts/\yby y=some us/\qc=ybj ts us:=by
  cases x with
  |tup ts=>obtain⟨us,q1,q2⟩:=obs (show((yby y).bind fun ys=>some (ybj ts ys))=some qc from q);cases q2;exact⟨ts,us,rfl,q1,rfl⟩
  |_=>cases q
 obtain⟨ts,us,rfl,q2,rfl⟩:=qs;obtain⟨t1,l1,xs,rfl,hp,hr,o1,ho1⟩:=zmn (show yby (.tup ts)=some ts from rfl) r1;obtain⟨t2,l2,ys,rfl,hq,hr2,o2,ho2⟩:=zmn q2 r2;have lt1:l1<s1.heap.objs.size:=zx5 (u.fh _ _ ho1);have lt2:l2<s1.heap.objs.size:=zx5 (u.fh _ _ ho2);have et:t1=true:=by
  obtain⟨a,o,qc,n,e,f,c,d,_⟩:=r1;cases e;cases t1 with
  |true=>rfl
  |false=>obtain⟨o',e',c',_⟩:=(show s1.heap.IsList l1 xs from hp (fun _ _ e=>e) u.fh);rw[u.fh _ _ f]at e';cases e';exact absurd (c.symm.trans c') tl
 subst et;have fin:∀{g:Heap},IsZip g (s1.heap.objs.size+4) (s1.heap.objs.size+2) (s1.heap.objs.size+3) .none->IsPair g (s1.heap.objs.size+2) (.ref s1.heap.objs.size) (.ref (s1.heap.objs.size+1))->IsPair g (s1.heap.objs.size+3) .none .none->
   ItB true g s1.heap.objs.size l1 0->ItB t2 g (s1.heap.objs.size+1) l2 0->(∀c o,s1.heap.get? c=some o->g.get? c=some o)->wpAny Y.M Y.A (pyIter (.ref (s1.heap.objs.size+4))) (fun itv s2=>∃it fp tn G,itv=.ref it/\Up F s G s2/\(∀b∈fp,s.heap.get? b=none/\G b=none)/\Walk Y (.Tuple elts kx p2) (ybj ts us) G fp it tn/\tn 0 s2.heap) E {s1 with heap:=g}:=fun{g}y1 y2 y3 y4 y5 k=>by
  refine wpAny_pyIter_zip (s:={s1 with heap:=g}) y1 ⟨_,_,_,G,rfl,u.trans (Up.kept (k:=s1.toks) u.fh k),fun b hb=>?_,znu true t2 (M:=s1.heap.objs.size) (A.hd cm) lt1 lt2 hp hq hr hr2,y1,y2,⟨_,_,y3⟩,y4,y5⟩;have le:s1.heap.objs.size<=b:=by simp only[List.mem_cons,List.not_mem_nil,or_false]at hb;rcases hb with e|e|e|e|e<;>(rw[e];show(_:Nat)<=_;lia)
  have nb:=Heap.get?_none_of_le le;exact⟨u.old nb,u.fh.none nb⟩
 cases t2
 .exact zpg (hp (fun _ _ e=>e) u.fh) (hq (fun _ _ e=>e) u.fh) fun g y1 y2 y3 y4 y5 _ k=>fin y1 y2 y3 y4 y5 k
 .exact zpf (hp (fun _ _ e=>e) u.fh) (hq (fun _ _ e=>e) u.fh) fun g y1 y2 y3 y4 y5 _ k=>fin y1 y2 y3 y4 y5 k
end Nb
section
namespace Nb
open PySem Spec PyProof.Rows Ev
def plE:Expr->Bool
 |.Constant ..=>true
 |.Name ..=>true
 |.BinOp ..=>true
 |.UnaryOp ..=>true
 |.BoolOp ..=>true
 |.Compare ..=>true
 |.Tuple ..=>true
 |.List ..=>true
 |.Subscript ..=>true
 |.Call _ (_::_) _ _=>true
 |.ListComp ..=>true
 |.IfExp ..=>true
 |.Dict ..=>true
 |_=>false
def zed:Expr->Bool
 |.ListComp ..=>true
 |_=>false
def sliE:Expr->Bool
 |.Slice ..=>true
 |_=>false
def truE:Expr->Bool
 |.Name ..=>true
 |.Call ..=>true
 |.Subscript ..=>true
 |_=>false
section
variable {e:Expr}{env:PySem.Env}
theorem zal(h:plE e=true)(es:List Expr)(env:PySem.Env):starEach (e::es) env=(false,eval e env)::starEach es env:=by cases e<;>first|rfl|cases h
theorem zha(h:plE e=true)(m:Str)(env:PySem.Env)(w:Sem Value):attributeBase e m env w=w:=by
 cases e with
 |Call f args kws pos=>
  cases args with
  |nil=>cases h
  |cons a as=>cases f<;>rfl
 |_=>rfl
theorem zk7(h:plE e=true)(env:PySem.Env):∀x,foldedSetIterable e env x=pure x:=by cases e<;>first|(intro x;rfl)|cases h
theorem zh9(h:plE e=true)(op:CmpOp):behindInMarks op e=false:=by cases e<;>first|rfl|cases h
theorem zfn(h:plE e=true)(hc:zed e=false)(t:a7 Expr)(l:Nat)(env:PySem.Env):swapsWith e t l env=pure false:=by cases e<;>first|rfl|(cases hc;done)|(cases h;done)
theorem zw3(h:sliE e=false):zf9 e:=by cases e<;>first|(intro o i;rfl)|cases h
theorem ztw(h:truE e=true)(env:PySem.Env):∀w,isTrue e env w=(do let v <-w;standAt e.pos;holding [v] (truthy v)):=by cases e<;>first|(intro w;rfl)|cases h
end
def bnames:List Str:=["len", "int", "list", "tuple", "min", "max", "any", "sorted", "dict", "range", "enumerate", "zip", "isinstance", "bool", "set"]
structure Gd(Y:Yc)(c:Tc)(G:Glo):Prop where
 sc:ScR Y c.sc
 rm:Y.Rm
 cm:Y.calm
 bn:∀x∈bnames,Y.mg x=none
 call:∀f ts,((G.call f ts).isSome=true\/(G.exc f ts).isSome=true)->∃k a fd ps,Fn Y.toPc k a fd ps (G.call f) (G.exc f)/\Room k Y.A/\Y.mg f=some (.ref a)/\W.keepIn Y.K (.ref a)=true/\(∀us:List Value,us.length=ps.length->bindArgs fd ⟨us,[]⟩=pure (ps.zip us))/\(∀{ts t},G.call f ts=some t->ts.length=ps.length)/\∀{ts t},G.exc f ts=some t->ts.length=ps.length
structure VE(c:Tc)(e:Expr) where
 x:E
 pl:plE e=true
 ok:∀{Y G},Gd Y c G->Oke Y c.N e (evE G x)
structure TE(c:Tc)(e:Expr) where
 x:E
 ok:∀{Y G},Gd Y c G->Okb Y c.N e (evE G x)
structure WE(c:Tc)(e:Expr) where
 x:E
 ok:∀{Y G},Gd Y c G->Okw Y c.N e (evE G x)
structure LE(c:Tc)(es:List Expr) where
 xs:List E
 len:xs.length=es.length
 ok:∀{Y G},Gd Y c G->Oks Y c.N es (yal G xs)
 pl:∀(pos:Pos)(env:PySem.Env),(backTo pos (starEach es env)).any (·.1)=false
structure PE(c:Tc)(o:Option Expr) where
 x:Option E
 ok:∀{Y G},Gd Y c G->Okp Y c.N o (evO G x)
structure Rd where
 v:∀c e,Option (VE c e)
 t:∀c e,Option (TE c e)
variable {c:Tc}{e a b:Expr}{pos p:Pos}
theorem zbc{x:Str}(h:zai x=true):(x==("__debug__":Str))=false/\(x==("__classdict__":Str))=false/\x≠"__name__":=by simp only[zai,Bool.and_eq_true,Bool.not_eq_true']at h;exact⟨h.1.1.1,h.1.1.2,by simpa using h.1.2⟩
def yfj(c:Tc)(x:Str)(p:Pos):a7 (VE c (.Name x p)) :=
 if h:(zai x&&yef c.sc x)=true then
  match h2:yaf c.nm x with
  |some i=>some ⟨.var i,rfl,fun{Y G}_=>zll (N:=c.N) (i:=i) ⟨(zxw _ _▸h).1,(zxw _ _▸h).2,h2⟩ (zbc (zxw _ _▸h).1).1 (zbc (zxw _ _▸h).1).2.1⟩
  |none=>none
 else none
def yeh(c:Tc):(k:Const)->(j:Nat)->(p:Pos)->a7 (VE c (.Constant k j p))
 |.none,j,p=>some ⟨.cst .non,rfl,fun _=>zu3⟩
 |.bool b,j,p=>some ⟨.cst (.bl b),rfl,fun _=>zr9⟩
 |.int i,j,p=>some ⟨.cst (.int i),rfl,fun _=>zie⟩
 |.str x,j,p=>some ⟨.cst (.str x),rfl,fun _=>zgj⟩
 |_,_,_=>none
def boOf:(op:Operator)->Option {o:Bo // ∀{Y:Yc},Op2 Y (binaryOp op) (yc5 o)}
 |.Add=>some ⟨.add,zp2⟩
 |.Sub=>some ⟨.sub,zuu⟩
 |.Mult=>some ⟨.mul,zuv⟩
 |.FloorDiv=>some ⟨.fdiv,zr1⟩
 |.Mod=>some ⟨.mod,zuw⟩
 |_=>none
def rBin(R:Rd)(c:Tc)(a:Expr)(op:Operator)(b:Expr)(p:Pos):a7 (VE c (.BinOp a op b p)) :=
 (boOf op).bind fun o=>(R.v c a).bind fun x=>(R.v c b).bind fun y=>some ⟨.bin o.1 x.x y.x,rfl,fun{Y G}g=>zp8 (R:=yc5 o.1) o.2 (x.ok g) (y.ok g)⟩
def rLs(R:Rd)(c:Tc):(es:List Expr)->a7 (LE c es)
 |[]=>some ⟨[],rfl,fun _=>zcq,fun _ _=>rfl⟩
 |e::es=>(R.v c e).bind fun x=>(rLs R c es).bind fun xs=>some ⟨x.x::xs.xs,by simp[xs.len],fun{Y G}g=>za5 (x.ok g) (xs.ok g) (zal x.pl es Y.env),fun pos env=>by rw[zal x.pl];exact xs.pl pos env⟩
end Nb
section
namespace Nb
open PySem Spec PyProof.Rows Ev
variable {c:Tc}{e a b:Expr}{pos p:Pos}{G:Glo}{r:Ev.Env}
theorem zdu:∀{xs:List E}{r:Ev.Env}{ts:List T},yal G xs r=some ts->ts.length=xs.length
 |[],_,_,h=>by cases h;rfl
 |x::xs,r,ts,h=>by have h:((evE G x r).bind fun x=>(yal G xs r).bind fun xs=>some (x::xs))=some ts:=h;obtain⟨y,_,h⟩:=obs h;obtain⟨ys,h1,h⟩:=obs h;cases h;rw[zya,zdu h1,zya]
def zmk:Expr->Bool
 |.Constant .none _ _=>true
 |_=>false
def coOf:(op:CmpOp)->(nn:Bool)->Option {o:Co // ∀{Y:Yc},Y.Rm->Op2 Y (compareOp op) (yaw o)}
 |.Eq,_=>some ⟨.eq,fun h=>zuz h⟩
 |.NotEq,_=>some ⟨.ne,fun h=>zw5 h⟩
 |.Lt,_=>some ⟨.lt,fun _=>zw6⟩
 |.Gt,_=>some ⟨.gt,fun _=>zw7⟩
 |.In,_=>some ⟨.isin,fun h=>zr0 h⟩
 |.NotIn,_=>some ⟨.notin,fun h=>zoe h⟩
 |.Is,_=>some ⟨.isN,fun _=>zux⟩
 |.IsNot,true=>some ⟨.notN,fun _=>zry⟩
 |.IsNot,false=>some ⟨.notF,fun _=>zrz⟩
 |_,_=>none
def rCmp(R:Rd)(c:Tc)(a:Expr)(op:CmpOp)(b:Expr)(p:Pos):a7 (VE c (.Compare a [op] [b] p)) :=
 (coOf op (zmk b)).bind fun o=>(R.v c a).bind fun x=>(R.v c b).bind fun y=>some ⟨.cmp o.1 x.x y.x,rfl,fun{Y G}g=>zu6 (R:=yaw o.1) (o.2 g.rm) (x.ok g) (y.ok g) (zh9 y.pl op)⟩
def yfl(R:Rd)(c:Tc)(a:Expr)(op:CmpOp)(b:Expr)(p:Pos):a7 (TE c (.Compare a [op] [b] p)) :=
 (coOf op (zmk b)).bind fun o=>(R.v c a).bind fun x=>(R.v c b).bind fun y=>some ⟨.cmp o.1 x.x y.x,fun{Y G}g=>zpw (R:=yaw o.1) (o.2 g.rm) (x.ok g) (y.ok g) (zh9 y.pl op) znh⟩
def rUn(R:Rd)(c:Tc):(o:UnaryOp)->(a:Expr)->(p:Pos)->a7 (VE c (.UnaryOp o a p))
 |.Not,a,p=>(R.v c a).bind fun x=>some ⟨.lnot x.x,rfl,fun{Y G}g=>zu2 (x.ok g)⟩
 |.USub,a,p=>(R.v c a).bind fun x=>some ⟨.neg x.x,rfl,fun{Y G}g=>zp5 (x.ok g)⟩
 |_,_,_=>none
def rBo(R:Rd)(c:Tc):(o:BoolOp)->(es:List Expr)->(p:Pos)->a7 (VE c (.BoolOp o es p))
 |o,[a],p=>(R.v c a).bind fun x=>some ⟨x.x,rfl,fun{Y G}g=>zu1 (x.ok g)⟩
 |.And,a::b::es,p=>(R.v c a).bind fun x=>(rBo R c .And (b::es) p).bind fun y=>some ⟨.land x.x y.x,rfl,fun{Y G}g=>zu9 (x.ok g) (y.ok g)⟩
 |.Or,a::b::es,p=>(R.v c a).bind fun x=>(rBo R c .Or (b::es) p).bind fun y=>some ⟨.lor x.x y.x,rfl,fun{Y G}g=>zw9 (x.ok g) (y.ok g)⟩
 |_,[],_=>none
def rBw(R:Rd)(c:Tc):(o:BoolOp)->(es:List Expr)->(p:Pos)->a7 (WE c (.BoolOp o es p))
 |.And,[a],p=>(R.t c a).bind fun x=>some ⟨x.x,fun{Y G}g=>zkc (x.ok g)⟩
 |.Or,[a],p=>(R.t c a).bind fun x=>some ⟨x.x,fun{Y G}g=>ztv (x.ok g)⟩
 |.And,a::b::es,p=>(R.t c a).bind fun x=>(rBw R c .And (b::es) p).bind fun y=>some ⟨.land x.x y.x,fun{Y G}g=>zkd (x.ok g) (y.ok g)⟩
 |.Or,a::b::es,p=>(R.t c a).bind fun x=>(rBw R c .Or (b::es) p).bind fun y=>some ⟨.lor x.x y.x,fun{Y G}g=>zwx (x.ok g) (y.ok g)⟩
 |_,[],_=>none
def rTru(R:Rd)(c:Tc)(e:Expr):a7 (TE c e) :=
 if h:truE e=true then(R.v c e).bind fun x=>some ⟨.tru x.x,fun{Y G}g=>zt3 (x.ok g) (ztw h Y.env)⟩else none
def rT(R:Rd)(c:Tc):(e:Expr)->a7 (TE c e)
 |.BoolOp o es p=>(rBw R c o es p).bind fun x=>some ⟨x.x,fun{Y G}g=>Okw.okb (x.ok g)⟩
 |.UnaryOp .Not a p=>(R.t c a).bind fun x=>some ⟨.lnot x.x,fun g=>zlk (x.ok g)⟩
 |.Compare a [op] [b] p=>yfl R c a op b p
 |e=>rTru R c e
def rTup(R:Rd)(c:Tc)(es:List Expr)(k:_)(p:Pos):a7 (VE c (.Tuple es k p)) :=
 (rLs R c es).bind fun xs=>some ⟨.tup xs.xs,rfl,fun{Y G}g=>zp4 (n:=xs.xs.length) zdu (xs.ok g)⟩
def rLst(R:Rd)(c:Tc)(es:List Expr)(p:Pos):a7 (VE c (.List es p)) :=
 (rLs R c es).bind fun xs=>some ⟨.lst xs.xs,rfl,fun{Y G}g=>zp6 (n:=xs.xs.length) zdu (xs.ok g)⟩
def rO(R:Rd)(c:Tc):(o:a7 Expr)->a7 (PE c o)
 |none=>some ⟨none,fun _=>zog⟩
 |some e=>(R.v c e).bind fun x=>some ⟨some x.x,fun g=>zof (x.ok g)⟩
def rIdx(R:Rd)(c:Tc)(a b:Expr)(p:Pos):a7 (VE c (.Subscript a b p)) :=
 if h:sliE b=false then(R.v c a).bind fun x=>(R.v c b).bind fun y=>some ⟨.idx x.x y.x,rfl,fun{Y G}g=>zu5 g.rm (x.ok g) (y.ok g) (zw3 h)⟩else none
def rSub(R:Rd)(c:Tc)(a:Expr):(b:Expr)->(p:Pos)->a7 (VE c (.Subscript a b p))
 |.Slice lo hi none p2,p=>(R.v c a).bind fun x=>(rO R c lo).bind fun l=>(rO R c hi).bind fun h=>some ⟨.sli x.x l.x h.x,rfl,fun{Y G}g=>zu0 (x.ok g) (l.ok g) (h.ok g)⟩
 |b,p=>rIdx R c a b p
def rIfe(R:Rd)(c:Tc)(t a b:Expr)(p:Pos):a7 (VE c (.IfExp t a b p)) :=
 (R.t c t).bind fun z=>(R.v c a).bind fun x=>(R.v c b).bind fun y=>some ⟨.ife z.x x.x y.x,rfl,fun{Y G}g=>zu4 (z.ok g) (x.ok g) (y.ok g)⟩
def ydm(R:Rd)(c:Tc)(f:Str)(p:Pos)(e:Expr)(es:List Expr)(pos:Pos):a7 (VE c (.Call (.Name f p) (e::es) [] pos)) :=
 if h:(zai f&&glB c.sc f)=true then(R.v c e).bind fun x=>(rLs R c es).bind fun xs=>some ⟨.call f (x.x::xs.xs),rfl,fun{Y G}g{s F r t E}A q=>by rw[zxw]at h;have q:((yal G (x.x::xs.xs) r).bind fun xs=>G.call f xs)=some t:=q;obtain⟨ts,e1,q1⟩:=obs q;obtain⟨k,a,fd,ps,hF,hr,hm,hk,hb,hl,_⟩:=g.call f ts (.inl (by rw[q1];rfl));exact zr8 (sp:=G.call f) hF hr (g.sc.gl f h.2) hm hk hb hl (za5 (x.ok g) (xs.ok g) (zal x.pl es Y.env)) (zbc h.1).1 (zal x.pl es Y.env) (xs.pl pos Y.env) A q⟩else none
structure BlR(f:Str) where
 k:Bn
 u:Value
 hu:(∃id,u=.builtin id)\/∃T,u=.type T
 hb:bootBuiltins f=some u
 mem:f∈bnames
 ok:∀{Y:Yc},Y.Rm->Y.calm->Bl Y u (yb2 k)
def bnOf(f:Str):a7 (BlR f) :=
 if h:f="len" then some (h▸⟨.len,.builtin "len",.inl ⟨_,rfl⟩,by decide +kernel,by decide,fun _ _=>zwm⟩)
 else if h:f="int" then some (h▸⟨.toInt,.type "int",.inr ⟨_,rfl⟩,by decide +kernel,by decide,fun _ _=>zwn⟩)
 else if h:f="list" then some (h▸⟨.toList,.type "list",.inr ⟨_,rfl⟩,by decide +kernel,by decide,fun _ _=>ztj⟩)
 else if h:f="tuple" then some (h▸⟨.toTuple,.type "tuple",.inr ⟨_,rfl⟩,by decide +kernel,by decide,fun _ _=>zpl⟩)
 else if h:f="min" then some (h▸⟨.least,.builtin "min",.inl ⟨_,rfl⟩,by decide +kernel,by decide,fun _ c=>zpm c⟩)
 else if h:f="max" then some (h▸⟨.most,.builtin "max",.inl ⟨_,rfl⟩,by decide +kernel,by decide,fun _ c=>zti c⟩)
 else if h:f="any" then some (h▸⟨.any,.builtin "any",.inl ⟨_,rfl⟩,by decide +kernel,by decide,fun _ c=>zwo c⟩)
 else if h:f="sorted" then some (h▸⟨.sorted,.builtin "sorted",.inl ⟨_,rfl⟩,by decide +kernel,by decide,fun r c=>znn r c⟩)
 else if h:f="dict" then some (h▸⟨.dict,.type "dict",.inr ⟨_,rfl⟩,by decide +kernel,by decide,fun r c=>ztk r c⟩)
 else none
def rBlt(R:Rd)(c:Tc)(f:Str)(p:Pos)(a:Expr)(pos:Pos):a7 (VE c (.Call (.Name f p) [a] [] pos)) :=
 if h:(zai f&&glB c.sc f)=true then(bnOf f).bind fun k=>(R.v c a).bind fun x=>some ⟨.blt k.k x.x,rfl,fun{Y G}g=>by rw[zxw]at h;exact zu7 (g:=yb2 k.k) (k.ok g.rm g.cm) k.hu (g.sc.gl f h.2) (g.bn f k.mem) k.hb (zbc h.1).2.2 (zbc h.1).1 (x.ok g) (zal x.pl [] Y.env)⟩else none
def yfn(R:Rd)(c:Tc)(p p2:Pos)(a:Expr)(q2 pos:Pos):a7 (VE c (.Call (.Name "sorted" p) [.Call (.Name "set" p2) [a] [] q2] [] pos)) :=
 if h:(glB c.sc "sorted"&&glB c.sc "set")=true then(R.v c a).bind fun x=>some ⟨.blt .sset x.x,rfl,fun{Y G}g=>by rw[zxw]at h;exact zr6 g.rm g.cm (g.sc.gl _ h.1) (g.bn _ (by decide)) (g.sc.gl _ h.2) (g.bn _ (by decide)) (x.ok g) (zal x.pl [] Y.env)⟩else none
end Nb
section
namespace Nb
open PySem Spec PyProof.Rows Ev
variable {c:Tc}{e a b:Expr}{pos p:Pos}{G:Glo}{r:Ev.Env}{Y:Yc}{N:Str->Nat->Prop}{f g h:Ev.Env->a7 T}{o ke ve:Expr}{apos cpos:Pos}
theorem zr7(hu:Y.Rm)(ho:Oke Y N o f)(hk:Oke Y N ke g)(hv:Oke Y N ve h)(hbase:attributeBase o "get" Y.env (eval o Y.env)=eval o Y.env)(s1:starEach [ke,ve] Y.env=(false,eval ke Y.env)::starEach [ve] Y.env)(s2:starEach [ve] Y.env=[(false,eval ve Y.env)])(hl:(apos.endLine==cpos.line)=true):Oke Y N (.Call (.Attribute o "get" apos) [ke,ve] [] cpos) fun r=>(f r).bind fun x=>(g r).bind fun y=>(h r).bind fun z=>(match x with
   |.dic ks vs=>if yac ks y=true then some ((yae ks vs y).getD z)else none
   |_=>none):=fun{s F r t E}A q=>by
 obtain⟨x1,e1,q⟩:=obs q;obtain⟨x2,e2,q⟩:=obs q;obtain⟨x3,e3,q⟩:=obs q;refine wpAny_Call_method_late hbase (by rw[s1,s2];rfl) hl rfl (thn (ho A e1) fun v s1' z=>?_);obtain⟨G,u1,r1⟩:=z;cases x1 with
 |dic ks vs=>
  obtain⟨d,od,es,ep,rfl,fd,hm,D,rk,rv⟩:=r1;replace q:(if yac ks x2=true then some ((yae ks vs x2).getD x3)else none)=some t:=q;split at q
  .rename_i hkk;cases q;refine⟨"dict", "dict.get",PySem.F.plainAttrs_dict,PySem.F.slot_dict_get,PySem.F.type_dict_get,⟨_,u1.fh _ _ fd,D.ex.1⟩,fun c e=>by cases e;exact⟨_,u1.fh _ _ fd,D.ex.2.1⟩,?_⟩;refine Calls.callWith_builtin (by rw[s1,s2];rfl) ?_;rw[s1,s2];refine Calls.evalArgs_plain (Calls.spliced_cons (thn (hk (A.up u1) e2) fun kv s2' z=>?_));obtain⟨G2,u2,r2⟩:=z;refine Calls.spliced_cons (thn (hv ((A.up u1).up u2) e3) fun w s3 z=>Calls.spliced_nil ?_);obtain⟨G3,u3,r3⟩:=z;have le:G.le G3:=u2.ff.trans u3.ff;have D3:Dat Y.w G3 s3.heap d ks (es.toList.map (·.val)):=⟨od,es,ep,u3.fh _ _ (le _ _ fd),hm,D,rk.mono le,rfl⟩;refine zo3 ⟨by have:=hu;unfold Yc.Rm at this;lia,u3.fh,D3,hkk,r2.mono u3.ff⟩ ?_;refine⟨G3,(u1.trans (u2.trans u3)).trans (Up.tok u3.fh),?_⟩;have hl2:(es.toList.map (·.val)).length=ks.length:=D3.len;have hl3:vs.length=ks.length:=by rw[<-hl2,rv.length]
   rw[za2 hl2,za2 hl3];cases e:ixK ks x2 with
   |none=>exact r3
   |some i=>
    dsimp only[xbs];have hi:i<vs.length:=by rw[hl3];unfold ixK at e;rw[List.findIdx?_eq_some_iff_getElem]at e;exact e.1
    obtain⟨u,hu',ru⟩:=(rv.mono le).get (zxu hi);rw[hu',zxu hi];exact ru
  .cases q
 |_=>cases q
theorem Gd.blk{out scope:Scope}{xs nm:List Str}{L:Addr}(g:Gd Y ⟨out,nm⟩ G)(S:CsB out scope xs):Gd (ya1 Y scope L) ⟨scope,xs++nm⟩ G:=⟨ztg S g.sc,g.rm,g.cm,g.bn,g.call⟩
def rIsi(R:Rd)(c:Tc)(p:Pos)(a:Expr)(ty:Str)(p2 pos:Pos):a7 (VE c (.Call (.Name "isinstance" p) [a,.Name ty p2] [] pos)) :=
 if h:(glB c.sc "isinstance"&&glB c.sc ty)=true then
  if h2:ty="int" then(R.v c a).bind fun x=>some ⟨.isi x.x .tint,rfl,fun{Y G}g=>by subst h2;rw[zxw]at h;exact zlm (k:=.tint) (by decide +kernel) (by decide) (by decide) (g.bn _ (by decide)) (g.sc.gl _ h.2) (g.bn _ (by decide)) (g.sc.gl _ h.1) (x.ok g) (zal x.pl _ Y.env)⟩
  else if h2:ty="bool" then(R.v c a).bind fun x=>some ⟨.isi x.x .tbool,rfl,fun{Y G}g=>by subst h2;rw[zxw]at h;exact zlm (k:=.tbool) (by decide +kernel) (by decide) (by decide) (g.bn _ (by decide)) (g.sc.gl _ h.2) (g.bn _ (by decide)) (g.sc.gl _ h.1) (x.ok g) (zal x.pl _ Y.env)⟩
  else none
 else none
def rMth(R:Rd)(c:Tc)(o:Expr)(m:Str)(apos:Pos)(a:Expr)(cpos:Pos):a7 (VE c (.Call (.Attribute o m apos) [a] [] cpos)) :=
 if hl:(apos.endLine==cpos.line)=true then
  if h:m="index" then(R.v c o).bind fun x=>(R.v c a).bind fun y=>some ⟨.mth .index x.x y.x,rfl,fun{Y G}g=>by subst h;exact zid PySem.F.slot_list_index PySem.F.type_list_index (zii g.rm) (x.ok g) (y.ok g) (zha x.pl _ _ _) (zal y.pl [] Y.env) hl⟩
  else if h:m="count" then(R.v c o).bind fun x=>(R.v c a).bind fun y=>some ⟨.mth .count x.x y.x,rfl,fun{Y G}g=>by subst h;exact zid PySem.F.slot_list_count PySem.F.type_list_count (zij g.rm) (x.ok g) (y.ok g) (zha x.pl _ _ _) (zal y.pl [] Y.env) hl⟩
  else none
 else none
def rGet(R:Rd)(c:Tc)(o:Expr)(m:Str)(apos:Pos)(a b:Expr)(cpos:Pos):a7 (VE c (.Call (.Attribute o m apos) [a,b] [] cpos)) :=
 if hl:(apos.endLine==cpos.line)=true then
  if h:m="get" then(R.v c o).bind fun x=>(R.v c a).bind fun y=>(R.v c b).bind fun z=>some ⟨.dget x.x y.x z.x,rfl,fun{Y G}g=>by subst h;exact zr7 g.rm (x.ok g) (y.ok g) (z.ok g) (zha x.pl _ _ _) (zal y.pl _ Y.env) (zal z.pl [] Y.env) hl⟩
  else none
 else none
structure IE(c:Tc)(tg it:Expr) where
 k:Ik
 xs:List E
 fold:∀(env:PySem.Env)x,foldedSetIterable it env x=pure x
 ok:∀{Y G},Gd Y c G->OkI Y c.N tg it fun r=>(yal G xs r).bind (items k)
theorem ev1{x:E}{k:Ik}:(fun r=>(evE G x r).bind fun y=>items k [y])=fun r=>(yal G [x] r).bind (items k):=by funext r;show _=((evE G x r).bind fun x=>(some []).bind fun xs=>some (x::xs)).bind (items k);cases evE G x r<;>rfl
theorem ev2{x y:E}{k:Ik}:(fun r=>(evE G x r).bind fun u=>(evE G y r).bind fun v=>items k [u,v])=fun r=>(yal G [x,y] r).bind (items k):=by funext r;show _=((evE G x r).bind fun x=>((evE G y r).bind fun x=>(some []).bind fun xs=>some (x::xs)).bind fun xs=>some (x::xs)).bind (items k);cases evE G x r<;>first|rfl|(cases evE G y r<;>rfl)
def yb1(R:Rd)(c:Tc)(tg e:Expr):a7 (IE c tg e):=(R.v c e).bind fun x=>some ⟨.plain,[x.x],zk7 x.pl,fun{Y G}g=>ev1▸zlh g.cm (x.ok g)⟩
def ydr(R:Rd)(c:Tc)(tg:Expr)(p:Pos)(a:Expr)(pos:Pos):a7 (IE c tg (.Call (.Name "range" p) [a] [] pos)) :=
 if h:glB c.sc "range"=true then(R.v c a).bind fun x=>some ⟨.range,[x.x],fun _ _=>rfl,fun{Y G}g=>ev1▸zli g.cm (g.sc.gl _ h) (g.bn _ (by decide)) (x.ok g) (zal x.pl [] Y.env)⟩else none
def yf9(R:Rd)(c:Tc)(es:List Expr)(kx:_)(tp:Pos)(p:Pos)(a:Expr)(pos:Pos):a7 (IE c (.Tuple es kx tp) (.Call (.Name "enumerate" p) [a] [] pos)) :=
 if h:glB c.sc "enumerate"=true then(R.v c a).bind fun x=>some ⟨.enum,[x.x],fun _ _=>rfl,fun{Y G}g=>ev1▸zoj g.cm (g.sc.gl _ h) (g.bn _ (by decide)) (x.ok g) (zal x.pl [] Y.env)⟩else none
def rZip(R:Rd)(c:Tc)(es:List Expr)(kx:_)(tp:Pos)(p:Pos)(a b:Expr)(pos:Pos):a7 (IE c (.Tuple es kx tp) (.Call (.Name "zip" p) [a,b] [] pos)) :=
 if h:glB c.sc "zip"=true then(R.v c a).bind fun x=>(R.v c b).bind fun y=>some ⟨.zip,[x.x,y.x],fun _ _=>rfl,fun{Y G}g=>ev2▸zr3 g.cm (g.sc.gl _ h) (g.bn _ (by decide)) (x.ok g) (y.ok g) (zal x.pl _ Y.env) (zal y.pl [] Y.env)⟩else none
def rI1(R:Rd)(c:Tc)(f:Str)(p:Pos)(a:Expr)(pos:Pos):(tg:Expr)->a7 (IE c tg (.Call (.Name f p) [a] [] pos))
 |.Tuple es kx tp=>if h:f="enumerate" then h▸yf9 R c es kx tp p a pos else if h:f="range" then h▸ydr R c _ p a pos else yb1 R c _ _
 |tg=>if h:f="range" then h▸ydr R c _ p a pos else yb1 R c _ _
def rI2(R:Rd)(c:Tc)(f:Str)(p:Pos)(a b:Expr)(pos:Pos):(tg:Expr)->a7 (IE c tg (.Call (.Name f p) [a,b] [] pos))
 |.Tuple es kx tp=>if h:f="zip" then h▸rZip R c es kx tp p a b pos else yb1 R c _ _
 |tg=>yb1 R c _ _
def rI(R:Rd)(c:Tc)(tg:Expr):(e:Expr)->a7 (IE c tg e)
 |.Call (.Name f p) [a] [] pos=>rI1 R c f p a pos tg
 |.Call (.Name f p) [a,b] [] pos=>rI2 R c f p a b pos tg
 |e=>yb1 R c tg e
structure FE(c:Tc)(ifs:List Expr) where
 x:Option E
 ok:∀{Y G},Gd Y c G->Okf Y c.N ifs (evO G x)
def rF(R:Rd)(c:Tc):(ifs:List Expr)->a7 (FE c ifs)
 |[]=>some ⟨none,fun _=>zr5⟩
 |[t]=>(R.t c t).bind fun x=>some ⟨some x.x,fun g=>zr4 (x.ok g)⟩
 |_=>none
theorem znf{n:Nat}{k:Ik}{elt:E}{src:List E}{cond:a7 E}:yb4 n (fun r=>(yal G src r).bind (items k)) (evO G cond) (evE G elt)=evE G (.comp elt n k src cond):=by funext r;show _=(yal G src r).bind fun xs=>(yas k xs).bind fun qc=>(ya4 (elM n r (evO G cond) (evE G elt)) qc).map T.lst;unfold yb4 yas;dsimp only;cases yal G src r<;>rfl
def yfw(R:Rd)(c:Tc)(elt tg it:Expr)(ifs:List Expr)(scope:Scope)(pos:Pos):a7 (VE c (.ListComp elt [⟨tg,it,ifs,0⟩] scope pos)) :=
 match htg:zcb tg with
 |none=>none
 |some xs=>
  if h:(zc7 c.sc scope xs&&(!ybb tg||decide (2<=xs.length))&&decide (xs≠[]))=true then
   (rI R c tg it).bind fun i=>(rF R ⟨scope,xs++c.nm⟩ ifs).bind fun t=>(R.v ⟨scope,xs++c.nm⟩ elt).bind fun x=>some ⟨.comp x.x xs.length i.k i.xs t.x,rfl,fun{Y G}g=>by
    simp only[Bool.and_eq_true,decide_eq_true_eq]at h;obtain⟨⟨h1,h2⟩,h3⟩:=h;have S:=zqq h1;have g':∀L,Gd (ya1 Y scope L) ⟨scope,xs++c.nm⟩ G:=fun L=>g.blk S;rw[<-znf];have h2':ybb tg=true->2<=xs.length:=fun z=>by rw[z]at h2;simpa using h2
    have z:Oke Y (Tc.N ⟨c.sc,c.nm⟩) (.ListComp elt [⟨tg,it,ifs,0⟩] scope pos) (yb4 xs.length (fun r=>(yal G i.xs r).bind (items i.k)) (evO G t.x) (evE G x.x)):=zlo g.cm S g.sc htg h2' h3 (i.ok g) (i.fold Y.env) (fun L=>t.ok (g' L)) (fun L=>x.ok (g' L));exact @z⟩
  else none
def rC0(R:Rd)(c:Tc)(f:Str)(p:Pos)(a:Expr)(pos:Pos):a7 (VE c (.Call (.Name f p) [a] [] pos)):=if bnames.contains f then rBlt R c f p a pos else ydm R c f p a [] pos
def rC1(R:Rd)(c:Tc)(f:Str)(p:Pos):(a:Expr)->(pos:Pos)->a7 (VE c (.Call (.Name f p) [a] [] pos))
 |.Call (.Name f2 p2) [b] [] q2,pos=>if h:f="sorted"/\f2="set" then by obtain⟨rfl,rfl⟩:=h;exact yfn R c p p2 b q2 pos else rC0 R c f p _ pos
 |a,pos=>rC0 R c f p a pos
def rC2(R:Rd)(c:Tc)(f:Str)(p:Pos)(a:Expr):(b:Expr)->(pos:Pos)->a7 (VE c (.Call (.Name f p) [a,b] [] pos))
 |.Name ty p2,pos=>if h:f="isinstance" then h▸rIsi R c p a ty p2 pos else ydm R c f p a [.Name ty p2] pos
 |b,pos=>ydm R c f p a [b] pos
def rV(R:Rd)(c:Tc):(e:Expr)->a7 (VE c e)
 |.Constant k j p=>yeh c k j p
 |.Name x p=>yfj c x p
 |.BinOp a op b p=>rBin R c a op b p
 |.UnaryOp o a p=>rUn R c o a p
 |.BoolOp o es p=>rBo R c o es p
 |.Compare a [op] [b] p=>rCmp R c a op b p
 |.Tuple es k p=>rTup R c es k p
 |.List es p=>rLst R c es p
 |.Subscript a b p=>rSub R c a b p
 |.IfExp t a b p=>rIfe R c t a b p
 |.Call (.Name f p) [a] [] pos=>rC1 R c f p a pos
 |.Call (.Name f p) [a,b] [] pos=>rC2 R c f p a b pos
 |.Call (.Name f p) (e::es) [] pos=>ydm R c f p e es pos
 |.Call (.Attribute o m apos) [a] [] cpos=>rMth R c o m apos a cpos
 |.Call (.Attribute o m apos) [a,b] [] cpos=>rGet R c o m apos a b cpos
 |.ListComp elt [⟨tg,it,ifs,0⟩] scope pos=>yfw R c elt tg it ifs scope pos
 |_=>none
def rd:Nat->Rd
 |0=>⟨fun _ _=>none,fun _ _=>none⟩
 |n+1=>⟨rV (rd n),rT (rd n)⟩
end Nb
section
namespace Nb
open PySem Spec PyProof.Rows Ev Ev.Ex
def ybq(C z:Addr)(dx:a7 Addr):Obj:={cls:=.ref C,dict:=dx,data:=.fields #[.ref z,.none,.none,.none,.bool false,.none]}
structure XC(K:W.Frag)(C:Addr):Prop where
 ob:∃k y N b l hd s8 sub ab cl dd k0 k1 k2 k3 k5,K.lookup C=some (excClassObj k y C N b l hd s8 sub ab cl dd k0 k1 k2 k3 k5 "ValueError.__new__")/\Mr "ValueError" l
 at_:∃cd rs,W.clsIn K C=some cd/\cd.mro=List.map Value.ref rs++veL/\cd.hasDict=true
 sa:W.findIn K (.ref C) "__setattr__"=some (some (.builtin "object.__setattr__"))
 na:W.findIn K (.ref C) "at"=some none
theorem fv(K:W.Frag):W.findCls K (.type "ValueError") (.type "type") "__init__"=some (.val (.builtin "ValueError.__init__")):=by kernel_rfl
variable {P:Pc}{k:Nat}{f C z e:Addr}{name qual:Str}{params:Arguments}{sc:Scope}{dV kV doc pm cdv ct oc:Value}{an od:a7 Addr}{osl:Array (a7 Value)}{p ap pos p1 p2 q1 p3 p4 p5 q2:Pos}{A:Around}{l:List PySem.Env}{F:Fz}{s:Shared}{args:Args}{wV nV:Value}{R:Result->Shared->Prop}
abbrev iniN:List Str:=["self", "words", "at"]
abbrev yf6(p ap p1 p2 pos q1 p3 p4 p5 q2:Pos):List Stmt:=[.Expr (.Call (.Attribute (.Name "ValueError" p) "__init__" ap) [.Name "self" p1,.Name "words" p2] [] pos) q1,.Assign [.Attribute (.Name "self" p3) "at" p4] (.Name "at" p5) q2]
theorem zsr(lk:P.K.lookup f=some ⟨oc,od,.func (W.fnOf name qual params (yf6 p ap p1 p2 pos q1 p3 p4 p5 q2) sc dV kV doc pm an cdv ct),osl⟩)(hcd:W.codeIn P.K cdv qual=true)(S:FnScope iniN iniN sc)(v0:sc.names.lookup ("self":Str)=some .local)(v1:sc.names.lookup ("words":Str)=some .local)(v2:sc.names.lookup ("at":Str)=some .local)(vg:sc.names.lookup ("ValueError":Str)=some .globalImplicit)(hm:P.mg "ValueError"=none) (ht:∀env:PySem.Env,∃pl:Sem Bool,eval (.Call (.Attribute (.Name "ValueError" p) "__init__" ap) [.Name "self" p1,.Name "words" p2] [] pos) env=(do
   let ov <-eval (.Name "ValueError" p) env
   standAt ap.atName
   let(f,first) <-holding [ov] (getMethod ov "__init__" pl)
   callWith pos f first (backTo pos (starEach [.Name "self" p1,.Name "words" p2] env)) (backToKw pos (keywordEach [] env))))
  (hr:Room (k+1) A) (h:St P A l F s) (he:s.heap.get? e=some (ybq C z none)) (hbe:P.base.get? e=none) (xc:XC P.K C)
  (hb:BindsTo s (W.fnOf name qual params (yf6 p ap p1 p2 pos q1 p3 p4 p5 q2) sc dV kV doc pm an cdv ct) args (iniN.zip [.ref e,wV,nV]))
  (q:∀h' tk z' dx,(∀b o,b≠e->s.heap.get? b=some o->h'.get? b=some o)->h'.get? e=some (ybq C z' (some dx))->s.heap.get? dx=none->dx≠e->h'.Ns1 dx (fun x=>if x="at" then some nV else none)->R (.ok (.ret .none)) {s with heap:=h',toks:=tk}):
  codeAny P.M A (.call (.ref f) args) R s:=by
 have KX:P.K.In s.heap:=h.mod.kin.keeps h.bk;have hkind:∀y∈iniN.zip [Value.ref e,wV,nV],sc.names.lookup y.1=some .local\/(sc.names.lookup y.1=some .cell/\((cellsFrom (s.heap.objs.size+1) sc.names []).lookup y.1).isSome=true):=fun y hy=>by
  rcases omc hy with rfl|hy
  .exact .inl v0
  rcases omc hy with rfl|hy
  .exact .inl v1
  rcases omc hy with rfl|hy
  .exact .inl v2
  .cases hy
 refine codeAny_call_function (by have:=hr.dp;lia) (KX _ _ lk) rfl S.co S.gen rfl (W.codeRec_of KX hcd) (hb _ _ _ _ ?_);refine wpAny_newFunctionEnv_cells S.kind hkind fun env he' s1 x=>?_;subst he';refine⟨(h.mod.nolimit.keeps h.bk).keeps x.toInCall.keep,codeAny_func ?_⟩;have ns:=x.toInCall.ns;have fresh:=x.toInCall.fresh;obtain⟨h1,tk1,rfl,hk⟩:=x.done;have get:∀{i:Nat}{y:Str}{v:Value},iniN[i]?=some y->[Value.ref e,wV,nV][i]?=some v->sc.names.lookup y=some .local->bindL (envOfC qual sc s.heap.objs.size f cdv).kindOf (iniN.zip [Value.ref e,wV,nV]) (fun _=>none) y=some v:=fun{i y v}e1 e2 k=>(zf6 (kindOf:=(envOfC qual sc s.heap.objs.size f cdv).kindOf) (m:=fun _=>none) (m':=fun _=>none) S.nd e1 e2).1 k;have g0:=get (i:=0) rfl rfl v0;have g1:=get (i:=1) rfl rfl v1;have g2:=get (i:=2) rfl rfl v2;obtain⟨pl,ht⟩:=ht (envOfC qual sc s.heap.objs.size f cdv);obtain⟨⟨kk,y,N,b,ll,hd,s8,sub,ab,cl,dd,k0,k1,k2,k3,k5,lkC,mr⟩,⟨cd,rs,c1,c2,c3⟩,sa,na⟩:=xc;have ee1:h1.get? e=some (ybq C z none):=hk _ _ he;have nL:e≠s.heap.objs.size:=zye (zx5 he);have bk1:∀b o,P.base.get? b=some o->h1.get? b=some o:=fun b o w=>hk _ _ (h.bk b o w);obtain⟨mb,hmb1,hmb2⟩:=h.mod.blt;have qt:interactive (envOfC qual sc s.heap.objs.size f cdv)=false:=quiet (Y:=⟨P,A,envOfC qual sc s.heap.objs.size f cdv,[],fun _=>True⟩) ⟨S.kind,rfl,rfl,fun _ w=>w.elim (fun w=>Option.isSome_iff_exists.mp (W.cellsFrom_some sc.names _ [] (.inl w))) fun w=>absurd rfl (S.nofree _ (mem_of_lookup w)),fun _ z=>z⟩;refine wpAny_execs_cons (wpAny_Expr_any (W.methodCall_KW (pl:=pl) (Calls.Name_function_global S.kind vg (Calls.loadGlobal_builtin (h.mod.glob.keeps bk1) hm (hmb1.keeps bk1) ((hmb2 _ (by decide)).trans (by decide +kernel:bootBuiltins "ValueError"=some (.type "ValueError"))) ?_)) ht) qt rfl);refine W.method_type (h₀:=s.heap) ⟨ns,fun b o w=>hk b o w,fresh⟩ KX (by kernel_rfl) (by decide +kernel) (fv _) (by decide +kernel) ?_;refine callWith_builtin1 (Calls.spliced_cons (wpAny_Name (wpAny_loadName_local S.kind v0 ns g0 ?_) rfl)) rfl rfl;refine Calls.spliced_cons (wpAny_Name (wpAny_loadName_local S.kind v1 ns g1 ?_) rfl);refine Calls.spliced_nil ?_;refine zow PySem.F.excBase_ValueError mr (hk _ _ (KX _ _ lkC)) (by rw[ub5];simp) ee1 ?_;have e1:=zxr {cls:=.type "tuple",data:=.seq [wV].toArray} ee1;have e2:((h1.push {cls:=.type "tuple",data:=.seq [wV].toArray}).update e (Obj.mapFields (·.setIfInBounds 0 (.ref h1.objs.size)))).get? e=some (ybq C h1.objs.size none):=Heap.get?_update_self _ e1 rfl;have kp2:∀b o,b≠e->h1.get? b=some o->((h1.push {cls:=.type "tuple",data:=.seq [wV].toArray}).update e (Obj.mapFields (·.setIfInBounds 0 (.ref h1.objs.size)))).get? b=some o:=fun b o nb w=>(uc7 _ _ _ _ nb).trans (zxr _ w);generalize((h1.push {cls:=.type "tuple",data:=.seq [wV].toArray}).update e (Obj.mapFields (·.setIfInBounds 0 (.ref h1.objs.size))))=h2 at e2 kp2 ⊢;have ns2:h2.Ns s.heap.objs.size (bindL (envOfC qual sc s.heap.objs.size f cdv).kindOf (iniN.zip [Value.ref e,wV,nV]) fun _=>none):=by obtain⟨o,es,ep,w1,w2⟩:=ns;exact⟨o,es,ep,kp2 _ _ nL.symm w1,w2⟩
 have ne:∀b o,P.K.lookup b=some o->b≠e:=fun b o w w2=>by have:=h.mod.kin _ _ w;rw[w2,hbe]at this;cases this
 have K2:P.K.In h2:=fun b o w=>kp2 b o (ne b o w) (hk _ _ (KX _ _ w));refine wpAny_execs_cons (plainObj_wpAny_Assign_Attribute (wpAny_Name (wpAny_loadName_local S.kind v2 ns2 g2 (wpAny_Name (wpAny_loadName_local S.kind v0 ns2 g0 ?_) rfl)) rfl) rfl);refine zwq K2 e2 c1 c2 c3 sa na fun h' tk w1 w2 w3=>wpAny_execs_nil ?_;have nd:s.heap.get? h2.objs.size=none:=by
  cases w:s.heap.get? h2.objs.size with
  |none=>rfl
  |some o=>exact absurd (zx5 (kp2 _ _ (fun v=>by rw[v]at w;exact absurd (zx5 e2) (by rw[v];exact zy5 _)) (hk _ _ w))) (zy5 _)
 exact q h' tk _ _ (fun b o nb w=>w3 b o nb (kp2 b o nb (hk _ _ w))) w1 nd (Nat.ne_of_gt (zx5 e2)) w2
end Nb
section
namespace Nb
open PySem Spec PyProof.Rows Ev Ev.Ex
variable {P:Pc}{B:Bd}{pn:List (Addr×a7 Obj)}{ad:Nat->List Addr}{τ:List Sl}{F G:Fz}{s s1:Shared}{x:Str}{k:Nat}{is:List Nat}{e1 e:Expr}{es:List Expr}{pos p p2:Pos}{E:Value->Shared->Prop}{g:Ev.Env->a7 (List T)}{A:Around}{l:List PySem.Env}{ts:List T}{us:List Value}
def yf0(P:Pc)(k:Nat)(f:Addr)(fd:FuncData):Prop:=∀{A l F s e C z wV nV args}{R:Result->Shared->Prop},Room (k+1) A->St P A l F s->s.heap.get? e=some (ybq C z none)->P.base.get? e=none->XC P.K C->BindsTo s fd args (iniN.zip [.ref e,wV,nV])->
 (∀h' tk z' dx,(∀b o,b≠e->s.heap.get? b=some o->h'.get? b=some o)->h'.get? e=some (ybq C z' (some dx))->s.heap.get? dx=none->dx≠e->h'.Ns1 dx (fun x=>if x="at" then some nV else none)->R (.ok (.ret .none)) {s with heap:=h',toks:=tk})->codeAny P.M A (.call (.ref f) args) R s
structure Cls(P:Pc)(x:Str)(k:Nat):Prop where
 ok:∃C fI fd k0,P.mg x=some (.ref C)/\XC P.K C/\W.keepIn P.K (.ref C)=true/\(∀h,P.K.In h->Ini h C fI)/\yf0 P k fI fd/\(∀(s:Shared)(us:List Value),P.K.In s.heap->us.length=3->BindsTo s fd ⟨us,[]⟩ (iniN.zip us))/\∀(s:Shared)(us:List Value),P.K.In s.heap->us.length=2->BindsTo s fd ⟨us,[]⟩ (iniN.zip (us++[.int 0 k0]))
theorem zms:∀rs:List Addr,(rs.map Value.ref++veL).contains (.type "BaseException")=true
 |[]=>by decide
 |r::rs=>by rw[zxz,List.cons_append,List.contains_cons,zms rs,Bool.or_true]
theorem XC.bex{K:W.Frag}{C:Addr}(xc:XC K C):∃k y N b l hd s8 sub ab cl dd k0 k1 k2 k3 k5,K.lookup C=some (excClassObj k y C N b l hd s8 sub ab cl dd k0 k1 k2 k3 k5 "ValueError.__new__")/\(Value.ref C::l).contains (.type "BaseException")=true:=by obtain⟨⟨k,y,N,b,l,hd,s8,sub,ab,cl,dd,k0,k1,k2,k3,k5,lk,mr⟩,⟨cd,rs,c1,c2,c3⟩,_⟩:=xc;refine⟨k,y,N,b,l,hd,s8,sub,ab,cl,dd,k0,k1,k2,k3,k5,lk,?_⟩;unfold W.clsIn at c1;rw[lk]at c1;cases c1;have c2:Value.ref C::l=rs.map Value.ref++veL:=c2;rw[c2,zms]
theorem zjo{env:PySem.Env}{x:Sem Value}{M:Model}{k y:Str}{C N:Addr}{b l:List Value}{hd ab:Bool}{s8:List Str}{sub:List Value}{cl:a7 Bool}{dd:a7 Addr}{k0 k1 k2 k3 k5:a7 Value}{nw:String}{Q:Flow->Shared->Prop}(c:(Value.ref C::l).contains (.type "BaseException")=true)(hh:A.handled=none)(h:wpAny M A x (fun v s1=>∃e z dx,v=.ref e/\s1.heap.get? C=some (excClassObj k y C N b l hd s8 sub ab cl dd k0 k1 k2 k3 k5 nw)/\s1.heap.get? e=some (ybq C z dx)/\E (.ref e) s1) E s):wpAny M A (raiseStmt env (some x) none) Q E s:=by
 unfold raiseStmt;refine zxq (zyt h (fun v s1 zz=>?_) fun _ _ r=>r);obtain⟨e,z,dx,ev,hC,he,q⟩:=zz;subst ev;obtain⟨hp,g,d,tk,os⟩:=s1;unfold ybq at he
 repeat(first|with_reducible refine wpAny_loadPart_at hC ?_|with_reducible refine wpAny_loadPart_at he ?_|(with_reducible refine wpAny_isSubtype_exc hC ?_;rw[c])|wp_step)
 exact wpAny_raiseNew_none hh q
theorem St.make(h:St P A l F s)(C:Addr)(us:List Value)(kw:List (Str×Value)):St P (A.under (.builtin "type.__call__" ⟨.ref C::us,kw⟩)) l F s :=
 ⟨h.mod,h.hd,by first|exact h.frames|(simpa[Around.under,Code.envs,Code.isFrame,pushEnvs]using h.frames),h.bk,h.fh,h.bare,h.funs,h.fo⟩
theorem zju(A:Around)(C:Addr)(us:List Value)(kw:List (Str×Value)):(A.under (.builtin "type.__call__" ⟨.ref C::us,kw⟩)).depth=A.depth+1:=by first|rfl|simp[Around.under,Code.weight,Code.isCreation,Code.isGuard,Code.isCaller,Code.frames,Code.isFrame,guardIds]
theorem zjt(A:Around)(C:Addr)(us:List Value)(kw:List (Str×Value)):(A.under (.builtin "type.__call__" ⟨.ref C::us,kw⟩)).units=A.units+1:=by first|rfl|simp[Around.under,Code.cUnits,Code.frames,Code.isFrame]
theorem Room.make{k:Nat}{A:Around}(r:Room (k+1) A)(C:Addr)(us:List Value)(kw:List (Str×Value)):Room k (A.under (.builtin "type.__call__" ⟨.ref C::us,kw⟩)) :=
 ⟨by have:=r.dp;rw[zju];lia,by have:=r.un;rw[zjt];lia⟩
theorem zi2{ts:List T}{n:Int}(h:ycw ts=some n):(ts.length=1/\n=0)\/(∃w,ts=[w,.int n]):=by
 unfold ycw at h;split at h
 .cases h;exact .inl ⟨rfl,rfl⟩
 .cases h;exact .inr ⟨_,rfl⟩
 .cases h
theorem zoa(cm:B.calm)(cl:Cls B.toPc x k)(hr:Room (k+2) B.A)(hg:Gl B.toYc x)(hd:(x==("__debug__":Str))=false)(ar:Oks B.toYc (Nn B.N) (e1::es) g)(st:starEach (e1::es) B.env=(false,eval e1 B.env)::starEach es B.env)(pl:(backTo pos (starEach es B.env)).any (·.1)=false)(is:List Nat):PS B (.Raise (some (.Call (.Name x p) (e1::es) [] pos)) none p2) fun τ=>(g (ygg (frzAt is τ))).bind fun ts=>(ycw ts).map (.rs x):=fun{pn ad τ F s o}hF q=>by
 obtain⟨ts,q1,q⟩:=obs q;obtain⟨n,q2,rfl⟩:=oms q;obtain⟨C,fI,fd,k0,hm,xc,hk,hi,ini,b3,b2⟩:=cl.ok;obtain⟨kk,y,N,b,ll,hd',s8,sub,ab,cl',dd,k0',k1,k2,k3,k5,lk,c⟩:=xc.bex;obtain⟨_,_,_,_,l2,_,_,_,_,_,_,_,_,_,_,_,lk2,mr⟩:=xc.ob;obtain⟨G,ad',le,h'⟩:=hF.frzAt is;have A:=h'.at
 rw[arm_exec_Raise];refine zxq (wpAny_standAt (zjo (C:=C) (k:=kk) (y:=y) (N:=N) (b:=b) (hd:=hd') (s8:=s8) (sub:=sub) (ab:=ab) (cl:=cl') (dd:=dd) (k0:=k0') (k1:=k1) (k2:=k2) (k3:=k3) (k5:=k5) (nw:="ValueError.__new__") c (A.hd cm) (zxq ?_)));refine wpAny_Call_Name_kw (zde A hg hm ?_ hd);refine W.callWith_K (h₀:=B.base) A.mod.kin hk (thn (ar pos A q1) fun us s1 z=>?_) st pl;obtain⟨G1,u1,rs⟩:=z;have A1:=A.up u1;have h3:=h'.after u1;have KX:B.K.In s1.heap:=A.mod.kin.keeps A1.bk;have lt:us.length<=2:=by rw[rs.length];rcases zi2 q2 with⟨w,_⟩|⟨_,rfl⟩<;>simp_all
 refine⟨KX,?_⟩;obtain⟨hp,gs,dr,tk,os⟩:=s1;refine zs3 PySem.F.excBase_ValueError mr (KX _ _ lk2) (by show us.length<=_;rw[ub5];lia) (hi _ KX) (wpAny_call ?_);have n1:hp.get? (hp.objs.size+1)=none:=Heap.get?_none_of_le (Nat.le_succ _);have nb:∀{a:Addr},hp.get? a=none->B.base.get? a=none:=fun{a}z=>by
  cases w:B.base.get? a with
  |none=>rfl
  |some o=>have:=A1.bk _ _ w;rw[show(⟨hp,gs,dr,tk,os⟩:Shared).heap=hp from rfl,z]at this;cases this
 have U:Up G1 ⟨hp,gs,dr,tk,os⟩ G1 ⟨exH hp C us,gs,dr,tk,os⟩:=⟨fun b o w=>zej _ _ w,rfl,id,fun _ _ e=>e,fun b o w=>zej _ _ (A1.fh _ _ w),fun _ w=>.inl w⟩;have h4:=h3.after U;have S4:=h4.toSt.make C us [];have fin:∀{nV:Value}{kt:Tok},nV=.int n kt->BindsTo ⟨exH hp C us,gs,dr,tk,os⟩ fd ⟨.ref (hp.objs.size+1)::us,[]⟩ (iniN.zip (.ref (hp.objs.size+1)::us.headD .none::[nV]))->
   codeAny B.M (B.A.under (.builtin "type.__call__" ⟨.ref C::us,[]⟩)) (.call (.ref fI) ⟨.ref (hp.objs.size+1)::us,[]⟩) (wants (fun r s'=>r=.none/\wpAny B.M B.A (do standAt p2;pure (Value.ref (hp.objs.size+1))) (fun v s1=>∃e z dx,v=.ref e/\s1.heap.get? C=some (excClassObj kk y C N b ll hd' s8 sub ab cl' dd k0' k1 k2 k3 k5 "ValueError.__new__")/\s1.heap.get? e=some (ybq C z dx)/\B.PE (.rs x n) (.ref e) s1) (B.PE (.rs x n)) s') (B.PE (.rs x n))) ⟨exH hp C us,gs,dr,tk,os⟩:=fun{nV kt}en hb=>by
  refine ini (hr.make C us []) S4 (z:=hp.objs.size) zv6 (nb n1) xc hb fun h' tk' z' dx w1 w2 w3 w4 w5=>⟨rfl,?_⟩;have kp:∀b o,hp.get? b=some o->h'.get? b=some o:=fun b o w=>w1 b o (zye (Nat.lt_succ_of_lt (zx5 w))) (zej _ _ w);refine zxq (wpAny_standAt (zxs ⟨_,z',some dx,rfl,kp _ _ (KX _ _ lk),w2,?_⟩));have n3:hp.get? dx=none:=by
   cases w:hp.get? dx with
   |none=>rfl
   |some o=>rw[show(⟨exH hp C us,gs,dr,tk,os⟩:Shared).heap=exH hp C us from rfl,zej _ _ w]at w3;cases w3
  subst en;refine h3.pe cm ⟨_,C,dx,_,kt,rfl,hm,⟨fun b o _ w=>kp b o w,fun b o w=>⟨o.slots,kp b o w⟩,rfl,id⟩,⟨w2,rfl,rfl,_,rfl,by simp,.inl ⟨rfl,rfl⟩⟩,n1,n3,fun T z=>?_,w4,fun z=>?_,w5⟩
  .obtain⟨vs,z1,z2⟩:=z;cases z1;cases z2
  .obtain⟨_,o,w,_⟩:=(h3.toSt.funs cm).mem z;rw[show(⟨hp,gs,dr,tk,os⟩:Shared).heap=hp from rfl,n3]at w;cases w
 have K4:B.K.In (exH hp C us):=fun b o w=>zej _ _ (KX b o w);rcases zi2 q2 with⟨w,rfl⟩|⟨w,rfl⟩
 .obtain⟨v,rfl⟩:=List.length_eq_one_iff.mp (rs.length.trans w);exact fin (kt:=k0) rfl (b2 _ [_,v] K4 rfl)
 .obtain⟨v,_,rfl,_,v2,_,rfl,⟨kt,rfl⟩,rfl⟩:=rs;exact fin (kt:=kt) rfl (b3 _ [_,v,_] K4 rfl)
end Nb
section
namespace Nb
open PySem Spec PyProof.Rows Ev
variable {sl:Sl}{as:List Addr}{Q:Value->Shared->Prop}
variable {B:Bd}{pn:List (Addr×a7 Obj)}{ad:Nat->List Addr}{τ:List Sl}{F G:Fz}{s s' s1:Shared}{x y:Str}{i j:Nat}{is:List Nat}{ke ve:Expr}{pos p px apos cpos a2 c2 tp:Pos}{E:Value->Shared->Prop}{t k:T}{ts ks:List T}{vs:List (List T)}{u v kv:Value}{a d:Addr}{fk fv:Ev.Env->a7 T}{r:Ev.Env}{w:World}{h:Heap}
theorem Alls.len{α:Type}{R:Addr->α->Prop}:∀{as:List Addr}{xs:List α},Alls R as xs->xs.length=as.length
 |[],_,h=>by cases h;rfl
 |_::_,_,⟨_,_,e,_,h⟩=>by subst e;simp[h.len]
theorem Alls.get{α:Type}{R:Addr->α->Prop}:∀{as:List Addr}{xs:List α}{n:Nat}{x:α},Alls R as xs->xs[n]?=some x->∃a,as[n]?=some a/\R a x
 |[],_,_,_,h,e=>by cases h;simp at e
 |a::_,_,0,_,⟨_,_,z,h1,_⟩,e=>by subst z;cases e;exact⟨a,rfl,h1⟩
 |_::_,_,n+1,_,⟨_,_,z,_,h2⟩,e=>by subst z;exact h2.get (n:=n) e
theorem Alls.app{α:Type}{R:Addr->α->Prop}{a:Addr}{x:α}:∀{as:List Addr}{xs:List α},Alls R as xs->R a x->Alls R (as++[a]) (xs++[x])
 |[],_,h,q=>by cases h;exact⟨x,[],rfl,q,rfl⟩
 |_::_,_,⟨_,_,z,h1,h2⟩,q=>by subst z;exact⟨_,_,rfl,h1,h2.app q⟩
theorem Alls.set{α:Type}{R S:Addr->α->Prop}{x:α}:∀{as:List Addr}{xs:List α}{n:Nat}{a:Addr},Alls R as xs->as[n]?=some a->as.Nodup->S a x->(∀b∈as,b≠a->∀y,R b y->S b y)->Alls S as (xs.set n x)
 |[],_,_,_,_,e,_,_,_=>by simp at e
 |b::as,_,0,_,⟨_,_,z,_,h2⟩,e,nd,q,k=>by subst z;cases e;exact⟨x,_,rfl,q,h2.to fun c hc y=>k c (.tail _ hc) (fun e=>(ua7.mp nd).1 (e▸hc)) y⟩
 |b::as,_,n+1,a,⟨y,_,z,h1,h2⟩,e,nd,q,k=>by
  subst z;have e':as[n]?=some a:=by simpa using e
  exact⟨y,_,rfl,k b (.head _) (fun e2=>(ua7.mp nd).1 (e2▸zx4 e')) y h1,h2.set (n:=n) e' (ua7.mp nd).2 q fun c hc=>k c (.tail _ hc)⟩
def dlS:Sl->a7 (List T×List (List T))
 |.dl ks vs=>some (ks,vs)
 |.dic [] []=>some ([],[])
 |_=>none
theorem zpb{k v:T}{sl':Sl}(h:ycv (some sl) k v=some sl'):∃ks vs,dlS sl=some (ks,vs)/\yac ks k=true/\ks.length<1000/\((yae ks vs k).getD []).length<1000/\sl'=.dl (yad ks k) (yap ks vs k ((yae ks vs k).getD []++[v])):=by
 have go:∀{ks:List T}{vs:List (List T)},(if yac ks k=true/\ks.length<1000/\((yae ks vs k).getD []).length<1000 then some (Sl.dl (yad ks k) (yap ks vs k ((yae ks vs k).getD []++[v])))else none)=some sl'->yac ks k=true/\ks.length<1000/\((yae ks vs k).getD []).length<1000/\sl'=.dl (yad ks k) (yap ks vs k ((yae ks vs k).getD []++[v])):=fun{ks vs}h=>by
  split at h
  .rename_i z;cases h;exact⟨z.1,z.2.1,z.2.2,rfl⟩
  .cases h
 cases sl with
 |dl ks vs=>exact⟨ks,vs,rfl,go h⟩
 |dic ks vs=>
  cases ks with
  |nil=>cases vs with
   |nil=>exact⟨[],[],rfl,go h⟩
   |cons _ _=>cases h
  |cons _ _=>cases h
 |_=>cases h
structure GAt{α:Type}(R:Heap->Addr->α->Prop)(w:World)(F:Fz)(h:Heap)(d:Addr)(as:List Addr)(ks:List T)(vs:List α):Prop where
 D:Dat w F h d ks (as.map .ref)
 L:Alls (R h) as vs
 nd:(d::as).Nodup
abbrev DlAt(w:World)(F:Fz):=GAt (OwnL w F) w F
theorem Fr.ownDl(h:B.Fr pn ad τ F s)(hx:B.N[i]?=some x)(ht:τ[i]?=some sl)(e:dlS sl=some (ks,vs)):∃d as,ad i=d::as/\Look B.toYc s.heap x (.ref d)/\DlAt B.w F s.heap d as ks vs:=by
 have w:=h.slot i x _ hx ht;cases sl with
 |dl ks' vs'=>
  cases e;obtain⟨⟨a,e,l⟩,q⟩:=w;cases hd:ad i with
  |nil=>rw[hd]at e;cases e
  |cons b as=>rw[hd]at e q;cases e;exact⟨a,as,rfl,l,q.1,q.2.1,q.2.2⟩
 |dic ks' vs'=>
  cases ks' with
  |nil=>cases vs' with
   |nil=>cases e;obtain⟨d,us,h1,h2,D,r⟩:=h.ownD hx ht;cases r;exact⟨d,[],h1,h2,D,rfl,by simp⟩
   |cons _ _=>cases e
  |cons _ _=>cases e
 |_=>cases e
theorem DlAt.ok(q:DlAt w F h d as ks vs):OwnOk w F h (d::as) (.dl ks vs):=⟨q.D,q.L,q.nd⟩
theorem zhx{sl':Sl}(ht:τ[i]?=some sl)(h1:sl.get=none)(h2:sl'.get=none):ygg (τ.set i sl')=ygg τ:=by
 refine List.ext_getElem? fun j=>?_;unfold ygg;rw[zx0,zx0];by_cases z:i=j
 .subst z;rw[ua4 (ome ht).1,ht,Option.map_some,Option.map_some,h1,h2]
 .rw[zyw z]
theorem set_set{sl sl':Sl}:(τ.set i sl).set i sl'=τ.set i sl':=List.set_set ..
theorem ycp{α:Type}{R:Heap->Addr->α->Prop}{vs:List α}{mk:List T->List α->Sl}{x0:α}{o0:Obj}(hmk:∀{h d as ks vs},GAt R B.w F h d as ks vs->OwnOk B.w F h (d::as) (mk ks vs))(hR:∀{h h' a x},R h a x->(∀o,h.get? a=some o->h'.get? a=some o)->R h' a x)(h0:∀{h'},h'.get? s.heap.objs.size=some o0->R h' s.heap.objs.size x0)(hf0:o0.isFreed=false)(hu:B.toYc.Rm)(hF:B.Fr pn ad τ F s)(hx:B.N[i]?=some x)(ht:τ[i]?=some sl)(hk:yac ks k=true)(hz:ks.length<1000)(rk:Rep B.w F k kv)(hd:ad i=d::as)(lk:Look B.toYc s.heap x (.ref d))(D:GAt R B.w F s.heap d as ks vs)(q:∀ad' s' n a vs1,B.Fr pn ad' (τ.set i (mk (yad ks k) vs1)) F s'->Look B.toYc s'.heap x (.ref d)->(∃as1,ad' i=d::as1/\as1[n]?=some a/\GAt R B.w F s'.heap d as1 (yad ks k) vs1)->vs1[n]?=some ((yae ks vs k).getD x0)->(∀v,yap ks vs k v=vs1.set n v)->Q (.ref a) s'):wpAny B.M B.A (call (.builtin "dict.setdefault") [.ref d,kv,.ref s.heap.objs.size]) Q E {s with heap:=s.heap.push o0}:=by
 have l0:s.heap.get? s.heap.objs.size=none:=zac;have hl1:(s.heap.push o0).get? s.heap.objs.size=some o0:=zxx _ hf0;have u1:Up F s F {s with heap:=s.heap.push o0}:=Up.side (k:=s.toks) hF.up.fh;have D1:Dat B.w F (s.heap.push o0) d ks (as.map .ref):=OwnD.to D.D (fun o e=>u1.ext _ o e) (fun _ _ e=>e) fun _ h=>h;have hl:(as.map Value.ref).length=ks.length:=D.D.len;have hlv:vs.length=ks.length:=by rw[D.L.len,<-hl,zxt]
 refine zd0 (rdy hu u1.fh D1 hk rk) (zy9 hz (by rw[ub5];decide)) (fun u eu=>?_) fun en h' D2 hs=>?_
 .rw[za2 hl]at eu;obtain⟨n,e1,e2⟩:=obs eu;rw[zx0]at e2;obtain⟨a,e3,rfl⟩:=oms e2;have hn:n<vs.length:=by rw[hlv,<-hl,zxt];exact(ome e3).1
  have u2:Up F s F {s with heap:=s.heap.push o0,toks:=s.toks+drT k}:=Up.side hF.up.fh;have hf:=hF.after u2;have D3:GAt R B.w F (s.heap.push o0) d as ks vs:=⟨D1,D.L.to fun b hb x q=>hR q fun o e=>u2.ext b o e,D.nd⟩;have h3:=hf.own' (sl':=mk ks vs) (d:=d::as) hx ht (fun a h=>by rw[hd]at h;exact h) (fun a h=>.inl (by rw[hd];exact h)) (fun a h=>(hf.own i a (by rw[hd];exact h)).2) (fun _ _ _ e=>e) rfl id fun lk'=>SlOk.mk (lk' _ (lk.up u2)) (hmk D3);exact q _ _ n a vs (by rw[zcz,e1];exact h3) (lk.up u2) ⟨as,if_pos rfl,e3,by rw[zcz,e1];exact D3⟩ (by rw[za2 hlv,e1,zxv,zxu hn];rfl) fun v=>by rw[zcc hlv,e1]
 .have en':ixK ks k=none:=by
   rw[za2 hl]at en;cases e:ixK ks k with
   |none=>rfl
   |some n=>
    rw[e]at en;have hn:n<ks.length:=by unfold ixK at e;rw[List.findIdx?_eq_some_iff_getElem]at e;exact e.1
    rw[zxv,List.getElem?_eq_none_iff,hl]at en;lia
  have dne:d≠s.heap.objs.size:=fun e=>by obtain⟨o,ho,_⟩:=D.D.at;rw[e,l0]at ho;cases ho
  have asne:s.heap.objs.size∉as:=fun e=>by obtain⟨o,ho⟩:=(hF.own i _ (by rw[hd];exact .tail _ e)).2;rw[l0]at ho;cases ho
  have kp:∀b o,b≠d->s.heap.get? b=some o->h'.get? b=some o:=fun b o hb e=>(hs.2 b hb).trans (u1.ext b o e);have hL:h'.get? s.heap.objs.size=some o0:=(hs.2 _ (Ne.symm dne)).trans hl1;have D3:GAt R B.w F h' d (as++[s.heap.objs.size]) (yad ks k) (vs++[x0]):=⟨by rw[zcc hl,en']at D2;rw[zx7];exact D2,Alls.app (D.L.to fun b hb y q=>hR q fun o e=>kp b o (fun z=>(ua7.mp D.nd).1 (z▸hb)) e) (h0 hL),by have:=D.nd;rw[ua7]at this ⊢;refine⟨fun z=>(oma z).elim this.1 fun z=>dne (omg z),List.nodup_append.mpr ⟨this.2,by simp,fun a ha b hb z=>asne (by rw[omg hb]at z;rw[<-z];exact ha)⟩⟩⟩;have mem:∀{a},a∈d::(as++[s.heap.objs.size])->a∈ad i\/a=s.heap.objs.size:=fun{a}h=>by rw[hd,<-List.cons_append]at *;exact(oma h).imp id omg
  have h3:=hF.own' (sl':=mk (yad ks k) (vs++[x0])) (d:=d::(as++[s.heap.objs.size])) (s':={s with heap:=h',toks:=s.toks+drT k}) hx ht (fun a h=>by rw[hd]at h;rw[<-List.cons_append];exact List.mem_append_left _ h)
   (fun a h=>(mem h).imp id fun z=>by rw[z];exact⟨hF.off l0,hF.up.fh.none l0⟩)
   (fun a h=>(mem h).elim (fun z=>by
    by_cases w:a=d
    .obtain⟨o,ho,_⟩:=D2.at;exact⟨o,w▸ho⟩
    .obtain⟨o,ho⟩:=(hF.own i a z).2;exact⟨o,kp a o w ho⟩) fun z=>by rw[z];exact⟨_,hL⟩)
   (fun b o hb e=>kp b o (fun z=>hb (by rw[z];exact .head _)) e) rfl id fun lk'=>SlOk.mk (lk' _ lk) (hmk D3)
  have lkn:Look B.toYc h' x (.ref d):=by have:=h3.slot i x _ hx (ua4 (ome ht).1);rw[if_pos rfl]at this;have ok:=hmk D3;revert this ok;cases mk (yad ks k) (vs++[x0])<;>intro q w<;>first|exact w.elim|(obtain⟨⟨b,e,l⟩,_⟩:=q;cases e;exact l)
  refine q _ _ as.length s.heap.objs.size (vs++[x0]) h3 lkn ⟨_,if_pos rfl,by simp,D3⟩ ?_ fun v=>?_
  .rw[za2 hlv,en',<-D.L.len];simp
  .rw[zcc hlv,en',<-D.L.len];simp
theorem zol{Y:Yc}(h:wpAny Y.M Y.A (newList []) Q E s):wpAny Y.M Y.A (eval (.List [] tp) Y.env) Q E s:=by rw[arm_eval_List];exact zxq (wpAny_standAt (zxq (Calls.spliced_nil h)))
theorem zrp(hu:B.toYc.Rm)(is:List Nat)(hx:B.N[i]?=some x)(n:Nm x)(hk:Oke B.toYc (Nn B.N) ke fk)(hv:Oke B.toYc (Nn B.N) ve fv)(s1:starEach [ke,.List [] tp] B.env=(false,eval ke B.env)::starEach [.List [] tp] B.env)(s2:starEach [ve] B.env=[(false,eval ve B.env)])(l1:(apos.endLine==cpos.line)=true)(l2:(a2.endLine==c2.line)=true)(pl:Plain B.toYc cpos [ke,.List [] tp]):PS B (.Expr (.Call (.Attribute (.Call (.Attribute (.Name x px) "setdefault" apos) [ke,.List [] tp] [] cpos) "append" a2) [ve] [] c2) pos) fun τ=>(fk (ygg (frzAt is τ))).bind fun k=>(fv (ygg (frzAt is τ))).bind fun y=>sh (frzAt is τ) i (ycv (frzAt is τ)[i]? k y):=fun{pn ad τ F s o}hF q=>by
 obtain⟨k,e1,q⟩:=obs q;obtain⟨y,e2,q⟩:=obs q;obtain⟨sl',e3,rfl⟩:=oms q;obtain⟨G,ad',le,h'⟩:=hF.frzAt is;cases ht:(frzAt is τ)[i]? with
 |none=>rw[ht]at e3;cases e3
 |some sl=>
  rw[ht]at e3;obtain⟨ks,vs,e4,hk1,hk2,hk3,rfl⟩:=zpb e3;obtain⟨d,as,hd,lk,D0⟩:=h'.ownDl hx ht e4;have hg:sl.get=none:=by cases sl<;>first|rfl|cases e4
  refine wpAny_Expr_any (wpAny_Call_method_late rfl (by rw[s2];rfl) l2 rfl (wpAny_Call_method_late rfl pl.few l1 rfl (zdd h'.ok n lk ?_))) (quiet h'.ok);obtain⟨od,o1,o2,o3⟩:=D0.D.at
  refine⟨"dict",_,PySem.F.plainAttrs_dict,PySem.F.slot_dict_setdefault,PySem.F.type_dict_setdefault,⟨od,o1,o2⟩,fun b e=>by cases e;exact⟨od,o1,o3⟩,zhs pl ?_⟩;rw[show backTo cpos (starEach [ke,.List [] tp] B.env)=(false,eval ke B.env)::backTo cpos (starEach [.List [] tp] B.env) by rw[s1];rfl];refine Calls.spliced_cons (thn (hk h'.at e1) fun kv s3 z=>?_);obtain⟨G1,u1,r1⟩:=z;have h1:=h'.after u1;obtain⟨d',as',hd',lk1,D1⟩:=h1.ownDl hx ht e4;rw[hd]at hd';cases hd';refine Calls.spliced_cons (zol (zyj (Calls.spliced_nil (ycp (mk:=.dl) (x0:=[]) (R:=OwnL B.w G1) DlAt.ok (fun q k=>OwnL.to q k fun _ _ e=>e) (fun e=>⟨#[],0,e,zyg _,rfl⟩) rfl hu h1 hx ht hk1 hk2 r1 hd lk1 D1 fun ad2 s4 m a vs1 h2 lk2 ha hv1 hset=>?_)) (by size_fits)));obtain⟨as1,had,has,D2⟩:=ha;have hsl:((frzAt is τ).set i (.dl (yad ks k) vs1))[i]?=some (.dl (yad ks k) vs1):=ua4 (ome ht).1;obtain⟨a',ea,qc,m1,q1,q2,q3⟩:=D2.L.get hv1;rw[has]at ea;cases ea;refine⟨"list",_,PySem.F.plainAttrs_list,PySem.F.slot_list_append,PySem.F.type_list_append,yeb q1,fun b e=>by cases e;exact⟨_,q1,rfl⟩,?_⟩;refine Calls.callWith_builtin (by rw[s2];rfl) ?_;rw[show backTo c2 (starEach [ve] B.env)=[(false,eval ve B.env)] by rw[s2];rfl];refine Calls.evalArgs_plain (Calls.spliced_cons (thn (hv h2.at (by rw[zhx ht hg rfl];exact e2)) fun w s5 z=>Calls.spliced_nil ?_));obtain⟨G2,u2,r2⟩:=z;have h3:=h2.after u2;obtain⟨d',as',had',lk3,D3⟩:=h3.ownDl hx hsl rfl;rw[had]at had';cases had';obtain⟨a',ea,qc,m1,q1,q2,q3⟩:=D3.L.get hv1;rw[has]at ea;cases ea;have hsz:qc.size+1<=sizeLine:=by rw[zbf q3];exact zyc (show _<=1000 from hk3) (by rw[ub5];decide)
  refine call_meets PySem.F.slot_list_append (yeb q1) PySem.F.entry_list_append (PySem.F.args_list_append_2 _ _) (PySem.list_append a qc m1 w (by lia)) ⟨q1,?_⟩;obtain⟨m2,q4⟩:∃m2,(s5.heap.update a (Obj.mapSeq fun x=>x.push w)).get? a=some {cls:=.type "list",data:=.seq (qc.push w) m2}:=⟨_,by rw[Heap.get?_update_self _ q1 rfl];rfl⟩;have oth:∀b o,b≠a->s5.heap.get? b=some o->(s5.heap.update a (Obj.mapSeq fun x=>x.push w)).get? b=some o:=fun b o hb e=>(Heap.get?_update_other _ _ (Ne.symm hb)).trans e;have am:=zx4 has;have nda:=ua7.mp D3.nd;have D4:DlAt B.w G2 (s5.heap.update a (Obj.mapSeq fun x=>x.push w)) d as1 (yad ks k) (vs1.set m ((yae ks vs k).getD []++[y])):=⟨OwnD.to D3.D (fun o e=>oth d o (fun z=>nda.1 (z▸am)) e) (fun _ _ e=>e) fun _ h=>h,D3.L.set has nda.2 ⟨_,m2,q4,by rw[Array.size_push];exact hsz,by rw[Array.toList_push];exact q3.app ⟨_,_,rfl,r2,rfl⟩⟩ fun b hb hne z q=>q.to (fun o e=>oth b o hne e) fun _ _ e=>e,D3.nd⟩;have h4:=h3.own' (sl':=.dl (yad ks k) (yap ks vs k ((yae ks vs k).getD []++[y]))) (d:=d::as1) (s':={s5 with heap:=s5.heap.update a (Obj.mapSeq fun x=>x.push w),toks:=s5.toks}) hx hsl (fun b hb=>by rw[had]at hb;exact hb) (fun b hb=>.inl (by rw[had];exact hb))
   (fun b hb=>by
    by_cases hba:b=a
    .subst hba;exact⟨_,q4⟩
    .obtain⟨o,ho⟩:=(h3.own i b (by rw[had];exact hb)).2;exact⟨o,oth b o hba ho⟩)
   (fun b o hb e=>oth b o (fun z=>hb (by rw[z];exact .tail _ am)) e) rfl id fun lk'=>SlOk.mk (lk' _ lk3) (by rw[hset];exact D4.ok)
  rw[set_set]at h4;exact⟨_,_,(le.trans u1.ff).trans u2.ff,h4⟩
end Nb
section
namespace Nb
open PySem Spec PyProof.Rows Ev
def yar:Str:="_law_told"
abbrev yd4:Arguments:=⟨[],[],none,[],[],none,[]⟩
def lsB(c:Tc)(ls:Scope):Bool:=ls.kind==.function&&!ls.isCoroutine&&!ls.isGenerator&&ls.names.all fun p=>(p.2==.free&&c.sc.names.lookup p.1==some .cell&&ls.names.lookup p.1==some .free&&c.nm.contains p.1)||p.2==.globalImplicit
def TdP(B:Bd)(c:Tc)(G:Glo):Prop:=∀{y g:Str}{py p4 p1 p2 p3 p5 p6:Pos}{e:Expr}{es:List Expr}{ls:Scope}(x:VE ⟨ls,c.nm⟩ e)(xs:LE ⟨ls,c.nm⟩ es){i:Nat},lsB c ls=true->glB c.sc yar=true->(zai g&&glB ls g)=true->B.N[i]?=some y->Loc B.env.scope y->∀is:List Nat,
 PS B (.Assign [.Name y py] (.Call (.Name yar p4) [.Lambda yd4 (.Call (.Name g p1) (e::es) [] p2) ls p3] [] p5) p6) fun τ=>(yal G (x.x::xs.xs) (ygg (frzAt is τ))).bind fun ts=>(ybf G g ts).bind fun t=>some (.nx ((frzAt is τ).set i (.val t)))
structure Sd(B:Bd)(c:Tc)(G:Glo)(er:List Str):Prop where
 gd:Gd B.toYc c G
 nm:c.nm=B.N
 se:B.env.scope=c.sc
 fm:B.Fm
 cls:∀x∈er,x≠yar->∃k,Cls B.toPc x k/\Room (k+2) B.A
 td:er.contains yar=true->TdP B c G
structure SE(c:Tc)(er:List Str)(st:Stmt) where
 x:S
 ok:∀{B G},Sd B c G er->PS B st (evS G x)
structure SSE(c:Tc)(er:List Str)(ss:List Stmt) where
 xs:List S
 ok:∀{B G},Sd B c G er->PSs B ss (yav G xs)
variable {c:Tc}{er:List Str}{B:Bd}{G:Glo}{e:Expr}{es:List Expr}{x:Str}{i:Nat}{f:Ev.Env->a7 T}
theorem Sd.at{r:Ev.Env}{F:Fz}{s:Shared}(g:Sd B c G er)(A:At B.toYc (Nn B.N) r F s):At B.toYc c.N r F s:=A.mono fun x i n=>by show B.N[i]?=some x;rw[<-g.nm];exact zbj n.2.2
theorem Sd.oe(g:Sd B c G er)(h:Oke B.toYc c.N e f):Oke B.toYc (Nn B.N) e f:=fun A q=>h (g.at A) q
theorem Sd.ob(g:Sd B c G er)(h:Okb B.toYc c.N e f):Okb B.toYc (Nn B.N) e f:=fun A q=>h (g.at A) q
theorem Sd.os{f:Ev.Env->a7 (List T)}(g:Sd B c G er)(h:Oks B.toYc c.N es f):Oks B.toYc (Nn B.N) es f:=fun pos A q=>h pos (g.at A) q
theorem Sd.oi{tg:Expr}{f:Ev.Env->a7 (List T)}(g:Sd B c G er)(h:OkI B.toYc c.N tg e f):OkI B.toYc (Nn B.N) tg e f:=fun A q=>h (g.at A) q
theorem Sd.hx(g:Sd B c G er)(h:yaf c.nm x=some i):B.N[i]?=some x:=by rw[<-g.nm];exact zbj h
theorem Sd.hl(g:Sd B c G er)(h:yb0 c.sc x=true):Loc B.env.scope x:=by rw[g.se];exact(zfr h).2
theorem zfq(h:zai x=true):Nm x:=⟨(zbc h).1,(zbc h).2.1⟩
theorem PS.eq{st:Stmt}{f g:List Sl->a7 Out}(h:PS B st f)(e:f=g):PS B st g:=by subst e;exact @h
variable {xn:List Str}
def sRet(R:Rd)(c:Tc)(er:List Str)(e:Expr)(p:Pos):a7 (SE c er (.Return (some e) p)) :=
 (R.v c e).bind fun x=>some ⟨.ret x.x,fun{B G}g=>zuh (g.oe (x.ok g.gd)) (yab x.x)⟩
theorem zjl{e:E}{t:T}(h:fresh e=false):yau e t=.val t:=by unfold yau;rw[h]
def yge(R:Rd)(c:Tc)(er:List Str)(x:Str)(p:Pos)(e:Expr)(pos:Pos):a7 (SE c er (.Assign [.Name x p] e pos)) :=
 if h:(yb0 c.sc x&&!zed e)=true then
  match h2:yaf c.nm x with
  |none=>none
  |some i=>(R.v c e).bind fun y=>if hf:fresh y.x=false then some ⟨.asg i y.x,fun{B G}g=>by
    rw[zxw,Bool.not_eq_true']at h;have w:(fun τ=>(evE G y.x (ygg (frzAt (yab y.x) τ))).bind fun t=>some (Out.nx ((frzAt (yab y.x) τ).set i (.val t))))=evS G (.asg i y.x):=by funext τ;show _=(evE G y.x (ygg (frzAt (yab y.x) τ))).bind fun t=>some (Out.nx ((frzAt (yab y.x) τ).set i (yau y.x t)));simp only[zjl hf]
    refine @PS.eq B _ _ _ ?_ w;exact ze6 (pos:=pos) (p:=p) (g.oe (y.ok g.gd)) (yab y.x) (g.hx h2) (g.hl h.1) (zfn y.pl h.2 _ _ B.env)⟩else none
 else none
def sAdd(R:Rd)(c:Tc)(er:List Str)(x:Str)(p:Pos)(a b:Expr)(p2 pos:Pos):a7 (SE c er (.Assign [.Name x p] (.BinOp a .Add b p2) pos)) :=
 if h:yb0 c.sc x=true then
  match h2:yaf c.nm x with
  |none=>none
  |some i=>(R.v c a).bind fun y=>(R.v c b).bind fun z=>some ⟨.asg i (.bin .add y.x z.x),fun{B G}g=>by
    have w:(fun τ=>((evE G y.x (ygg (frzAt (yab (.bin .add y.x z.x)) τ))).bind fun x=>(evE G z.x (ygg (frzAt (yab (.bin .add y.x z.x)) τ))).bind fun y=>yd8 x y).bind fun t=>some (Out.nx ((frzAt (yab (.bin .add y.x z.x)) τ).set i (ye6 t))))=evS G (.asg i (.bin .add y.x z.x)):=by
     have k:∀t,yau (.bin .add y.x z.x) t=ye6 t:=fun t=>by cases t<;>rfl
     funext τ;show _=(((evE G y.x (ygg (frzAt (yab (.bin .add y.x z.x)) τ))).bind fun x=>(evE G z.x (ygg (frzAt (yab (.bin .add y.x z.x)) τ))).bind fun y=>yd8 x y).bind fun t=>some (Out.nx ((frzAt (yab (.bin .add y.x z.x)) τ).set i (yau (.bin .add y.x z.x) t))));simp only[k]
    refine @PS.eq B _ _ _ ?_ w;exact zuo (pos:=pos) (p:=p) (p2:=p2) (g.oe (y.ok g.gd)) (g.oe (z.ok g.gd)) _ (g.hx h2) (g.hl h)⟩
 else none
def sLst(R:Rd)(c:Tc)(er:List Str)(x:Str)(p:Pos)(es:List Expr)(p2 pos:Pos):a7 (SE c er (.Assign [.Name x p] (.List es p2) pos)) :=
 if h:yb0 c.sc x=true then
  match h2:yaf c.nm x with
  |none=>none
  |some i=>(rLs R c es).bind fun y=>some ⟨.asg i (.lst y.xs),fun{B G}g=>by
    have w:(fun τ=>((fun r=>if y.xs.length<=1000 then(yal G y.xs r).map Sl.own else none) (ygg (frzAt (yah y.xs) τ))).bind fun sl=>some (Out.nx ((frzAt (yah y.xs) τ).set i sl)))=evS G (.asg i (.lst y.xs)):=by
     funext τ;show _=((if y.xs.length<=1000 then(yal G y.xs (ygg (frzAt (yah y.xs) τ))).map T.lst else none)).bind fun t=>some (Out.nx ((frzAt (yah y.xs) τ).set i (yau (.lst y.xs) t)));dsimp only;split
     .cases yal G y.xs (ygg (frzAt (yah y.xs) τ))<;>rfl
     .rfl
    refine @PS.eq B _ _ _ ?_ w;exact ze5 (pos:=pos) (p:=p) (zr2 (pos:=p2) (n:=y.xs.length) zdu (g.os (y.ok g.gd))) (yah y.xs) (g.hx h2) (g.hl h) rfl⟩
 else none
def sIf(R:Rd)(Q:∀ss,a7 (SSE c er ss))(t:Expr)(a b:List Stmt)(p:Pos):a7 (SE c er (.If t a b p)) :=
 (R.t c t).bind fun z=>(Q a).bind fun x=>(Q b).bind fun y=>some ⟨.ite z.x x.xs y.xs,fun{B G}g=>zul (g.ob (z.ok g.gd)) (yab z.x) (x.ok g) (y.ok g)⟩
def yem(R:Rd)(Q:∀ss,a7 (SSE c er ss))(t:Expr)(a:List Stmt)(p:Pos):a7 (SE c er (.While t a [] p)) :=
 (R.t c t).bind fun z=>(Q a).bind fun x=>some ⟨.wloop z.x x.xs,fun{B G}g=>zn9 g.fm (yab z.x) (g.ob (z.ok g.gd)) (x.ok g)⟩
def sExp(R:Rd)(c:Tc)(er:List Str)(e:Expr)(p:Pos):a7 (SE c er (.Expr e p)) :=
 if h:zed e=false then(R.v c e).bind fun x=>some ⟨.exp x.x,fun{B G}g=>zun (yab x.x) (g.oe (x.ok g.gd)) (zfn x.pl h _ _ B.env)⟩else none
theorem Sd.cl(g:Sd B c G er){f:Str}{p pos:Pos}(x:VE c e)(xs:LE c es)(h:(zai f&&glB c.sc f)=true):Cl B f p e es pos (yal G (x.x::xs.xs)) (G.call f) (G.exc f):=by rw[zxw]at h;exact⟨fun ts hs=>g.gd.call f ts hs,g.gd.sc.gl f h.2,g.os (za5 (x.ok g.gd) (xs.ok g.gd) (zal x.pl es B.env)),g.gd.cm,(zbc h.1).1,zal x.pl es B.env,xs.pl pos B.env⟩
def yf5(R:Rd)(c:Tc)(er:List Str)(f:Str)(p:Pos)(e:Expr)(es:List Expr)(pos p2:Pos):a7 (SE c er (.Return (some (.Call (.Name f p) (e::es) [] pos)) p2)) :=
 if h:(zai f&&glB c.sc f)=true then(R.v c e).bind fun x=>(rLs R c es).bind fun xs=>some ⟨.retx f (x.x::xs.xs),fun{B G}g=>by exact zrm (p2:=p2) (g.cl (p:=p) (pos:=pos) x xs h) (yah (x.x::xs.xs))⟩else none
def yfd(R:Rd)(c:Tc)(er:List Str)(f:Str)(p:Pos)(e:Expr)(es:List Expr)(pos p2:Pos):a7 (SE c er (.Expr (.Call (.Name f p) (e::es) [] pos) p2)) :=
 if h:(zai f&&glB c.sc f)=true then(R.v c e).bind fun x=>(rLs R c es).bind fun xs=>some ⟨.expx f (x.x::xs.xs),fun{B G}g=>by exact zro (p2:=p2) (g.cl (p:=p) (pos:=pos) x xs h) (yah (x.x::xs.xs)) rfl⟩else none
def ye1(R:Rd)(c:Tc)(er:List Str)(y:Str)(px:Pos)(f:Str)(p:Pos)(e:Expr)(es:List Expr)(pos p2:Pos):a7 (SE c er (.Assign [.Name y px] (.Call (.Name f p) (e::es) [] pos) p2)) :=
 if h:(zai f&&glB c.sc f)=true then if h1:yb0 c.sc y=true then
  match h2:yaf c.nm y with
  |none=>none
  |some i=>(R.v c e).bind fun x=>(rLs R c es).bind fun xs=>some ⟨.asgx i f (x.x::xs.xs),fun{B G}g=>by exact zrr (p2:=p2) (px:=px) (g.cl (p:=p) (pos:=pos) x xs h) (yah (x.x::xs.xs)) (g.hx h2) (g.hl h1) rfl⟩else none else none
def yfe(R:Rd)(c:Tc)(er:List Str)(x:Str)(p:Pos)(e:Expr)(es:List Expr)(pos p2:Pos):a7 (SE c er (.Raise (some (.Call (.Name x p) (e::es) [] pos)) none p2)) :=
 if hx:x=yar then none else if h:(zai x&&glB c.sc x&&er.contains x)=true then(R.v c e).bind fun y=>(rLs R c es).bind fun ys=>some ⟨.fail x (y.x::ys.xs),fun{B G}g=>by simp only[Bool.and_eq_true]at h;obtain⟨k,cl,hr⟩:=g.cls x (List.contains_iff_mem.mp h.2) hx;exact zoa g.gd.cm cl hr (g.gd.sc.gl x h.1.2) (zbc h.1.1).1 (g.os (za5 (y.ok g.gd) (ys.ok g.gd) (zal y.pl es B.env))) (zal y.pl es B.env) (ys.pl pos B.env) (yah (y.x::ys.xs))⟩else none
def yfv(R:Rd)(c:Tc)(er:List Str)(y:Str)(py:Pos)(f:Str)(p4:Pos):(lb:Expr)->(ls:Scope)->(p3 p5 p6:Pos)->a7 (SE c er (.Assign [.Name y py] (.Call (.Name f p4) [.Lambda yd4 lb ls p3] [] p5) p6))
 |.Call (.Name g p1) (e::es) [] p2,ls,p3,p5,p6=>
  if hf:f=yar then
  if h:(lsB c ls&&(glB c.sc yar&&((zai g&&glB ls g)&&(er.contains yar&&yb0 c.sc y))))=true then
   match h2:yaf c.nm y with
   |none=>none
   |some i=>(R.v ⟨ls,c.nm⟩ e).bind fun x=>(rLs R ⟨ls,c.nm⟩ es).bind fun xs=>some ⟨.asg i (.told g (x.x::xs.xs)),fun{B G}g'=>by
     subst hf;obtain⟨h1,h3⟩:=Bool.and_eq_true_iff.mp h;obtain⟨h3,h4⟩:=Bool.and_eq_true_iff.mp h3;obtain⟨h4,h5⟩:=Bool.and_eq_true_iff.mp h4;obtain⟨h5,h6⟩:=Bool.and_eq_true_iff.mp h5;have w:(fun τ=>(yal G (x.x::xs.xs) (ygg (frzAt (yah (x.x::xs.xs)) τ))).bind fun ts=>(ybf G g ts).bind fun t=>some (Out.nx ((frzAt (yah (x.x::xs.xs)) τ).set i (.val t))))=evS G (.asg i (.told g (x.x::xs.xs))):=by funext τ;show _=((yal G (x.x::xs.xs) (ygg (frzAt (yah (x.x::xs.xs)) τ))).bind fun ts=>ybf G g ts).bind fun t=>some (Out.nx ((frzAt (yah (x.x::xs.xs)) τ).set i (.val t)));rw[Option.bind_assoc]
     refine @PS.eq B _ _ _ ?_ w;exact g'.td h5 x xs h1 h3 h4 (g'.hx h2) (g'.hl h6) _⟩
  else none else none
 |_,_,_,_,_=>none
end Nb
section
namespace Nb
open PySem Spec PyProof.Rows Ev
section
variable {pos:Pos}{i j:Int}{c cv:Value}
theorem zjy:∀(n:Nat)(l:List Value),l.length<=n->TriplesOk l->codeAmong pos (l++[rawInt i,rawInt j,c])=some cv->codeAmong pos l=some cv\/cv=c:=by
 intro n
 induction n with
 |zero=>
  intro l hl ht h;obtain rfl:l=[]:=List.length_eq_zero_iff.mp (by lia);have h:(if(i==pos.line&&j==pos.col)=true then some c else codeAmong pos [])=some cv:=h;split at h
  .cases h;exact .inr rfl
  .exact .inl h
 |succ n ih=>
  intro l hl ht h;unfold TriplesOk at ht;split at ht
  .have h:(if(i==pos.line&&j==pos.col)=true then some c else codeAmong pos [])=some cv:=h;split at h
   .cases h;exact .inr rfl
   .exact .inl h
  .rename_i a s b t d rest;have h:(if(a==pos.line&&b==pos.col)=true then some d else codeAmong pos (rest++[rawInt i,rawInt j,c]))=some cv:=h;show(if(a==pos.line&&b==pos.col)=true then some d else codeAmong pos rest)=some cv\/cv=c;split at h
   .rename_i e;rw[if_pos e];exact .inl h
   .rename_i e;rw[if_neg e];exact ih rest (by simp at hl;lia) ht h
  .exact ht.elim
theorem zke:∀(n:Nat)(l:List Value),l.length<=n->TriplesOk l->TriplesOk (l++[rawInt i,rawInt j,c]):=by
 intro n
 induction n with
 |zero=>intro l hl ht;obtain rfl:l=[]:=List.length_eq_zero_iff.mp (by lia);exact trivial
 |succ n ih=>
  intro l hl ht;unfold TriplesOk at ht;split at ht
  .exact trivial
  .rename_i a s b t d rest;exact ih rest (by simp at hl;lia) ht
  .exact ht.elim
end
variable {P:Pc}{B:Bd}{cs:List Addr}{a C D f ta DE p cc cd:Addr}{n:Int}{k:Nat}{F G G2:Fz}{s s' s1 s2:Shared}{l:List PySem.Env}{x g:Str}{A:Around}{t tt:T}{ts:List T}{u:Value}{o:Out}{pn:List (Addr×a7 Obj)}{ad:Nat->List Addr}{τ:List Sl}{ls:Scope}{lb:Expr}{pos:Pos}{Q E:Value->Shared->Prop}{cl:List (Str×Addr)}
structure LwB(B:Bd)(cc p:Addr):Prop where
 stk:B.stack=[B.env]
 fm:B.Fm
 cm:B.calm
 tb:B.tbp=[(p,none)]
 code:B.env.code=.ref cc
 qual:B.env.qual++"<lambda>"=ycb
 hd:∀h,B.K.In h->W.CodeHd h cc p
 bm:∀h,B.K.In h->h.BuiltinsAt B.mg p
abbrev yeq(lb:Expr)(ls:Scope)(cl:List (Str×Addr))(pm:Value)(cd:Addr)(ctv:Value):Obj:=W.kla_obj "<lambda>" ycb yd4 lb ls cl pm cd ctv
theorem zon(L:LwB B cc p)(h:B.Fr pn ad τ F s)(clo:closureFor ls B.env=pure cl)(q:∀f cd pm ctv oc vs t G s',F.le G->B.Fr pn ad τ G s'->G f=some (yeq lb ls cl pm cd ctv)->G cd=some oc->oc.data=.fields vs->vs[1]?=some (.str ycb t)->Q (.ref f) s'):wpAny B.M B.A (eval (.Lambda yd4 lb ls pos) B.env) Q E s:=by
 obtain⟨m1,⟨m2,_⟩,_⟩:=h.pin (p,none) (List.mem_append_left _ (by rw[L.tb];exact .head _));obtain⟨ps,hP,ht,hps⟩:ycx F s.heap p:=m2;have st:=h.toSt;have KX:B.K.In s.heap:=st.mod.kin.keeps st.bk;have hg:=st.mod.glob.keeps st.bk;have hgP:mainGlobals≠p:=fun z=>by obtain⟨o,es,ep,e,hd,_⟩:=hg;rw[z,hP]at e;cases e;cases hd
 have hb:=L.bm _ KX;have hC:=L.hd _ KX;refine W.kla_eval rfl ?_;rw[L.qual];cases hca:codeAmong pos ps.toList with
 |some cv=>obtain⟨cd,oc,vs,t,rfl,g2,g3,g4⟩:=hps pos cv hca;refine W.kla_makeFunctionHit clo h.ok.glob hg L.code hC hP ht hca hb fun ctv h' tk hk hsz=>?_;have u:=Up.laid (k:=tk) (h':=h'.push (yeq lb ls cl ((B.mg "__name__").getD .none) cd ctv)) h.up.fh (fun b o e=>zxr _ (hk b o e)) (Heap.get?_none_of_le hsz) (zxx _ rfl);exact q _ cd _ ctv oc vs t _ _ u.ff (h.after u) zbs (u.ff _ _ g2) g3 g4
 |none=>
  refine W.kla_makeFunction clo h.ok.glob hg L.code hC hP ht hca hgP hb fun cd ctv h' tk hx hge hlt hrec htb=>?_;obtain⟨cd2,oc,vs,t,e2,hoc,hd,hv⟩:=hrec;cases e2;show Q (.ref h'.objs.size) {s with heap:=h'.push (yeq lb ls cl ((B.mg "__name__").getD .none) cd ctv),toks:=tk};generalize hlo:yeq lb ls cl ((B.mg "__name__").getD .none) cd ctv=lo;have fc:F cd=none:=h.up.fh.none (Heap.get?_none_of_le hge);have hsz:s.heap.objs.size<=h'.objs.size:=zyc hge (Nat.le_of_lt hlt);have ff:F h'.objs.size=none:=h.up.fh.none (Heap.get?_none_of_le hsz);have ncf:cd≠h'.objs.size:=zye hlt;have le1:F.le (fup F cd oc):=zbm fc;have le2:(fup F cd oc).le (fup (fup F cd oc) h'.objs.size lo):=zbm (by unfold fup;rw[if_neg (Ne.symm ncf)];exact ff);have kp:∀b o,h'.get? b=some o->(h'.push lo).get? b=some o:=fun b o e=>zxr _ e;refine q _ cd _ ctv oc vs t (fup (fup F cd oc) h'.objs.size lo) _ (le1.trans le2) (h.tabbed L.tb (le1.trans le2) (fun b v w=>?_) (fun b w=>?_) (fun b v nb w=>kp _ _ (hx b v nb w)) rfl id ⟨_,kp _ _ htb,?_,fun pos' cv e=>?_⟩) (by rw[hlo];exact zbs) (le2 _ _ zbs) hd hv
  .unfold fup at w;split at w
   .rename_i z;cases w;rw[z];exact zxx _ (by rw[<-hlo];rfl)
   .split at w
    .rename_i z;cases w;rw[z];exact kp _ _ hoc
    .exact kp _ _ (hx b v (fun z=>by rw[z,m1.f]at w;cases w) (h.up.fh b v w))
  .unfold fup at w;split at w
   .rename_i z;rw[z];exact .inr (Heap.get?_none_of_le hsz)
   .split at w
    .rename_i z;rw[z];exact .inr (Heap.get?_none_of_le hge)
    .exact .inl w
  .rw[Array.toList_append];exact zke _ _ (zx3 _) ht
  .rw[Array.toList_append]at e;rcases zjy _ _ (zx3 _) ht e with e|rfl
   .obtain⟨cd',oc',ws,t',e1,e2,e3⟩:=hps pos' cv e;exact⟨cd',oc',ws,t',e1,le2 _ _ (le1 _ _ e2),e3⟩
   .exact⟨cd,oc,vs,t,rfl,le2 _ _ zbs,hd,hv⟩
end Nb
section
namespace Nb
open PySem Spec PyProof.Rows Ev
variable {c:Tc}{er:List Str}{B:Bd}{G:Glo}{e:Expr}{es:List Expr}{x:Str}{i:Nat}
def ixs(c:Tc)(er:List Str):(xs:List Str)->Option {is:List Nat // ∀{B:Bd}{G:Glo},Sd B c G er->Tgs B xs is}
 |[]=>some ⟨[],fun _=>⟨rfl,fun j x i h=>by simp at h⟩⟩
 |x::xs=>if h:yb0 c.sc x=true then
  match h2:yaf c.nm x with
  |none=>none
  |some i=>(ixs c er xs).bind fun r=>some ⟨i::r.1,fun{B G}g=>by
   obtain⟨r1,r2⟩:=r.2 g;refine⟨by simp[r1],fun j y k e1 e2=>?_⟩;cases j with
   |zero=>simp at e1 e2;subst e1 e2;exact⟨g.hx h2,g.hl h⟩
   |succ j=>exact r2 j y k (by simpa using e1) (by simpa using e2)⟩
 else none
def sFor(R:Rd)(c:Tc)(Q:∀ss,a7 (SSE c er ss))(tg it:Expr)(body:List Stmt)(p:Pos):a7 (SE c er (.For tg it body [] p)) :=
 match htg:zcb tg with
 |none=>none
 |some xs=>
  if h:(!ybb tg||decide (2<=xs.length))=true then
   (ixs c er xs).bind fun is=>(rI R c tg it).bind fun k=>(Q body).bind fun b=>some ⟨.loop is.1 k.k k.xs b.xs,fun{B G}g=>by
    have w:(fun τ=>((fun r=>(yal G k.xs r).bind (items k.k)) (ygg (frzAt (yah k.xs) τ))).bind fun qc=>ybk (fun x τ=>(ybs is.1 x τ).bind (yav G b.xs)) qc (frzAt (yah k.xs) τ))=evS G (.loop is.1 k.k k.xs b.xs):=by funext τ;show _=(yal G k.xs (ygg (frzAt (yah k.xs) τ))).bind fun xs=>(items k.k xs).bind fun qc=>ybk (fun x τ=>(ybs is.1 x τ).bind fun τ'=>yav G b.xs τ') qc (frzAt (yah k.xs) τ);dsimp only;cases yal G k.xs (ygg (frzAt (yah k.xs) τ))<;>rfl
    refine @PS.eq B _ _ _ ?_ w;exact zum g.fm (yah k.xs) (g.oi (k.ok g.gd)) (zru g.gd.cm htg (is.2 g) fun z=>by rw[z]at h;simpa using h) (b.ok g) (k.fold B.env)⟩
  else none
theorem ydv{Y:Yc}{pos:Pos}(h:plE e=true):Plain Y pos [e]:=by have s:=zal h [] Y.env;exact⟨by rw[s];rfl,by rw[s];rfl,.inr ⟨_,_,by rw[s];rfl⟩⟩
def sApp(R:Rd)(c:Tc)(er:List Str)(x:Str)(px:Pos)(m:Str)(apos:Pos)(a:Expr)(cpos p:Pos):a7 (SE c er (.Expr (.Call (.Attribute (.Name x px) m apos) [a] [] cpos) p)) :=
 if h:(zai x&&apos.endLine==cpos.line)=true then
  match h2:yaf c.nm x with
  |none=>none
  |some i=>
   if hm:m="append" then(R.v c a).bind fun y=>some ⟨.app i y.x,fun{B G}g=>by subst hm;rw[zxw]at h;exact zgh (yab y.x) (g.hx h2) (zfq h.1) (g.oe (y.ok g.gd)) (zal y.pl [] B.env) h.2 (ydv y.pl)⟩
   else if hm:m="extend" then(R.v c a).bind fun y=>some ⟨.ext i y.x,fun{B G}g=>by subst hm;rw[zxw]at h;exact zk5 (yab y.x) (g.hx h2) (zfq h.1) (g.oe (y.ok g.gd)) (zal y.pl [] B.env) h.2 (ydv y.pl)⟩
   else none
 else none
def sPop(c:Tc)(er:List Str)(x:Str)(px:Pos)(m:Str)(apos cpos p:Pos):a7 (SE c er (.Expr (.Call (.Attribute (.Name x px) m apos) [] [] cpos) p)) :=
 if h:(zai x&&apos.endLine==cpos.line)=true then if hm:m="pop" then
  match h2:yaf c.nm x with
  |none=>none
  |some i=>some ⟨.pop i,fun{B G}g=>by subst hm;rw[zxw]at h;exact zuj (g.hx h2) (zfq h.1) h.2⟩
 else none else none
def yf4(c:Tc)(er:List Str)(y:Str)(py:Pos)(x:Str)(px:Pos)(m:Str)(apos cpos p:Pos):a7 (SE c er (.Assign [.Name y py] (.Call (.Attribute (.Name x px) m apos) [] [] cpos) p)) :=
 if h:(zai x&&apos.endLine==cpos.line&&yb0 c.sc y)=true then if hm:m="pop" then
  match h2:yaf c.nm x,h3:yaf c.nm y with
  |some i,some j=>some ⟨.lpop j i,fun{B G}g=>by subst hm;simp only[Bool.and_eq_true]at h;exact zrn (g.hx h2) (zfq h.1.1) (g.hx h3) (g.hl h.2) h.1.2⟩
  |_,_=>none
 else none else none
def ygf(R:Rd)(c:Tc)(er:List Str)(x:Str)(p:Pos):(ks:List (a7 Expr))->(vs:List Expr)->(p2 pos:Pos)->a7 (SE c er (.Assign [.Name x p] (.Dict ks vs p2) pos))
 |[],[],p2,pos=>if h:yb0 c.sc x=true then
  match h2:yaf c.nm x with
  |none=>none
  |some i=>some ⟨.dnew i,fun{B G}g=>by exact ze5 (pos:=pos) (p:=p) (zoi (pos:=p2)) [] (g.hx h2) (g.hl h) rfl⟩else none
 |[some k],[v],p2,pos=>if h:yb0 c.sc x=true then
  match h2:yaf c.nm x with
  |none=>none
  |some i=>(R.v c k).bind fun y=>(R.v c v).bind fun z=>some ⟨.dnew1 i y.x z.x,fun{B G}g=>by
    have w:(fun τ=>((fun r=>(evE G y.x r).bind fun a=>(evE G z.x r).bind fun b=>if yac [] a=true then some (Sl.dic [a] [b])else none) (ygg (frzAt (yab y.x++yab z.x) τ))).bind fun sl=>some (Out.nx ((frzAt (yab y.x++yab z.x) τ).set i sl)))=evS G (.dnew1 i y.x z.x):=by
     funext τ;show _=(evE G y.x (ygg (frzAt (yab y.x++yab z.x) τ))).bind fun x=>(evE G z.x (ygg (frzAt (yab y.x++yab z.x) τ))).bind fun y'=>if yac [] x=true then some (Out.nx ((frzAt (yab y.x++yab z.x) τ).set i (.dic [x] [y'])))else none
     dsimp only;cases evE G y.x (ygg (frzAt (yab y.x++yab z.x) τ))with
     |none=>rfl
     |some a=>
      cases evE G z.x (ygg (frzAt (yab y.x++yab z.x) τ))with
      |none=>rfl
      |some b=>dsimp only[xbs];split<;>rfl
    refine @PS.eq B _ _ _ ?_ w;exact ze5 (pos:=pos) (p:=p) (zlf (pos:=p2) g.gd.rm (g.oe (y.ok g.gd)) (g.oe (z.ok g.gd))) (yab y.x++yab z.x) (g.hx h2) (g.hl h) rfl⟩else none
 |_,_,_,_=>none
def sPut(R:Rd)(c:Tc)(er:List Str)(x:Str)(px:Pos)(k:Expr)(tp:Pos)(v:Expr)(pos:Pos):a7 (SE c er (.Assign [.Subscript (.Name x px) k tp] v pos)) :=
 if h:(zai x&&!zed v)=true then
  match h2:yaf c.nm x with
  |none=>none
  |some i=>(R.v c k).bind fun y=>(R.v c v).bind fun z=>some ⟨.put i y.x z.x,fun{B G}g=>by rw[zxw,Bool.not_eq_true']at h;exact zui g.gd.rm (yab z.x++yab y.x) (g.hx h2) (zfq h.1) (g.oe (y.ok g.gd)) (g.oe (z.ok g.gd)) (zfn z.pl h.2 _ _ B.env)⟩
 else none
theorem yej{Y:Yc}{pos tp:Pos}(h:plE e=true):Plain Y pos [e,.List [] tp]:=by have s:=zal h [.List [] tp] Y.env;exact⟨by rw[s];rfl,by rw[s];rfl,.inr ⟨_,_,by rw[s];rfl⟩⟩
def yfq(R:Rd)(c:Tc)(er:List Str)(x:Str)(px:Pos)(m:Str)(apos:Pos)(k:Expr)(tp cpos:Pos)(m2:Str)(a2:Pos)(v:Expr)(c2 p:Pos):a7 (SE c er (.Expr (.Call (.Attribute (.Call (.Attribute (.Name x px) m apos) [k,.List [] tp] [] cpos) m2 a2) [v] [] c2) p)) :=
 if h:(zai x&&(apos.endLine==cpos.line&&a2.endLine==c2.line))=true then if hm:m="setdefault"/\m2="append" then
  match h2:yaf c.nm x with
  |none=>none
  |some i=>(R.v c k).bind fun y=>(R.v c v).bind fun z=>some ⟨.dapp i y.x z.x,fun{B G}g=>by obtain⟨rfl,rfl⟩:=hm;simp only[Bool.and_eq_true]at h;exact zrp g.gd.rm (yab y.x++yab z.x) (g.hx h2) (zfq h.1) (g.oe (y.ok g.gd)) (g.oe (z.ok g.gd)) (zal y.pl _ B.env) (zal z.pl [] B.env) h.2.1 h.2.2 (yej y.pl)⟩
 else none else none
end Nb
section
namespace Nb
open PySem Spec PyProof.Rows Ev
variable {c:Tc}{er:List Str}{Y:Yc}{N:Str->Nat->Prop}{a:Expr}{f:Ev.Env->a7 T}{p pos:Pos}
theorem zoh(hg:Gl Y "list")(hm:Y.mg "list"=none)(ha:Oke Y N a f)(hs:starEach [a] Y.env=[(false,eval a Y.env)]):OkO Y N (.Call (.Name "list" p) [a] [] pos) fun r=>(f r).bind fun x=>(yby x).map .own:=fun{s F r sl E}A q=>by
 obtain⟨x1,e1,q⟩:=obs q;obtain⟨ts,q1,rfl⟩:=oms q;refine wpAny_Call_Name_kw (zcf A hg hm (by decide +kernel:bootBuiltins "list"=some (.type "list")) ?_ (by decide) (by decide));refine PyProof.Rows.callWith_type1 (thn (ye9 ha hs pos A (ts:=[x1]) (E:=E) (by simp only[e1];rfl)) fun us s1 z=>?_) (by rw[hs];rfl) rfl;obtain⟨G,u1,w,z,rfl,r1,r2⟩:=z;cases r2;have fin:∀{qc:Array Value},Reps Y.w G ts qc.toList->qc.size<=sizeLine->∀h' c',(∀b o',s1.heap.get? b=some o'->h'.get? b=some o')->h'.get? s1.heap.objs.size=some {cls:=.type "list",dict:=none,data:=.seq qc c',slots:=#[]}->
   ∃a G',Value.ref s1.heap.objs.size=.ref a/\Up F s G' {s1 with heap:=h'}/\G' a=none/\s.heap.get? a=none/\OwnOk Y.w G' h' [a] (.own ts):=fun{qc}r z h' c' kp e=>
  ⟨_,G,rfl,u1.trans (Up.kept (k:=s1.toks) u1.fh kp),u1.fh.none zac,u1.old zac,rfl,qc,c',e,z,r⟩
 cases x1 with
 |tup us=>cases q1;obtain⟨a,o,qc,n,rfl,f,c,d,z,r⟩:=r1;exact call_list_seq a (.inr rfl) (u1.fh _ _ f) c d (fun h' c' kp e=>fin r z h' c' kp e) z
 |lst us=>cases q1;obtain⟨a,qc,n,rfl,f,z,r⟩:=r1;exact call_list_seq a (.inl rfl) (u1.fh _ _ f) rfl rfl (fun h' c' kp e=>fin r z h' c' kp e) z
 |_=>cases q1
def sNw(R:Rd)(c:Tc)(er:List Str)(x:Str)(p:Pos)(p1:Pos)(a:Expr)(p2 pos:Pos):a7 (SE c er (.Assign [.Name x p] (.Call (.Name "list" p1) [a] [] p2) pos)) :=
 if h:(yb0 c.sc x&&glB c.sc "list")=true then
  match h2:yaf c.nm x with
  |none=>none
  |some i=>(R.v c a).bind fun y=>some ⟨.nw i (.blt .toList y.x),fun{B G}g=>by
    rw[zxw]at h;have w:(fun τ=>((fun r=>(evE G y.x r).bind fun x=>(yby x).map Sl.own) (ygg (frzAt (yab y.x) τ))).bind fun sl=>some (Out.nx ((frzAt (yab y.x) τ).set i sl)))=evS G (.nw i (.blt .toList y.x)):=by
     funext τ;show _=((evE G y.x (ygg (frzAt (yab y.x) τ))).bind fun x=>yb2 .toList x).bind fun t=>(match t with
      |.lst ts=>some (Out.nx ((frzAt (yab y.x) τ).set i (.own ts)))
      |_=>none)
     dsimp only;cases evE G y.x (ygg (frzAt (yab y.x) τ))with
     |none=>rfl
     |some x=>cases x<;>rfl
    refine @PS.eq B _ _ _ ?_ w;exact ze5 (pos:=pos) (p:=p) (zoh (p:=p1) (pos:=p2) (g.gd.sc.gl _ h.2) (g.gd.bn _ (by decide)) (g.oe (y.ok g.gd)) (zal y.pl [] B.env)) (yab y.x) (g.hx h2) (g.hl h.1) rfl⟩
 else none
end Nb
section
namespace Nb
open PySem Spec PyProof.Rows Ev
variable {as:List Addr}
variable {B:Bd}{pn:List (Addr×a7 Obj)}{ad:Nat->List Addr}{τ:List Sl}{F G:Fz}{s s' s1:Shared}{x y z:Str}{i j c:Nat}{is:List Nat}{ke iter:Expr}{pos p1 p2 p3 p4 p5 p6 px apos cpos tp pos2:Pos}{E:Value->Shared->Prop}{t k:T}{ts ks:List T}{vs:List (List T×List T)}{u v kv:Value}{a d:Addr}{fk:Ev.Env->a7 T}{fi:Ev.Env->a7 (List T)}{k0:Nat}{r:Ev.Env}{w:World}{h:Heap}
abbrev DdAt(w:World)(F:Fz):=GAt (fun h a(p:List T×List T)=>OwnD w F h a p.1 (Reps w F p.2)) w F
theorem DdAt.ok(q:DdAt w F h d as ks vs):OwnOk w F h (d::as) (.dd ks vs):=⟨q.D,q.L,q.nd⟩
theorem Fr.ownDd{sl:Sl}(h:B.Fr pn ad τ F s)(hx:B.N[i]?=some x)(ht:τ[i]?=some sl)(e:ddS (some sl)=some (ks,vs)):∃d as,ad i=d::as/\Look B.toYc s.heap x (.ref d)/\DdAt B.w F s.heap d as ks vs:=by
 have w:=h.slot i x _ hx ht;cases sl with
 |dd ks' vs'=>
  cases e;obtain⟨⟨a,e,l⟩,q⟩:=w;cases hd:ad i with
  |nil=>rw[hd]at e;cases e
  |cons b as=>rw[hd]at e q;cases e;exact⟨a,as,rfl,l,q.1,q.2.1,q.2.2⟩
 |dic ks' vs'=>
  cases ks' with
  |nil=>cases vs' with
   |nil=>cases e;obtain⟨d,us,h1,h2,D,r⟩:=h.ownD hx ht;cases r;exact⟨d,[],h1,h2,D,rfl,by simp⟩
   |cons _ _=>cases e
  |cons _ _=>cases e
 |_=>cases e
theorem Fr.forget(h:B.Fr pn ad τ F s):B.Fr pn ad (τ.set i .no) F s:={h with
 len:=by rw[ub1];exact h.len
 slot:=fun k x sl e1 e2=>by
  by_cases z:i=k
  .subst z;by_cases hl:i<τ.length
   .rw[ua4 hl]at e2;cases e2;trivial
   .rw[ud7 (by rw[ub1];lia)]at e2;cases e2
  .rw[zyw z]at e2;exact h.slot k x sl e1 e2}
theorem Look.keep'{Y:Yc}{N:List Str}{F0 F:Fz}{s0 s:Shared}{pn:List (Addr×a7 Obj)}{ad:Nat->List Addr}{τ:List Sl}{h':Heap}(hF:Fr Y N F0 s0 pn ad τ F s)(hy:y∈N)(l:Look Y s.heap y u)(k:∀b o,(b=Y.env.locals\/∃c,Y.env.cells.lookup y=some c/\b=c)->s.heap.get? b=some o->h'.get? b=some o):Look Y h' y u:=by
 rcases l with⟨e,m,⟨o,es,ep,w1,w2⟩,q⟩|⟨e,c,e2,o,w1,w2⟩
 .exact .inl ⟨e,m,⟨o,es,ep,k _ _ (.inl rfl) w1,w2⟩,q⟩
 .exact .inr ⟨e,c,e2,o,k _ _ (.inr ⟨c,e2,rfl⟩) w1,w2⟩
theorem zh1{α:Type}{l:List α}{n:Nat}{x:α}(h:l[n]?=some x):l.set n x=l:=by
 refine List.ext_getElem? fun j=>?_;by_cases e:n=j
 .subst e;rw[ua4 (ome h).1,h]
 .rw[zyw e]
theorem zm4{n:Nat}(hm:B.Fm)(hu:B.toYc.Rm)(hx:B.N[i]?=some x)(hy:B.N[j]?=some y)(hz:B.N[c]?=some z)(ny:Nm y)(nz:Nm z)(lz:Loc B.env.scope z)(hic:i≠c)(hjc:j≠c){qc:List T}{fp:List Addr}{it:Addr}{tn:Nat->Heap->Prop}(W:Walk B.toYc (.Name z p2) qc G fp it tn){p q:List T×List T}{vs1:List (List T×List T)}(hF:B.Fr pn ad τ F s)(le:G.le F)(hi:τ[i]?=some (.dd ks vs1))(hn:vs1[n]?=some p)(had:ad i=d::as)(ha:as[n]?=some a)(ly:Look B.toYc s.heap y (.ref a))(t0:tn 0 s.heap)(fo:∀b∈fp,F b=none/\Off B.toYc B.N B.s0 (B.tbp++pn) ad b)(hq:ybh qc p=some q){R:Result->Shared->Prop}(hR:∀ad' F' s',F.le F'->B.Fr pn ad' ((τ.set i (.dd ks (vs1.set n q))).set c .no) F' s'->R (.ok .next) s'):codeAny B.M B.A (.forLoop (.Name z p2) (.ref it) [.Assign [.Subscript (.Name y p3) (.Name z p4) tp] (.Constant .none k0 p5) p6] [] B.env) R s:=by
 have il:i<τ.length:=(ome hi).1;have nl:n<vs1.length:=(ome hn).1;refine codeAny_forLoop_any (fun m' s'=>∃m ad1 F1 p1 τ1,B.Fr pn ad1 τ1 F1 s'/\F.le F1/\τ1[i]?=some (.dd ks (vs1.set n p1))/\(∀sl,(τ1.set i sl).set c .no=(τ.set i sl).set c .no)/\ad1 i=d::as/\Look B.toYc s'.heap y (.ref a)/\tn m s'.heap/\(∀b∈fp,F1 b=none/\Off B.toYc B.N B.s0 (B.tbp++pn) ad1 b)/\m'+m=qc.length/\ybh (qc.drop m) p1=some q) ?_ qc.length
  ⟨0,ad,F,p,τ,hF,fun _ _ e=>e,by rw[hi];rw[zh1 hn],fun _=>rfl,had,ly,t0,fo,rfl,hq⟩
 rintro m' s3 ⟨m,ad3,F3,p3',τ3,h3,le3,hi3,ht3,had3,ly3,t3,of3,hm3,q3⟩;cases hxm:qc[m]? with
 |none=>have hl:=List.getElem?_eq_none_iff.mp hxm;rw[List.drop_eq_nil_of_le hl]at q3;cases q3;refine thn (W.done (le.trans le3) h3.up.fh (fun b hb=>(of3 b hb).1) t3 (by lia)) fun r s4 zz=>?_;obtain⟨rfl,u4⟩:=zz;refine wpAny_execs_nil (hR ad3 _ s4 (le3.trans u4.ff) ?_);have h4:=(Fr.turned h3 (fun b hb=>(of3 b hb).2) u4).forget (i:=c);have e:τ3.set i (.dd ks (vs1.set n q))=τ3:=zh1 hi3;rw[<-ht3,e];exact h4
 |some xx=>
  obtain⟨hil,ex⟩:=ome hxm;rw[List.drop_eq_getElem_cons hil,ex]at q3;replace q3:(if yac p3'.1 xx=true/\p3'.1.length<SZ then ybh (qc.drop (m+1)) (yad p3'.1 xx,yap p3'.1 p3'.2 xx .non)else none)=some q:=q3;split at q3
  .rename_i hkk;refine thn (W.item (le.trans le3) h3.up.fh (fun b hb=>(of3 b hb).1) t3 hxm) fun r s4 zz=>?_;obtain⟨u,rfl,zz⟩:=zz;refine thn zz fun _ s5 zz=>?_;obtain⟨G5,u5,r5,t5⟩:=zz;have h5:=Fr.turned h3 (fun b hb=>(of3 b hb).2) u5;have yN:=zx4 hy;have ly5:Look B.toYc s5.heap y (.ref a):=Look.keep' h3 yN ly3 fun b o hb e=>u5.ext b o (fun w=>by
    rcases hb with hb|⟨c',e1,e2⟩
    .exact(of3 b w).2.l hb
    .exact(of3 b w).2.c y yN c' e1 e2.symm) e
   have h5p:=Fr.pinned (fp:=fp) h5 fun b hb=>⟨u5.fn b hb,(of3 b hb).2⟩;have yz:y≠z:=fun w=>hjc ((List.getElem?_inj (ome hy).1 h5.nd).mp (by rw[hy,hz,w]));refine wpAny_assign_Name (h5p.store (d:=[]) (sl:=.val xx) hz lz (fun _ w=>nomatch w) (fun _ lk=>⟨u,lk,r5⟩) fun s6 lz6 oth6 h6=>?_);have ly6:=oth6 y yN _ yz ly5;have hi6:(τ3.set c (.val xx))[i]?=some (.dd ks (vs1.set n p3')):=by rw[zyw (Ne.symm hic)];exact hi3
   have had6:(if i=c then[]else ad3 i)=d::as:=by rw[if_neg hic];exact had3
   obtain⟨d',as',q1,lx,DD⟩:=h6.ownDd hx hi6 rfl;rw[had6]at q1;cases q1;obtain⟨a',q2,DA⟩:=DD.L.get (ua4 nl);rw[ha]at q2;cases q2;obtain⟨o,es,ep,w1,w2,w3,w4,rv⟩:=DA;have D1:Dat B.w G5 s6.heap a p3'.1 (es.toList.map (·.val)):=⟨o,es,ep,w1,w2,w3,w4,rfl⟩;refine wpAny_execs_cons (wpAny_Assign_Subscript (Constant_none (zdd h6.ok ny ly6 (zdd h6.ok nz lz6 (zdn (rdy hu h6.up.fh D1 hkk.1 r5) (zy9 hkk.2 (by rw[ub5];exact zx3 _)) fun h' D2 hs=>wpAny_execs_nil ?_)))) rfl);have aas:=zx4 ha;have nd1:=ua7.mp DD.nd;have da:d≠a:=fun w=>nd1.1 (by rw[w];exact aas);have ow:OwnD B.w G5 h' a (yad p3'.1 xx) (Reps B.w G5 (yap p3'.1 p3'.2 xx .non)):=by obtain⟨o2,es2,ep2,v1,v2,v3,v4,v5⟩:=D2;exact⟨o2,es2,ep2,v1,v2,v3,v4,by rw[v5];exact zd1 D1.len rv rfl⟩
   have DD2:DdAt B.w G5 h' d as ks (vs1.set n (yad p3'.1 xx,yap p3'.1 p3'.2 xx .non)):=⟨OwnD.to DD.D (fun o e=>(hs.2 d da).trans e) (fun _ _ e=>e) fun _ e=>e,by have:=Alls.set (S:=fun b(p:List T×List T)=>OwnD B.w G5 h' b p.1 (Reps B.w G5 p.2)) (x:=(yad p3'.1 xx,yap p3'.1 p3'.2 xx .non)) DD.L ha nd1.2 ow fun b _ hb y hy=>OwnD.to hy (fun o e=>(hs.2 b hb).trans e) (fun _ _ e=>e) fun _ e=>e;rw[List.set_set]at this;exact this,DD.nd⟩;have h7:=h6.own' (sl':=.dd ks (vs1.set n (yad p3'.1 xx,yap p3'.1 p3'.2 xx .non))) (d:=d::as) (s':={s6 with heap:=h',toks:=s6.toks+drT xx}) hx hi6 (fun b hb=>by have hb:b∈(if i=c then[]else ad3 i):=hb;rw[had6]at hb;exact hb) (fun b hb=>.inl (by show b∈(if i=c then[]else ad3 i);rw[had6];exact hb)) (fun b hb=>by
     by_cases w:b=a
     .rw[w];obtain⟨o2,v1,_⟩:=D2.at;exact⟨o2,v1⟩
     .obtain⟨o2,v⟩:=(h6.own i b (by show b∈(if i=c then[]else ad3 i);rw[had6];exact hb)).2;exact⟨o2,(hs.2 b w).trans v⟩)
    (fun b o hb e=>(hs.2 b fun w=>hb (by rw[w];exact .tail _ aas)).trans e) rfl id fun lk'=>SlOk.mk (lk' _ lx) DD2.ok
   have ma:=(h6.own i a (by show a∈(if i=c then[]else ad3 i);rw[had6];exact .tail _ aas)).1;have ly7:Look B.toYc h' y (.ref a):=Look.keep' h6 yN ly6 fun b o hb e=>(hs.2 b fun w=>by
    rcases hb with hb|⟨c',e1,e2⟩
    .exact ma.l (w.symm.trans hb)
    .exact ma.c y yN c' e1 (e2.symm.trans w)).trans e
   have pk:∀b∈fp,∃o,s5.heap.get? b=some o/\h'.get? b=some o/\G5 b=none/\Off B.toYc B.N B.s0 (B.tbp++pn) (fun k=>if k=i then d::as else if k=c then[]else ad3 k) b:=fun b hb=>by obtain⟨o,eo⟩:=W.obj t5 b hb;obtain⟨p1,⟨p3,_⟩,p6⟩:=h7.pin (b,some o) (zym _ (zym _ (ud5.mpr ⟨b,hb,by rw[eo];rfl⟩)));exact⟨o,eo,p3,p1.f,p1.z,p1.l,p1.c,p6,(of3 b hb).2.p⟩
   refine⟨m'-1,by lia,m+1,_,G5,_,_,h7.unpin,le3.trans u5.ff,ua4 (by rw[ub1];exact(ome hi3).1),fun sl=>?_,if_pos rfl,ly7,W.keep t5 fun b hb o e=>?_,fun b hb=>(pk b hb).choose_spec.2.2,by lia,q3⟩
   .rw[List.set_set,<-ht3 sl,show(τ3.set c (Sl.val xx)).set i sl=(τ3.set i sl).set c (.val xx)from List.set_comm _ _ (Ne.symm hic),List.set_set]
   .obtain⟨o',w1,w2,_⟩:=pk b hb;rw[e]at w1;cases w1;exact w2
  .cases q3
theorem zs8{sl:Sl}{p:List T×List (List T×List T)}(e:ddS (some sl)=some p):sl.get=none:=by cases sl<;>first|rfl|cases e
theorem zn8{ss:List Stmt}{g:List Sl->a7 Out}{q3:Pos}(hm:B.Fm)(hu:B.toYc.Rm)(is:List Nat)(hx:B.N[i]?=some x)(hy:B.N[j]?=some y)(hz:B.N[c]?=some z)(nx:Nm x)(ny:Nm y)(nz:Nm z)(ly:Loc B.env.scope y)(lz:Loc B.env.scope z)(hk:Oke B.toYc (Nn B.N) ke fk)(hi:OkI B.toYc (Nn B.N) (.Name z p2) iter fi)(hfold:∀x,foldedSetIterable iter B.env x=pure x)(s1:starEach [ke,.Dict [] [] tp] B.env=(false,eval ke B.env)::starEach [.Dict [] [] tp] B.env)(l1:(apos.endLine==cpos.line)=true)(pl:Plain B.toYc cpos [ke,.Dict [] [] tp])(hb:PSs B ss g):PSs B (.Assign [.Name y p1] (.Call (.Attribute (.Name x px) "setdefault" apos) [ke,.Dict [] [] tp] [] cpos) pos::.For (.Name z p2) iter [.Assign [.Subscript (.Name y p3) (.Name z p4) pos2] (.Constant .none k0 p5) p6] [] q3::ss) fun τ=>
   ((fk (ygg (frzAt is τ))).bind fun x=>(fi (ygg ((frzAt is τ).set j .no))).bind fun qc=>(ddS (frzAt is τ)[i]?).bind fun p=>if yac p.1 x=true/\p.1.length<1000/\i≠j/\i≠c/\j≠c then
    (ybh qc ((yae p.1 p.2 x).getD ([],[]))).map fun q=>Out.nx ((((frzAt is τ).set i (.dd (yad p.1 x) (yap p.1 p.2 x q))).set j .no).set c .no)else none).bind fun o=>match o with
   |.nx τ'=>g τ'
   |o=>some o:=fun{pn ad τ F s o}hF q=>by
 obtain⟨o1,q,hg⟩:=obs q;obtain⟨k,e1,q⟩:=obs q;obtain⟨qc,e2,q⟩:=obs q;obtain⟨⟨ks,vs⟩,e3,q⟩:=obs q;replace q:(if yac ks k=true/\ks.length<1000/\i≠j/\i≠c/\j≠c then(ybh qc ((yae ks vs k).getD ([],[]))).map fun q=>Out.nx ((((frzAt is τ).set i (.dd (yad ks k) (yap ks vs k q))).set j .no).set c .no)else none)=some o1:=q;split at q
 .rename_i hc;obtain⟨hk1,hk2,hij,hic,hjc⟩:=hc;obtain⟨qq,e4,rfl⟩:=oms q;replace hg:g ((((frzAt is τ).set i (.dd (yad ks k) (yap ks vs k qq))).set j .no).set c .no)=some o:=hg;obtain⟨G,ad',le,h'⟩:=hF.frzAt is;cases ht:(frzAt is τ)[i]? with
  |none=>rw[ht]at e3;cases e3
  |some sl=>
   rw[ht]at e3;obtain⟨d,as,hd,lk,D0⟩:=h'.ownDd hx ht e3;obtain⟨od,o1,o2,o3⟩:=D0.D.at
   refine wpAny_execs_cons (wpAny_Assign_Name (wpAny_Call_method_late rfl pl.few l1 rfl (zdd h'.ok nx lk ?_)) rfl);refine⟨"dict",_,PySem.F.plainAttrs_dict,PySem.F.slot_dict_setdefault,PySem.F.type_dict_setdefault,⟨od,o1,o2⟩,fun b e=>by cases e;exact⟨od,o1,o3⟩,zhs pl ?_⟩;rw[show backTo cpos (starEach [ke,.Dict [] [] tp] B.env)=(false,eval ke B.env)::backTo cpos (starEach [.Dict [] [] tp] B.env) by rw[s1];rfl];refine Calls.spliced_cons (thn (hk h'.at e1) fun kv s3 z=>?_);obtain⟨G1,u1,r1⟩:=z;have h1:=h'.after u1;obtain⟨d',as',hd',lk1,D1⟩:=h1.ownDd hx ht e3;rw[hd]at hd';cases hd';refine Calls.spliced_cons (wpAny_Dict_empty (Calls.spliced_nil (ycp (mk:=.dd) (x0:=([],[])) (R:=fun h a(p:List T×List T)=>OwnD B.w G1 h a p.1 (Reps B.w G1 p.2)) DdAt.ok (fun q k=>OwnD.to q k (fun _ _ e=>e) fun _ e=>e) (fun e=>⟨_,#[],0,e,h1.toSt.big,⟨⟨rfl,rfl,rfl⟩,rfl,rfl,.nil,zyg _⟩,rfl,rfl⟩) rfl hu h1 hx ht hk1 hk2 r1 hd lk1 D1 fun ad2 s4 m a vs1 h2 lk2 ha hv1 hset=>?_)));obtain⟨as1,had,has,D2⟩:=ha;have yx:x≠y:=fun w=>hij ((List.getElem?_inj (ome hx).1 h2.nd).mp (by rw[hx,hy,w]));have hsl:((frzAt is τ).set i (.dd (yad ks k) vs1))[i]?=some (.dd (yad ks k) vs1):=ua4 (ome ht).1;refine h2.store (d:=[]) (sl:=.no) (u:=.ref a) hy ly (fun _ w=>nomatch w) (fun _ _=>trivial) fun s5 ly5 oth5 h5=>?_;have had5:(if i=j then[]else ad2 i)=d::as1:=by rw[if_neg hij];exact had
   have hi5:(((frzAt is τ).set i (.dd (yad ks k) vs1)).set j .no)[i]?=some (.dd (yad ks k) vs1):=by rw[zyw (Ne.symm hij)];exact hsl
   have ev:ygg (((frzAt is τ).set i (.dd (yad ks k) vs1)).set j .no)=ygg ((frzAt is τ).set j .no):=by rw[List.set_comm _ _ hij];exact zhx (by rw[zyw (Ne.symm hij)];exact ht) (zs8 e3) rfl
   refine wpAny_execs_cons (wpAny_For (thn (hi h5.at (by rw[ev];exact e2)) fun v s6 z=>thn z fun itv s7 z=>?_) hfold);obtain⟨it,fp,tn,G2,rfl,u2,fr,W,t0⟩:=z;have h7:=h5.after u2;refine zm4 hm hu hx hy hz ny nz lz hic hjc W h7 (fun _ _ e=>e) hi5 hv1 had5 has (ly5.up u2) t0 (fun b hb=>⟨(fr b hb).2,h5.off (fr b hb).1⟩) e4 fun ad8 F8 s8 le8 h8=>?_;have eτ:((((frzAt is τ).set i (.dd (yad ks k) vs1)).set j .no).set i (.dd (yad ks k) (vs1.set m qq))).set c .no=(((frzAt is τ).set i (.dd (yad ks k) (yap ks vs k qq))).set j .no).set c .no:=by rw[hset,List.set_comm _ _ (Ne.symm hij),List.set_set]
   rw[eτ]at h8;exact thn (hb h8 hg) fun fl s9 w=>w.le (((le.trans u1.ff).trans u2.ff).trans le8)
 .cases q
end Nb
section
namespace Nb
open PySem Spec PyProof.Rows Ev
variable {e:Expr}
variable {c:Tc}{er xn:List Str}
def yfk(R:Rd)(c:Tc)(er:List Str)(x:Str)(p:Pos)(elt tg it:Expr)(ifs:List Expr)(scope:Scope)(pos spos:Pos):a7 (SE c er (.Assign [.Name x p] (.ListComp elt [⟨tg,it,ifs,0⟩] scope pos) spos)) :=
 match htg:zcb tg with
 |none=>none
 |some xs=>
  if h:(zc7 c.sc scope xs&&(!ybb tg||decide (2<=xs.length))&&decide (xs≠[])&&yb0 c.sc x)=true then
   match h5:yaf c.nm x with
   |none=>none
   |some j=>(rI R c tg it).bind fun i=>(rF R ⟨scope,xs++c.nm⟩ ifs).bind fun t=>(R.v ⟨scope,xs++c.nm⟩ elt).bind fun y=>some ⟨.asg j (.comp y.x xs.length i.k i.xs t.x),fun{B G}g=>by
    simp only[Bool.and_eq_true,decide_eq_true_eq]at h;obtain⟨⟨⟨h1,h2⟩,h3⟩,h4⟩:=h;have S:=zqq h1;have g':∀L,Gd (ya1 B.toYc scope L) ⟨scope,xs++c.nm⟩ G:=fun L=>g.gd.blk S;have h2':ybb tg=true->2<=xs.length:=fun z=>by rw[z]at h2;simpa using h2
    have w:(fun τ=>(yb4 xs.length (fun r=>(yal G i.xs r).bind (items i.k)) (evO G t.x) (evE G y.x) (ygg (frzAt (yab (.comp y.x xs.length i.k i.xs t.x)) τ))).bind fun u=>some (Out.nx ((frzAt (yab (.comp y.x xs.length i.k i.xs t.x)) τ).set j (.val u))))=evS G (.asg j (.comp y.x xs.length i.k i.xs t.x)):=by funext τ;rw[znf];rfl
    refine @PS.eq B _ _ _ ?_ w;exact zrq (out:=c.sc) (nm:=c.nm) (yab (.comp y.x xs.length i.k i.xs t.x)) g.gd.cm S g.gd.sc htg h2' h3 (i.ok g.gd) (i.fold B.env) (fun L=>t.ok (g' L)) (fun L=>y.ok (g' L)) (fun x i n=>by show B.N[i]?=some x;rw[<-g.nm];exact zbj n.2.2) (g.hx h5) (g.hl h4)⟩
  else none
theorem zrs{B:Bd}{tg:Expr}{pos:Pos}{h:Ev.Env->a7 T}{is:List Nat}(he:Oke B.toYc (Nn B.N) e h)(vs:List Nat)(hg:PG B tg is)(h2:2<=is.length)(hs:swapsWith e (some tg) pos.line B.env=pure false)(hw:swappedStores [tg] e B.env=pure none)(ht:(assignEach [tg] B.env).map (·.2)=[assign tg B.env]):PS B (.Assign [tg] e pos) fun τ=>(h (ygg (frzAt vs τ))).bind fun t=>(match t with
   |.tup xs=>(yat is xs (frzAt vs τ)).map .nx
   |_=>none):=fun hF q=>by
 obtain⟨t,q1,q⟩:=obs q;cases t with
 |tup xs=>
  obtain⟨τ',q2,rfl⟩:=oms q;refine wpAny_Assign_stores (thn (zm0 hF he vs q1) fun u s' ⟨_,G,le,h',r⟩=>?_) hs hw;rw[ht];refine thn (no (hg h' r (by
   rcases is with _|⟨_,_|_⟩
   .cases h2
   .exact absurd h2 (by show ¬2<=1;decide)
   .exact q2))) fun _ s2 ⟨ad,z⟩=>⟨ad,_,le,z⟩
 |_=>cases q
def ydw:Expr->Bool
 |.Tuple ..=>true
 |_=>false
theorem znv{es:List Expr}{kt:Nat}{p:Pos}{env:PySem.Env}(h:ydw e=false):swappedStores [.Tuple es kt p] e env=pure none:=by cases e<;>first|rfl|cases h
def sTup(R:Rd)(c:Tc)(er:List Str)(es:List Expr)(kt:Nat)(p:Pos)(e:Expr)(pos:Pos):a7 (SE c er (.Assign [.Tuple es kt p] e pos)) :=
 match htg:zcb (.Tuple es kt p)with
 |none=>none
 |some xs=>
  if h:(!zed e&&!ydw e&&decide (2<=xs.length))=true then
   (ixs c er xs).bind fun is=>(R.v c e).bind fun y=>some ⟨.asgs is.1 y.x,fun{B G}g=>by simp only[Bool.and_eq_true,Bool.not_eq_true',decide_eq_true_eq]at h;have l:=(is.2 g).1;refine @PS.eq B _ _ (evS G (.asgs is.1 y.x)) (zrs (g.oe (y.ok g.gd)) (yab y.x) (zru g.gd.cm htg (is.2 g) fun _=>h.2) (by lia) (zfn y.pl h.1.1 _ _ B.env) (znv h.1.2) rfl) ?_;funext τ;show _=(evE G y.x (ygg (frzAt (yab y.x) τ))).bind fun t=>_;congr 1⟩
  else none
def rAsg(R:Rd)(c:Tc)(er xn:List Str)(x:Str)(p:Pos):(e:Expr)->(pos:Pos)->a7 (SE c er (.Assign [.Name x p] e pos))
 |.List es p2,pos=>sLst R c er x p es p2 pos
 |.Dict ks vs p2,pos=>ygf R c er x p ks vs p2 pos
 |.BinOp a .Add b p2,pos=>sAdd R c er x p a b p2 pos
 |.Call (.Name f p1) [.Lambda ⟨[],[],none,[],[],none,[]⟩ lb ls p3] [] p2,pos=>yfv R c er x p f p1 lb ls p3 p2 pos
 |.Call (.Name f p1) [a] [] p2,pos=>if h:f="list" then h▸sNw R c er x p p1 a p2 pos else if xn.contains f then ye1 R c er x p f p1 a [] p2 pos else yge R c er x p _ pos
 |.Call (.Name f p1) (e::es) [] p2,pos=>if xn.contains f then ye1 R c er x p f p1 e es p2 pos else yge R c er x p _ pos
 |.Call (.Attribute (.Name y py) m apos) [] [] cpos,pos=>yf4 c er x p y py m apos cpos pos
 |.ListComp elt [⟨tg,it,ifs,0⟩] scope p2,pos=>yfk R c er x p elt tg it ifs scope p2 pos
 |e,pos=>yge R c er x p e pos
def rExp(R:Rd)(c:Tc)(er xn:List Str):(e:Expr)->(p:Pos)->a7 (SE c er (.Expr e p))
 |.Call (.Name f p) (e::es) [] pos,p2=>if xn.contains f then yfd R c er f p e es pos p2 else sExp R c er _ p2
 |.Call (.Attribute (.Name x px) m apos) [a] [] cpos,p=>sApp R c er x px m apos a cpos p
 |.Call (.Attribute (.Name x px) m apos) [] [] cpos,p=>sPop c er x px m apos cpos p
 |.Call (.Attribute (.Call (.Attribute (.Name x px) m apos) [k,.List [] tp] [] cpos) m2 a2) [v] [] c2,p=>yfq R c er x px m apos k tp cpos m2 a2 v c2 p
 |e,p=>sExp R c er e p
def rRet(R:Rd)(c:Tc)(er xn:List Str):(e:Expr)->(p:Pos)->a7 (SE c er (.Return (some e) p))
 |.Call (.Name f p) (e::es) [] pos,p2=>if xn.contains f then yf5 R c er f p e es pos p2 else sRet R c er _ p2
 |e,p=>sRet R c er e p
def rS(R:Rd)(c:Tc)(er xn:List Str)(Q:∀ss,a7 (SSE c er ss)):(st:Stmt)->a7 (SE c er st)
 |.Return (some e) p=>rRet R c er xn e p
 |.Expr e p=>rExp R c er xn e p
 |.Assign [.Name x p] e pos=>rAsg R c er xn x p e pos
 |.Assign [.Tuple es kt p] e pos=>sTup R c er es kt p e pos
 |.Assign [.Subscript (.Name x px) k tp] v pos=>sPut R c er x px k tp v pos
 |.Raise (some (.Call (.Name x p) (e::es) [] pos)) none p2=>yfe R c er x p e es pos p2
 |.If t a b p=>sIf R Q t a b p
 |.While t a [] p=>yem R Q t a p
 |.For tg it body [] p=>sFor R c Q tg it body p
 |_=>none
theorem yex{Y:Yc}{pos tp:Pos}(h:plE e=true):Plain Y pos [e,.Dict [] [] tp]:=by have s:=zal h [.Dict [] [] tp] Y.env;exact⟨by rw[s];rfl,by rw[s];rfl,.inr ⟨_,_,by rw[s];rfl⟩⟩
theorem PSs.eq{B:Bd}{ss:List Stmt}{f g:List Sl->a7 Out}(h:PSs B ss f)(e:f=g):PSs B ss g:=by subst e;exact @h
def yet:Stmt->Bool
 |.Assign [.Name _ _] (.Call (.Attribute (.Name _ _) _ _) [_,.Dict [] [] _] [] _) _=>true
 |_=>false
def yf2(R:Rd)(c:Tc)(er:List Str):(s1 s2:Stmt)->(ss:List Stmt)->SSE c er ss->a7 (SSE c er (s1::s2::ss))
 |.Assign [.Name y p1] (.Call (.Attribute (.Name x px) m apos) [ke,.Dict [] [] tp] [] cpos) pos,.For (.Name z p2) it [.Assign [.Subscript (.Name y2 p3) (.Name z2 p4) p7] (.Constant .none k0 p5) p6] [] q3,ss,rest=>
  if hm:m="setdefault"/\y2=y/\z2=z then
  if h:(zai x&&(apos.endLine==cpos.line&&(yb0 c.sc y&&yb0 c.sc z)))=true then
   match h2:yaf c.nm x,h3:yaf c.nm y,h4:yaf c.nm z with
   |some i,some j,some l=>(R.v c ke).bind fun k=>(R.v c it).bind fun s=>some ⟨.dfill j i k.x l s.x::rest.xs,fun{B G}g=>by
     obtain⟨rfl,rfl,rfl⟩:=hm;simp only[Bool.and_eq_true]at h;obtain⟨h5,h6,h7,h8⟩:=h;have w:(fun τ=>((evE G k.x (ygg (frzAt (yab k.x++yab s.x) τ))).bind fun x=>((fun r=>(evE G s.x r).bind fun t=>items .plain [t]) (ygg ((frzAt (yab k.x++yab s.x) τ).set j .no))).bind fun qc=>(ddS (frzAt (yab k.x++yab s.x) τ)[i]?).bind fun p=>if yac p.1 x=true/\p.1.length<1000/\i≠j/\i≠l/\j≠l then
       (ybh qc ((yae p.1 p.2 x).getD ([],[]))).map fun q=>Out.nx ((((frzAt (yab k.x++yab s.x) τ).set i (.dd (yad p.1 x) (yap p.1 p.2 x q))).set j .no).set l .no)else none).bind fun o=>match o with
       |.nx τ'=>yav G rest.xs τ'
       |o=>some o)=yav G (.dfill j i k.x l s.x::rest.xs):=by
      funext τ;show _=(evS G (.dfill j i k.x l s.x) τ).bind fun o=>match o with
       |.nx τ'=>yav G rest.xs τ'
       |o=>some o
      congr 1;show _=(evE G k.x (ygg (frzAt (yab k.x++yab s.x) τ))).bind fun x=>(evE G s.x (ygg ((frzAt (yab k.x++yab s.x) τ).set j .no))).bind fun t=>(items .plain [t]).bind fun qc=>_;congr 1;funext x;dsimp only;cases evE G s.x (ygg ((frzAt (yab k.x++yab s.x) τ).set j .no))<;>rfl
     refine @PSs.eq B _ _ _ ?_ w;exact zn8 (c:=l) g.fm g.gd.rm (yab k.x++yab s.x) (g.hx h2) (g.hx h3) (g.hx h4) (zfq h5) (zfq (zfr h7).1) (zfq (zfr h8).1) (g.hl h7) (g.hl h8) (g.oe (k.ok g.gd)) (g.oi (zlh g.gd.cm (s.ok g.gd))) (zk7 s.pl B.env) (zal k.pl _ B.env) h6 (yex k.pl) (rest.ok g)⟩
   |_,_,_=>none
  else none else none
 |_,_,_,_=>none
def rSs(R:Rd)(P:∀st,a7 (SE c er st)):(ss:List Stmt)->a7 (SSE c er ss)
 |[]=>some ⟨[],fun _=>zd2⟩
 |[s]=>(P s).bind fun x=>some ⟨[x.x],fun{B G}g=>zbq (x.ok g) zd2⟩
 |s1::s2::ss=>if yet s1 then(rSs R P ss).bind fun r=>yf2 R c er s1 s2 ss r else(P s1).bind fun x=>(rSs R P (s2::ss)).bind fun xs=>some ⟨x.x::xs.xs,fun{B G}g=>zbq (x.ok g) (xs.ok g)⟩
def rdS(R:Rd)(c:Tc)(er xn:List Str):Nat->(st:Stmt)->a7 (SE c er st)
 |0,_=>none
 |n+1,st=>rS R c er xn (rSs R (rdS R c er xn n)) st
def rdB(c:Tc)(er xn:List Str)(ss:List Stmt):a7 (SSE c er ss):=rSs (rd 40) (rdS (rd 40) c er xn 12) ss
end Nb
section
namespace Nb
open PySem Spec PyProof.Rows Ev
variable {pr:Pr}
structure FnHead(P:Pc)(er:List Str)(f:Str)(D:Fd):Prop where
 ok:∃a name qual params body scope dV kV doc pm cdv ct oc an od osl N ps,P.K.lookup a=some ⟨oc,od,.func (W.fnOf name qual params body scope dV kV doc pm an cdv ct),osl⟩/\W.codeIn P.K cdv qual=true/\FnScope N ps scope/\D.ns=N.length/\D.np=ps.length/\P.mg f=some (.ref a)/\W.keepIn P.K (.ref a)=true /\
  (∀us:List Value,us.length=ps.length->bindArgs (W.fnOf name qual params body scope dV kV doc pm an cdv ct) ⟨us,[]⟩=pure (ps.zip us))/\∃S:SSE ⟨scope,N⟩ er body,S.xs=D.body
theorem zt8{n:Nat}{f:Str}{D:Fd}(h:pr.fn f=some D):run pr (n+1) f=fun ts=>if ts.length=D.np then zbb (yav (glo pr n) D.body (yaj D ts))else none:=by funext ts;show((pr.fn f).bind fun D=>if ts.length=D.np then zbb (yav ⟨run pr n,ybn pr n⟩ D.body (yaj D ts))else none)=_;rw[h];rfl
theorem zrb{n:Nat}{f:Str}{D:Fd}(h:pr.fn f=some D):ybn pr (n+1) f=fun ts=>if ts.length=D.np then yce (yav (glo pr n) D.body (yaj D ts))else none:=by funext ts;show((pr.fn f).bind fun D=>if ts.length=D.np then yce (yav ⟨run pr n,ybn pr n⟩ D.body (yaj D ts))else none)=_;rw[h];rfl
theorem zv4{P:Pc}{er:List Str}(H:∀f D,pr.fn f=some D->FnHead P er f D)(hca:P.calm)(hb:∀x∈bnames,P.mg x=none)(hc:∀x∈er,Cls P x 0)(her:er.contains yar=false):∀(n:Nat)(f:Str)(ts:List T),((run pr n f ts).isSome=true\/(ybn pr n f ts).isSome=true) ->∃a fd ps,Fn P (n+3) a fd ps (run pr n f) (ybn pr n f)/\P.mg f=some (.ref a)/\W.keepIn P.K (.ref a)=true/\(∀us:List Value,us.length=ps.length->bindArgs fd ⟨us,[]⟩=pure (ps.zip us))/\(∀{ts t},run pr n f ts=some t->ts.length=ps.length)/\∀{ts t},ybn pr n f ts=some t->ts.length=ps.length:=by
 intro n
 induction n with
 |zero=>intro f ts h;rcases h with h|h<;>cases h
 |succ n ih=>
  intro f ts h;obtain⟨D,hD⟩:∃D,pr.fn f=some D:=by
   cases e:pr.fn f with
   |some D=>exact⟨D,rfl⟩
   |none=>
    have h1:run pr (n+1) f ts=none:=by show((pr.fn f).bind fun D=>if ts.length=D.np then zbb (yav ⟨run pr n,ybn pr n⟩ D.body (yaj D ts))else none)=none;rw[e];rfl
    have h2:ybn pr (n+1) f ts=none:=by show((pr.fn f).bind fun D=>if ts.length=D.np then yce (yav ⟨run pr n,ybn pr n⟩ D.body (yaj D ts))else none)=none;rw[e];rfl
    rw[h1,h2]at h;rcases h with h|h<;>cases h
  obtain⟨a,name,qual,params,body,scope,dV,kV,doc,pm,cdv,ct,oc,an,od,osl,N,ps,lk,hcd,S,hn,hp,hm,hk,hbi,R,hR⟩:=(H f D hD).ok;rw[zt8 hD,zrb hD];refine⟨a,_,ps,zxo hca lk hcd S hn hp fun{A l F s}hr=>?_,hm,hk,hbi,fun{ts t}q=>?_,fun{ts t}q=>?_⟩
  .rw[<-hR];have gd:Gd (ydk P N qual scope a cdv A l F s).toYc ⟨scope,N⟩ (glo pr n):=⟨⟨fun x h=>(show scope.names.lookup x=some .globalImplicit by simpa[glB]using h),fun x h=>h⟩,by have:=hr.un;show(A.deeper (envOfC qual scope s.heap.objs.size a cdv)).units+100<cLine;lia,hca,hb,fun f ts h=>by obtain⟨a',fd,ps',h1,h2⟩:=ih f ts h;exact⟨n+3,a',fd,ps',h1,hr,h2⟩⟩;have sd:Sd (ydk P N qual scope a cdv A l F s) ⟨scope,N⟩ (glo pr n) er:=⟨gd,rfl,rfl,⟨⟨l,rfl⟩,rfl⟩,fun x hx _=>⟨0,hc x hx,hr.mono (by lia)⟩,fun h=>by rw[her]at h;cases h⟩;exact @SSE.ok _ _ _ R _ _ sd
  .dsimp only at q;split at q
   .rw[<-hp];assumption
   .cases q
  .dsimp only at q;split at q
   .rw[<-hp];assumption
   .cases q
end Nb
section
namespace Nb
open PySem Spec PyProof.Rows Ev L2
variable {P:Pc}{Y:Yc}{B:Bd}{c:Tc}{Gl0:Glo}{cs:List Addr}{a C D f ta DE p cc cd:Addr}{n:Int}{k:Nat}{F G G2:Fz}{s s' s1 s2:Shared}{l:List PySem.Env}{x g:Str}{A:Around}{t tt:T}{ts:List T}{u:Value}{o:Out}{pn:List (Addr×a7 Obj)}{ad:Nat->List Addr}{τ:List Sl}{ls:Scope}{e:Expr}{es:List Expr}{pos p1 p2:Pos}{Q E:Value->Shared->Prop}{cl:List (Str×Addr)}{N:Str->Nat->Prop}{ρ:Ev.Env}{xs:List Ev.E}
theorem yfu{k:Nat}{f:Addr}{fd:FuncData}{ps:List Str}{sp:List T->a7 T}{ex:List T->a7 (Str×Int)}{gg:Ev.Env->a7 (List T)}(L:Addr)(A:At Y N ρ F s)(hF:Fn Y.toPc k f fd ps sp ex)(hr:Room k Y.A)(hg:Gl Y x)(hm:Y.mg x=some (.ref f))(hk:W.keepIn Y.K (.ref f)=true)(hb:∀us:List Value,us.length=ps.length->bindArgs fd ⟨us,[]⟩=pure (ps.zip us))(hl1:∀{ts t},sp ts=some t->ts.length=ps.length)(hl2:∀{ts t},ex ts=some t->ts.length=ps.length)(ha:Oks Y N (e::es) gg)(hd:(x==("__debug__":Str))=false)(he:starEach (e::es) Y.env=(false,eval e Y.env)::starEach es Y.env)(hpl:(backTo pos (starEach es Y.env)).any (·.1)=false)(q:gg ρ=some ts)(ho:ycg sp ex .rt ts=some o)(h1:∀t u s',o=.rt t->Res Y.w F s t u s'->Q u s')(h2:∀x n v s',o=.rs x n->Err false Y.toPc L (frs Y.stack) s x n v s'->E v s'):wpAny Y.M Y.A (eval (.Call (.Name x p1) (e::es) [] pos) Y.env) Q E s:=by
 refine wpAny_Call_Name_kw (zde A hg hm ?_ hd);refine W.callWith_K (h₀:=Y.base) A.mod.kin hk (thn (ha pos A q) fun us s1 z=>?_) he hpl;obtain⟨G1,u1,rs⟩:=z;have A1:=A.up u1;refine⟨A.mod.kin.keeps A1.bk,wpAny_call ?_⟩;unfold ycg at ho;split at ho
 .rename_i t e1;cases ho;refine codeAny_mono (hF.run hr A1.toSt (.of_eq (hb us (by rw[rs.length];exact hl1 e1))) rs e1) fun r s2 z=>?_;obtain⟨v,rfl,z⟩:=z;exact h1 t v s2 rfl (Res.mk u1 z)
 .obtain⟨w,e2,rfl⟩:=oms ho;refine codeAny_mono (hF.err (x:=w.1) (n:=w.2) L hr A1.toSt (.of_eq (hb us (by rw[rs.length];exact hl2 e2))) rs e2) fun r s2 z=>?_;obtain⟨v,rfl,z⟩:=z;exact h2 _ _ v s2 rfl (z.from u1.toE)
structure LsOk(c:Tc)(ls:Scope):Prop where
 kind:ls.kind=.function
 co:ls.isCoroutine=false
 gen:ls.isGenerator=false
 nm:∀y∈ls.names,(y.2=.free/\c.sc.names.lookup y.1=some .cell/\ls.names.lookup y.1=some .free/\y.1∈c.nm)\/y.2=.globalImplicit
def yfo(P:Pc)(ls:Scope)(A:Around)(l:List PySem.Env)(L f:Addr)(cdv:Value)(cl:List (Str×Addr)):Yc:=⟨P,A.deeper (W.envX ycb ls L f cdv cl),W.envX ycb ls L f cdv cl,W.envX ycb ls L f cdv cl::l,fun _=>True⟩
theorem LsOk.free(h:LsOk c ls){x:Str}(e:ls.names.lookup x=some .free):c.sc.names.lookup x=some .cell/\x∈c.nm/\(x,NameKind.free)∈ls.names:=by
 have:=PySem.mem_of_lookup e;rcases h.nm _ this with⟨_,a,_,b⟩|a
 .exact⟨a,b,this⟩
 .cases a
theorem zvm{oc:Obj}{vs:Array Value}{tk:Tok}{pm ctv:Value}{ce:Addr->Bool}(g':Gd B.toYc c Gl0)(hc:c.nm=B.N)(hsc:B.env.scope=c.sc)(hk1:∀f ts,((Gl0.call f ts).isSome=true\/(Gl0.exc f ts).isSome=true)->∃a fd ps,Fn B.toPc k a fd ps (Gl0.call f) (Gl0.exc f)/\B.mg f=some (.ref a)/\W.keepIn B.K (.ref a)=true/\(∀us:List Value,us.length=ps.length->bindArgs fd ⟨us,[]⟩=pure (ps.zip us))/\(∀{ts t},Gl0.call f ts=some t->ts.length=ps.length)/\∀{ts t},Gl0.exc f ts=some t->ts.length=ps.length)(S:LsOk c ls)(hce:∀b,ce b=true↔∃x∈B.N,B.env.cells.lookup x=some b)(h:B.Fr pn ad τ F s)(hf:F f=some (yeq (.Call (.Name g p1) (e::es) [] p2) ls (zao B.env ls.names []) pm cd ctv))(hcd:F cd=some oc)(hd:oc.data=.fields vs)(hv:vs[1]?=some (.str ycb tk))(x:VE ⟨ls,c.nm⟩ e)(xs:LE ⟨ls,c.nm⟩ es)(hg:(zai g&&glB ls g)=true)(q:yal Gl0 (x.x::xs.xs) (ygg τ)=some ts)(ho:ycg (Gl0.call g) (Gl0.exc g) .rt ts=some o):ydj B.toPc (k+1) (fun b=>if ce b=true then s.heap.get? b else F b) f o:=by
 have cell:∀{b},ce b=true->F b=none:=fun hb=>let⟨x,hx,e⟩:=(hce _).mp hb;(h.cell x hx _ e).1
 have fc:∀{b o},F b=some o->(fun b=>if ce b=true then s.heap.get? b else F b) b=some o:=fun{b o}w=>by show(if ce b=true then _ else _)=_;rw[if_neg fun z=>by rw[cell z]at w;cases w];exact w
 refine⟨⟨_,_,_,_,_,_,_,_,_,fc hf⟩,fun{A l G s1}L hr hs le=>?_⟩;have lim:s1.heap.NoLimit:=hs.mod.nolimit.keeps hs.bk;have nf:∀x∈ls.names,x.2≠.cell:=fun x hx=>by rcases S.nm x hx with⟨z,_⟩|z<;>rw[z]<;>decide
 refine W.kla_callFunE (by have:=hr.dp;lia) (hs.fh _ _ (le _ _ (fc hf))) rfl S.co S.gen rfl ⟨cd,oc,vs,tk,rfl,hs.fh _ _ (le _ _ (fc hcd)),hd,hv⟩ ?_;rw[show bindArgs (W.kla_fn "<lambda>" ycb yd4 (.Call (.Name g p1) (e::es) [] p2) ls (zao B.env ls.names []) pm (.ref cd) ctv) ⟨[],[]⟩=pure []from rfl];refine wpAny_pure (wpAny_newFunctionEnv nf (fun x hx=>absurd hx (by simp)) (fun h' hns hsb=>?_) S.kind);have hk:∀b o,s1.heap.get? b=some o->h'.get? b=some o:=fun b o e=>hsb.extBut b o (zye (zx5 e)) (zxr _ e);refine⟨lim.keeps hk,?_⟩;show codeAny _ _ (.expr (.Call (.Name g p1) (e::es) [] p2) (W.envX ycb ls s1.heap.objs.size f (.ref cd) (zao B.env ls.names []))) _ _;refine W.kla_codeExpr ?_;have base0:B.base.get? s1.heap.objs.size=none:=by
  cases e:B.base.get? s1.heap.objs.size with
  |none=>rfl
  |some o=>have:=hs.bk _ _ e;rw[zac]at this;cases this
 generalize hcl:zao B.env ls.names []=cl at *;have cl1:∀y,ls.names.lookup y=some .free->∃c1,cl.lookup y=some c1/\B.env.cells.lookup y=some c1:=fun y hy=>by
  have kin:∀y:Str,c.sc.names.lookup y=some .cell->B.env.kindOf y=some .cell\/B.env.kindOf y=some .free:=fun y hy=>g'.sc.cap y (.inl hy);have h0:∀y∈ls.names,y.2=.free->∃a,B.env.cells.lookup y.1=some a:=fun y hy hf=>by
   rcases S.nm y hy with⟨_,a,_⟩|a
   .exact h.ok.has y.1 (kin _ a)
   .rw[a]at hf;cases hf
  obtain⟨c1,e1⟩:=Option.isSome_iff_exists.mp (zc8 (env:=B.env) (x:=y) ls.names [] (.inl (S.free hy).2.2));have e2:=zdw (env:=B.env) ls.names [] (fun _ _ z=>nomatch z) h0 y c1 e1;rw[hcl]at e1;exact⟨c1,e1,e2⟩
 have hk':Up G s1 G {s1 with heap:=h',toks:=s1.toks+([]:List (Str×Value)).length}:=Up.kept hs.fh hk;have A':At (yfo B.toPc ls A l s1.heap.objs.size f (.ref cd) cl) (Tc.N ⟨ls,c.nm⟩) (ygg τ) G {s1 with heap:=h',toks:=s1.toks+([]:List (Str×Value)).length}:=by
  refine⟨⟨hs.mod,hs.hd,Around.frames_deeper hs.frames,fun b o e=>hk _ _ (hs.bk b o e),hk'.fh,hs.bare,fun cm=>.cons (by show ls.kind≠_;rw[S.kind];decide) rfl hns base0 (zcl hk (hs.funs cm)),fun cm b hb=>(omc hb).elim (fun e=>by rw[e];exact hs.fh.none zac) (hs.fo cm b)⟩,⟨S.kind,rfl,rfl,fun y hy=>?_,fun _ z=>z⟩,trivial,fun x i t ⟨n1,n2,n3⟩ er=>?_⟩
  .rcases hy with hy|hy
   .exact absurd rfl (nf _ (PySem.mem_of_lookup hy))
   .obtain⟨c1,e1,_⟩:=cl1 y hy;exact⟨c1,e1⟩
  .have hfr:ls.names.lookup x=some .free:=by
    replace n2:yef ls x=true:=n2;unfold yef at n2;cases z:ls.names.lookup x with
    |none=>rw[z]at n2;cases n2
    |some kd=>
     rcases S.nm _ (PySem.mem_of_lookup z)with⟨a,_⟩|a
     .rw[show kd=.free from a]
     .rw[z,show kd=.globalImplicit from a]at n2;cases n2
   have iN:B.N[i]?=some x:=by rw[<-hc];exact zbj n3
   obtain⟨u,lk,r⟩:=h.at.get x i t iN er;obtain⟨c1,e1,e2⟩:=cl1 x hfr;refine⟨u,.inr ⟨.inr hfr,c1,e1,?_⟩,r.mono (fun b o w=>le b o (fc w))⟩;rcases lk with⟨k1,_⟩|⟨_,c2,e3,o',w1,w2⟩
   .rcases g'.sc.cap x (.inl (S.free hfr).1)with k2|k2<;>(rw[k1]at k2;cases k2)
   .rw[e2]at e3;cases e3;exact⟨o',hk _ _ (hs.fh _ _ (le _ _ (show(if ce c1=true then s.heap.get? c1 else F c1)=some o' by rw[if_pos ((hce c1).mpr ⟨x,zx4 iN,e2⟩)];exact w1))),w2⟩
 have hrd:=hr.deeper (W.envX ycb ls s1.heap.objs.size f (.ref cd) cl);have gd:Gd (yfo B.toPc ls A l s1.heap.objs.size f (.ref cd) cl) ⟨ls,c.nm⟩ Gl0:=⟨⟨fun x h=>(show ls.names.lookup x=some .globalImplicit by simpa[glB]using h),fun x h=>h⟩,by have:=hrd.un;show(A.deeper (W.envX ycb ls s1.heap.objs.size f (.ref cd) cl)).units+100<cLine;lia,g'.cm,g'.bn,fun f ts hx=>by obtain⟨a,fd,ps,w⟩:=hk1 f ts hx;exact⟨k,a,fd,ps,w.1,hrd,w.2⟩⟩;have hso:(Gl0.call g ts).isSome=true\/(Gl0.exc g ts).isSome=true:=by
  unfold ycg at ho;split at ho
  .rename_i e;exact .inl (by rw[e];rfl)
  .obtain⟨w,e,_⟩:=oms ho;exact .inr (by rw[e];rfl)
 obtain⟨a,fd,ps,hF,hm,hkk,hb,hl1,hl2⟩:=hk1 g ts hso;rw[zxw]at hg;refine yfu (Y:=yfo B.toPc ls A l s1.heap.objs.size f (.ref cd) cl) s1.heap.objs.size A' hF hrd (gd.sc.gl g hg.2) hm hkk hb hl1 hl2 (za5 (x.ok gd) (xs.ok gd) (zal x.pl es _)) (zbc hg.1).1 (zal x.pl es _) (xs.pl p2 _) q ho (fun t u s' eo z=>?_) fun x n v s' eo z=>?_
 .subst eo;exact⟨u,rfl,Res.mk hk' z⟩
 .subst eo;have fu:s'.heap.FunFrames B.base (W.envX ycb ls s1.heap.objs.size f (.ref cd) cl::l):=by obtain⟨_,_,_,_,_,_,_,u,_⟩:=z;exact zfx u (A'.funs g'.cm)
  exact zyt (zgs (E:=No) (L':=L) (s0:=s1) (Around.frames_deeper hs.frames) fu rfl zac (fun b hb=>hb) (fun b hb=>let⟨_,o,q,_⟩:=(hs.funs g'.cm).mem hb;⟨o,q⟩) (z.from hk'.toE)) (fun _ s2 q=>⟨v,rfl,q⟩) fun _ _ q=>q.elim
end Nb
section
namespace Nb
open PySem Spec PyProof.Rows Ev L2
variable {B:Bd}{c:Tc}{G:Glo}{cs:List Addr}{ta DE p cc:Addr}{k:Nat}{ls:Scope}
theorem zxe(h:lsB c ls=true):LsOk c ls:=by
 unfold lsB at h;simp only[Bool.and_eq_true,Bool.not_eq_true',beq_iff_eq]at h;obtain⟨⟨⟨h1,h2⟩,h3⟩,h4⟩:=h;refine⟨h1,h2,h3,fun y hy=>?_⟩;have:=oml h4 y hy;simp only[Bool.or_eq_true,Bool.and_eq_true,beq_iff_eq,List.contains_iff_mem]at this;rcases this with⟨⟨⟨a1,a2⟩,a3⟩,a4⟩|a
 .exact .inl ⟨a1,a2,a3,a4⟩
 .exact .inr a
theorem znw{g:Str}{ts:List T}{t:T}(h:ybf G g ts=some t):∃o,ycg (G.call g) (G.exc g) .rt ts=some o/\yd5 o=some t:=by
 unfold ybf at h;unfold ycg;cases e:G.call g ts with
 |some v=>rw[e]at h;cases h;exact⟨_,rfl,rfl⟩
 |none=>rw[e]at h;obtain⟨x,hx,h⟩:=obs h;exact⟨.rs x.1 x.2,by dsimp only;rw[hx];rfl,h⟩
theorem zt2(L:LwB B cc p)(T:ToldT B.toPc ta cs DE)(mt:B.mg yar=some (.ref ta))(kp:W.keepIn B.K (.ref ta)=true)(gd:Gd B.toYc c G)(hc:c.nm=B.N)(hsc:B.env.scope=c.sc)(hr:Room (k+2) B.A)(hk1:∀f ts,((G.call f ts).isSome=true\/(G.exc f ts).isSome=true)->∃a fd ps,Fn B.toPc k a fd ps (G.call f) (G.exc f)/\B.mg f=some (.ref a)/\W.keepIn B.K (.ref a)=true/\(∀us:List Value,us.length=ps.length->bindArgs fd ⟨us,[]⟩=pure (ps.zip us))/\(∀{ts t},G.call f ts=some t->ts.length=ps.length)/\∀{ts t},G.exc f ts=some t->ts.length=ps.length):TdP B c G:=by
 intro y g py p4 p1 p2 p3 p5 p6 e es ls x xs i h1 h2 h3 hy hl is pn ad τ F s o hF q;have S:=zxe h1;obtain⟨ts,q1,q⟩:=obs q;obtain⟨t,q2,q⟩:=obs q;cases q;obtain⟨o,ho,hT⟩:=znw q2;obtain⟨G0,ad',le,h'⟩:=hF.frzAt is;have A:=h'.at
 have kin:∀y:Str,c.sc.names.lookup y=some .cell->B.env.kindOf y=some .cell\/B.env.kindOf y=some .free:=fun y hy=>gd.sc.cap y (.inl hy);have h0:∀y∈ls.names,y.2=.free->∃a,B.env.cells.lookup y.1=some a:=fun y hy hf=>by
  rcases S.nm y hy with⟨_,a,_⟩|a
  .exact h'.ok.has y.1 (kin _ a)
  .rw[a]at hf;cases hf
 refine wpAny_Assign_Name (wpAny_Call_Name_kw (zde A (gd.sc.gl _ h2) mt ?_ (by decide))) rfl;refine W.callWith_K (h₀:=B.base) A.mod.kin kp ?_ rfl rfl;rw[show starEach [.Lambda yd4 (.Call (.Name g p1) (e::es) [] p2) ls p3] B.env=(false,eval (.Lambda yd4 (.Call (.Name g p1) (e::es) [] p2) ls p3) B.env)::[]from rfl];refine Calls.spliced_cons (zon L h' (zb8 h0) fun f cd pm ctv oc vs tk G1 s1 le1 h1 e1 e2 e3 e4=>Calls.spliced_nil ?_);have st:=h1.toSt
 let ce:Addr->Bool:=fun b=>B.N.any fun x=>B.env.cells.lookup x==some b
 have hce:∀b,ce b=true↔∃x∈B.N,B.env.cells.lookup x=some b:=fun b=>by simp[ce]
 have cell:∀{b},ce b=true->G1 b=none/\∃v,s1.heap.IsCell b v:=fun hb=>let⟨x,hx,e⟩:=(hce _).mp hb;h1.cell x hx _ e
 refine⟨st.mod.kin.keeps st.bk,wpAny_call ?_⟩;have hFc:Fz.In (fun b=>if ce b=true then s1.heap.get? b else G1 b) s1.heap:=fun b o w=>by
  replace w:(if ce b=true then s1.heap.get? b else G1 b)=some o:=w;split at w
  .exact w
  .exact st.fh b o w
 have fo:∀b∈frs B.stack,(fun b=>if ce b=true then s1.heap.get? b else G1 b) b=none:=fun b hb=>by
  have hb':b=B.env.locals:=by rw[L.stk]at hb;unfold frs at hb;rw[zyv,L.fm.fr]at hb;simpa using hb
  show(if ce b=true then s1.heap.get? b else G1 b)=none;rw[if_neg fun z=>let⟨x,hx,e⟩:=(hce _).mp z;h1.cne hx e hb',hb'];exact h1.ns.1
 have st':St B.toPc B.A B.stack (fun b=>if ce b=true then s1.heap.get? b else G1 b) s1:=⟨st.mod,st.hd,st.frames,st.bk,hFc,st.bare,st.funs,fun _=>fo⟩;have hL:=zvm (o:=o) gd hc hsc hk1 S hce h1 e1 e2 e3 e4 x xs h3 q1 ho;refine codeAny_mono (zkg gd.cm T hr st' hL hT) fun r s2 z=>?_;obtain⟨u,G2,rfl,uf,r⟩:=z;obtain⟨le3,h3,rm⟩:=h1.afterF L.stk L.fm.fr hce uf;exact h3.store (d:=[]) (sl:=.val t) hy hl (fun _ w=>nomatch w) (fun _ lk=>⟨u,lk,rm r⟩) fun s3 _ _ h4=>⟨_,_,(le.trans le1).trans le3,h4⟩
end Nb
section
namespace Nb
open PySem Spec PyProof.Rows Ev L2
variable {P:Pc}{k n:Nat}{f p cc ta DE:Addr}{cs:List Addr}{name qual:Str}{params:Arguments}{body:List Stmt}{scope:Scope}{dV kV doc pm cdv ct oc:Value}{an od:a7 Addr}{osl:Array (a7 Value)}{N ps:List Str}{D:Fd}{pr:Pr}{er:List Str}{A:Around}{F:Fz}{s s1:Shared}{args:Args}{us:List Value}{ts:List T}{τ:List Sl}
abbrev lwB(P:Pc)(N:List Str)(qual:Str)(scope:Scope)(f:Addr)(cd:Value)(A:Around)(F:Fz)(s:Shared)(p:Addr):Bd:={ydk P N qual scope f cd A [] F s with tbp:=[(p,none)],s0:={s with heap:=W.hideAll s.heap [p]} }
theorem zxc(I:(ydk P N qual scope f cdv A [] F s).Fr [] (fun _=>[]) τ F s1)(h:St P A [] F s)(hp:s.heap.get? p=some (W.tabObj #[]))(hF:F p=none)(hb:P.base.get? p=none):(lwB P N qual scope f cdv A F s p).Fr [] (fun _=>[]) τ F s1:=by
 have hid:∀{b},s.heap.get? b=none->(W.hideAll s.heap [p]).get? b=none:=fun{b}w=>by
  cases q:(W.hideAll s.heap [p]).get? b with
  |none=>rfl
  |some o=>rw[W.of_hideAll _ q]at w;cases w
 have np:∀{b},s.heap.get? b=none->b≠p:=fun w z=>by rw[z,hp]at w;cases w
 have lab:s.heap.get? s.heap.objs.size=none:=I.lab;refine⟨⟨I.ok,trivial,fun{G s2}u ns=>⟨h.mod,h.hd,Around.frames_deeper h.frames,fun b o e=>u.ext b o (W.hideAll_get _ (h.bk b o e) fun z=>by replace e:P.base.get? b=some o:=e;rw[omg z,hb]at e;cases e),u.fh,u.bare h.bare,fun _=>?_,fun _ b hb=>?_⟩,hid lab,fun x hx c e=>hid (I.cab x hx c e),I.cin,I.nd⟩,⟨fun b o e=>I.up.ext b o (W.of_hideAll _ e),I.up.os,I.up.bare,I.up.ff,I.up.fh,fun b z=>.inl z⟩,I.len,I.ns,I.cell,fun _ _ w=>(nomatch w),fun q hq=>?_,fun _ _ _ w=>(nomatch w),I.slot⟩
 .obtain⟨_,m,n⟩:=ns;refine .cons (by show scope.kind≠_;rw[show scope.kind=.function from I.ok.kind];decide) rfl n ?_ trivial;cases e:P.base.get? s.heap.objs.size with
  |none=>exact e
  |some o=>have:=h.bk _ _ e;rw[zac]at this;cases this
 .rw[omg hb];exact ns.1
 .cases omg hq;refine⟨⟨W.hideAll_none _ (.head _),hF,fun z=>np lab z.symm,fun x hx c e=>np (I.cab x hx c e)⟩,⟨⟨#[],I.up.ext _ _ hp,trivial,fun pos cv e=>(nomatch e)⟩,fun q hq e=>?_⟩,fun i w=>nomatch w⟩;cases omg hq;rfl
theorem zvj(hca:P.calm)(lk:P.K.lookup f=some ⟨oc,od,.func (W.fnOf name qual params body scope dV kV doc pm an (.ref cc) ct),osl⟩)(hcd:W.codeIn P.K (.ref cc) qual=true)(S:FnScope N ps scope)(hn:D.ns=N.length)(hp:D.np=ps.length)(hq:qual="law")(hd:∀h,P.K.In h->W.CodeHd h cc p)(bm:∀h,P.K.In h->h.BuiltinsAt P.mg p)(T:ToldT P ta cs DE)(mt:P.mg yar=some (.ref ta))(kp:W.keepIn P.K (.ref ta)=true)(hb:∀x∈bnames,P.mg x=none)(SS:SSE ⟨scope,N⟩ [yar] body)(hS:SS.xs=D.body)(fns:∀f ts,((run pr n f ts).isSome=true\/(ybn pr n f ts).isSome=true)->∃a fd ps,Fn P (n+3) a fd ps (run pr n f) (ybn pr n f)/\P.mg f=some (.ref a)/\W.keepIn P.K (.ref a)=true/\(∀us:List Value,us.length=ps.length->bindArgs fd ⟨us,[]⟩=pure (ps.zip us))/\(∀{ts t},run pr n f ts=some t->ts.length=ps.length)/\∀{ts t},ybn pr n f ts=some t->ts.length=ps.length)(hr:Room (n+6) A)(h:St P A [] F s)(hbi:BindsTo s (W.fnOf name qual params body scope dV kV doc pm an (.ref cc) ct) args (ps.zip us))(r:Reps P.w F ts us)(hl:ts.length=ps.length)(hp0:s.heap.get? p=some (W.tabObj #[]))(hF:F p=none)(hbp:P.base.get? p=none)(ev:yav (glo pr n) D.body (yaj D ts)=some (.rt (.bl true))):codeAny P.M A (.call (.ref f) args) (fun r s'=>r=.ok (.ret (.bool true))/\∃G G2,Up F {s with heap:=W.hideAll s.heap [p]} G s'/\ycx G2 s'.heap p) s:=by
 have KX:P.K.In s.heap:=h.mod.kin.keeps h.bk;have hkind:∀y∈ps.zip us,scope.names.lookup y.1=some .local\/(scope.names.lookup y.1=some .cell/\((cellsFrom (s.heap.objs.size+1) scope.names []).lookup y.1).isSome=true):=fun⟨n,v⟩ hy=>(S.par n (List.of_mem_zip hy).1).imp id fun q=>⟨q,W.cellsFrom_some _ _ _ (.inl q)⟩;refine codeAny_call_function (by have:=hr.dp;lia) (KX _ _ lk) rfl S.co S.gen rfl (W.codeRec_of KX hcd) (hbi _ _ _ _ ?_);refine wpAny_newFunctionEnv_cells S.kind hkind fun env he s1 x=>?_;subst he;refine⟨(h.mod.nolimit.keeps h.bk).keeps x.toInCall.keep,codeAny_func ?_⟩;have I:=zxc (zfy (D:=D) S h r hl hn x) h hp0 hF hbp;have hr1:=hr.deeper (envOfC qual scope s.heap.objs.size f (.ref cc));have gd:Gd (lwB P N qual scope f (.ref cc) A F s p).toYc ⟨scope,N⟩ (glo pr n):=⟨⟨fun x h=>(show scope.names.lookup x=some .globalImplicit by simpa[glB]using h),fun x h=>h⟩,by have:=hr1.un;show(A.deeper (envOfC qual scope s.heap.objs.size f (.ref cc))).units+100<cLine;lia,hca,hb,fun f ts h=>by obtain⟨a',fd,ps',h1,h2⟩:=fns f ts h;exact⟨n+3,a',fd,ps',h1,hr1.mono (by lia),h2⟩⟩;have L:LwB (lwB P N qual scope f (.ref cc) A F s p) cc p:=⟨rfl,⟨⟨[],rfl⟩,rfl⟩,hca,rfl,rfl,by subst hq;show(("law":Str)++(".<locals>.":Str)++("<lambda>":Str))=ycb;decide +kernel,hd,bm⟩;have sd:Sd (lwB P N qual scope f (.ref cc) A F s p) ⟨scope,N⟩ (glo pr n) [yar]:=⟨gd,rfl,rfl,⟨⟨[],rfl⟩,rfl⟩,fun x hx hne=>absurd (omg hx) hne,fun _=>zt2 (k:=n+3) L T mt kp gd rfl rfl (hr1.mono (by lia)) fns⟩;have pss:=@SSE.ok _ _ _ SS _ _ sd;refine zyt (pss I (by rw[hS];exact ev)) (fun fl s' z=>?_) fun e s' z=>by obtain⟨_,_,q,_⟩:=z;cases q
 cases fl<;>first|exact z.elim|skip
 obtain⟨⟨G,u,rfl⟩,tb⟩:=z;obtain⟨G2,q⟩:=tb (p,none) (.head _);exact⟨rfl,G,G2,u,q⟩
end Nb
namespace Att
open PySem PySem.W PySem.Calls PyProof.Rows
theorem zee{P:Params}{h:Heap}:∀(ns:List Int)(vs:List Value),WellAll P h vs (ns.map WData.int)->IntsAre vs ns:=by
 intro ns
 induction ns with
 |nil=>intro vs w;rw[List.map_nil]at w;cases w;exact .nil
 |cons n ns ih=>
  intro vs w;rw[zxz]at w;cases w with
  |cons a b=>cases a;exact .cons _ _ (ih _ b)
theorem zkw{l:OpenLaw}{n:Nat}(hn:l.most=some n){P:Params}{h:Heap}{args:List WData}{vals:List Value}(hpre:l.row.toRowW.claim.pre args=true)(hwl:WellAll P h vals args):∃a vs ns,vals=[Value.ref a]/\args=[WData.list (ns.map WData.int)]/\h.get? a=some {cls:=.type "list",data:=.seq vs.toArray}/\IntsAre vs ns/\ns.length<=n:=by
 have hsh:WShape.hasAll [] args [.list .int]=true:=(pre_splitW hpre).1;have hc:l.pre.holds [] {args:=args}=true:=(pre_splitW hpre).2;obtain⟨d,r,rfl,h1,h2⟩:=hasAllW_cons hsh;obtain rfl:=hasAllW_nil h2;obtain⟨xs,rfl,h3⟩:=hasW_list h1;obtain⟨ns,rfl⟩:=items_int h3;have hlen:ns.length<=n:=by
  unfold OpenLaw.pre at hc;have h4:(WTm.not (.lt (.lit (.int (n:Int))) (.len (.arg 0)))).holds [] {args:=[.list (ns.map .int)]}=true:=by have h4:=(holds_andW hc).1;rw[hn]at h4;exact h4
  have h5:=condW_of h4 (w_not (w_lt w_lit (w_len_list (w_arg rfl))));rw[zxt]at h5;refine Nat.le_of_not_lt fun q=>?_;have q':(n:Int)<((ns.length:Nat):Int):=by lia
  first
   |(rw[zx8 q']at h5;exact absurd h5 (by decide))
   |(simp at h5;lia)
 cases hwl with
 |cons w1 w2=>
  cases w2;cases w1 with
  |list ho hall=>exact⟨_,_,ns,rfl,rfl,ho,zee ns _ hall,hlen⟩
theorem zk6(l:OpenLaw)(args:List WData):l.row.toRowW.claim.post args (.bool true) args=true :=
 postW_of (r:=l.row.toRowW) (X:=(true==true))
  (show WShape.has [] (.bool true) .bool=true by first|rfl|decide|simp[WShape.has,WShape.arms,WShape.armsAll])
  (show(WTm.eq .res (.lit (.bool true))).value [] {args:=args,res:=some (.bool true),after:=args}=some (.bool (true==true))from w_eq_bool (w_res rfl) w_lit) rfl
theorem attach_call{l:OpenLaw}{n:Nat}{q:Program}{loose:List Str}{XP:(Str->a7 Value)->Heap->Prop}{YP:World->Heap->Prop}{d:DefRec}(hn:l.most=some n)(hdf:d.params.defaults=[])(call:∀(w:World)(s₀ s₁:Shared)(mg mb:Str->a7 Value)(fa:Addr)(o:Obj)(pm cd doc:Value)(a:Addr)(vs:List Value)(ns:List Int),Ground q loose [] XP w s₀ mg mb s₁.heap->YP w s₁.heap ->s₁.heap.get? fa=some o->o.data=.func (docDef d.name d.params d.body d.scope pm cd doc)->s₁.heap.CodeRec cd d.name->mg d.name=some (.ref fa) ->s₁.heap.get? a=some {cls:=.type "list",data:=.seq vs.toArray}->IntsAre vs ns->ns.length<=n->s₁.gens=#[] ->codeAny (model l.prog w) callerA (.call (.ref fa) ⟨[.ref a],[]⟩) (fun r s'=>r=.ok (.ret (.bool true))/\OldK s₁.heap s'.heap/\s'.os=s₁.os/\AllBare s'.gens) s₁):WalkO q loose XP YP l.row.toRowW d [] (fun f vs=>PySem.call f vs):=by
 intro w s₀ s₁ mg mb G Y fa o pm cd doc dV kV ho hd hcd hD hmg hg args vals as hpre hlay hrd hwl hlo;obtain rfl:dV=.none:=Dflts.none hD hdf;obtain rfl:kV=.none:=Dflts.noKw hD;obtain⟨a,vs,ns,rfl,rfl,hobj,hints,hlen⟩:=zkw hn hpre hwl;refine enter_call (codeAny_mono (call w s₀ s₁ mg mb fa o pm cd doc a vs ns G Y ho (fd_plain hd) hcd hmg hobj hints hlen hg) fun r s' hq=>?_);obtain⟨rfl,h2,h3,h4⟩:=hq;exact⟨.inl ⟨.bool true,.bool true,[],rfl,fun _=>rfl,.bool true,zk6 l _,fun _=>⟨List.Pairwise.nil,fun _ hm=>(nomatch hm)⟩⟩,h2,h3,h4⟩
end Att
section
namespace Nb
open PySem Spec PyProof.Rows Ev Ex L2
variable {st:Stmt}{K:W.Frag}
theorem zvz{h:Heap}{a:Addr}{o:Obj}(e:h.get? a=some o):a<h.objs.size:=by
 by_cases hl:a<h.objs.size
 .exact hl
 .have:h.objs[a]?=none:=Array.getElem?_eq_none (Nat.le_of_not_lt hl);unfold Heap.get? at e;rw[this]at e;cases e
theorem zl5{f:Addr->a7 Obj}{a:Addr}:∀l:List Addr,((l.filterMap fun b=>(f b).map fun o=>(b,o)).lookup a)=if a∈l then f a else none
 |[]=>rfl
 |b::l=>by
  have ih:=zl5 (f:=f) (a:=a) l;rw[zyv];by_cases hab:a=b
  .subst hab;cases hf:f a with
   |none=>simp only[Option.map_none];rw[ih,hf];simp
   |some o=>simp only[xms];rw[List.lookup_cons];simp
  .cases hf:f b with
   |none=>simp only[Option.map_none];rw[ih];simp[hab]
   |some o=>simp only[xms];rw[List.lookup_cons,show(a==b)=false by simpa using hab,ih];simp[hab]
theorem zbw(h:Heap)(a:Addr):(KH h).lookup a=h.get? a:=by
 unfold KH;rw[zl5];split
 .rfl
 .rename_i hn;cases e:h.get? a with
  |none=>rfl
  |some o=>exact absurd (List.mem_range.mpr (zvz e)) hn
theorem zxj(k:∀b o,h.get? b=some o->h'.get? b=some o):(KH h).In h':=fun a o e=>k a o (by rw[<-zbw];exact e)
theorem zop:W.nsIn (KH h) ns x=ybt h ns x:=by unfold W.nsIn ybt;rw[zbw];rfl
theorem zmc:W.codeIn (KH h) cd q=zfj h cd q:=by
 unfold W.codeIn zfj;cases cd with
 |ref c=>simp only[zbw];rfl
 |_=>rfl
theorem zra{h:Heap}{x:Str}(e:yc8 h x=some (ydg x st,true)):∃f oc od kd doc pm an cd ct sl,W.nsIn (KH h) mainGlobals x=some (some (.ref f))/\(KH h).lookup f=some ⟨oc,od,.func (W.fnOf x x (za3 st) (zas st) (zaa st) .none kd doc pm an cd ct),sl⟩/\W.codeIn (KH h) cd x=true/\W.keepIn (KH h) (.ref f)=true:=by
 unfold yc8 at e;split at e
 .rename_i a ha;split at e
  .rename_i oc od f sl ho;have e:=zyr e;have e1:=zx2 Prod.fst e;have e2:=zx2 Prod.snd e;dsimp only at e1 e2;obtain⟨n,q,p,b,sc,g,cl,df,kd,doc,pm,an,cd,ct,bi⟩:=f;unfold ydg fnV at e1;dsimp only[W.fnOf]at e1;obtain⟨rfl,rfl,rfl,rfl,rfl,rfl,rfl,rfl,rfl⟩:=FnV.mk.inj e1;have hl:(KH h).lookup a=some ⟨oc,od,.func (W.fnOf q q (za3 st) (zas st) (zaa st) .none kd doc pm an cd ct),sl⟩:=by rw[zbw];exact ho
   refine⟨a,oc,od,kd,doc,pm,an,cd,ct,sl,by rw[zop];exact ha,hl,by rw[zmc];exact e2,?_⟩;simp only[W.keepIn,hl]
  .cases e
 .cases e
theorem zt6(e:ybp (fs.map (·.1)) bs h=ybd fs bs)(hp:p∈fs):yc8 h p.1=some (ydg p.1 p.2,true):=by have e1:=zx2 Prod.fst e;unfold ybp ybd at e1;dsimp only at e1;rw[zyi]at e1;exact List.map_inj_left.mp e1 p hp
theorem zwy(e:ybp (fs.map (·.1)) bs h=ybd fs bs)(hx:x∈bs):ybt h mainGlobals x=some none:=by have e1:=zx2 Prod.snd e;unfold ybp ybd at e1;dsimp only at e1;exact List.map_inj_left.mp e1 x hx
theorem zik{α:Type}:∀{l:List (Str×α)}{f:Str}{D:α},l.lookup f=some D->(f,D)∈l
 |[],_,_,h=>by cases h
 |(g,E)::l,f,D,h=>by
  rw[zyp]at h;split at h
  .rename_i e;cases h;rw[ua2 e];exact zyo
  .exact zyh _ (zik h)
theorem zng(e:yco c p (h.get? c)=true):PySem.W.CodeHd h c p:=by
 cases q:h.get? c with
 |none=>rw[q]at e;cases e
 |some o=>
  rw[q]at e;obtain⟨cl,di,da,sl⟩:=o;cases cl with
  |type ty=>
   cases da with
   |fields vs=>
    have e:(ty=="code"&&decide (11<vs.size)&&ydp p (vs.getD 11 .none)&&ydx (vs.getD 18 .none)&&yb9 (vs.getD 7 .none)&&zmm (vs.getD 9 .none)&&yb9 (vs.getD 10 .none)&&!(c==p))=true:=e;simp only[Bool.and_eq_true,beq_iff_eq,decide_eq_true_eq,Bool.not_eq_true',beq_eq_false_iff_ne]at e;obtain⟨⟨⟨⟨⟨⟨⟨rfl,h11⟩,e2⟩,e3⟩,e4⟩,e5⟩,e6⟩,e7⟩:=e;have g11:vs.getD 11 .none=.ref p:=by
     cases g:vs.getD 11 .none with
     |ref r=>rw[g]at e2;rw[ua2 (show(r==p)=true from e2)]
     |_=>rw[g]at e2;cases e2
    have g18:∃x t,vs.getD 18 .none=.str x t:=by
     cases g:vs.getD 18 .none with
     |str x t=>exact⟨x,t,rfl⟩
     |_=>rw[g]at e3;cases e3
    have g7:∃x t,vs.getD 7 .none=.int x t:=by
     cases g:vs.getD 7 .none with
     |int x t=>exact⟨x,t,rfl⟩
     |_=>rw[g]at e4;cases e4
    have g9:∃x,vs.getD 9 .none=.bool x:=by
     cases g:vs.getD 9 .none with
     |bool x=>exact⟨x,rfl⟩
     |_=>rw[g]at e5;cases e5
    have g10:∃x t,vs.getD 10 .none=.int x t:=by
     cases g:vs.getD 10 .none with
     |int x t=>exact⟨x,t,rfl⟩
     |_=>rw[g]at e6;cases e6
    obtain⟨x18,t18,g18⟩:=g18;obtain⟨x7,t7,g7⟩:=g7;obtain⟨x9,g9⟩:=g9;obtain⟨x10,t10,g10⟩:=g10;refine⟨_,vs,x18,t18,x7,t7,x9,x10,t10,q,rfl,rfl,?_,g11,g18,g7,g9,g10,e7⟩;rw[ub2 h11];rw[Array.getD_eq_getD_getElem?,ub2 h11]at g11;exact zx2 some g11
   |_=>cases e
  |_=>cases e
theorem zwj(e:ydh p h=true)(KX:(KH h).In h1)(G:h1.Ns mainGlobals mg):∀h2,(KH h).In h2->h2.BuiltinsAt mg p:=fun h2 K2=>by
 unfold ydh at e;cases q:ybt h mainGlobals "__builtins__" with
 |none=>rw[q]at e;cases e
 |some r=>
  cases r with
  |none=>rw[q]at e;cases e
  |some v=>
   cases v with
   |ref b=>
    rw[q]at e;have e:(!(b==builtinsNs)&&!(b==mainGlobals)&&!(b==p)&&(match h.get? b with
     |some ⟨.type ty,some d,.plain,_⟩=>ty=="module"&&d==builtinsNs
     |_=>false))=true:=e
    simp only[Bool.and_eq_true,Bool.not_eq_true',beq_eq_false_iff_ne]at e;obtain⟨⟨⟨e1,e2⟩,e3⟩,e4⟩:=e;split at e4
    .rename_i ty d sl ho;simp only[Bool.and_eq_true,beq_iff_eq]at e4;obtain⟨rfl,rfl⟩:=e4;exact⟨b,_,W.mg_of KX G (by rw[zop];exact q),e1,e2,e3,K2 b _ (by rw[zbw];exact ho),rfl,rfl,rfl⟩
    .cases e4
   |_=>rw[q]at e;cases e
theorem zq2(h:yf1 o=true):o=some (PySem.W.tabObj #[]):=by
 cases o with
 |none=>cases h
 |some o=>
  obtain⟨cl,di,da,sl⟩:=o;cases cl with
  |none=>
   cases di with
   |none=>
    cases da with
    |fields vs=>have h:(vs.size==0&&sl.size==0)=true:=h;simp only[Bool.and_eq_true,beq_iff_eq]at h;rw[Array.eq_empty_of_size_eq_zero h.1,Array.eq_empty_of_size_eq_zero h.2]
    |_=>cases h
   |some _=>cases h
  |_=>cases h
open Ex
theorem zwi:(boN.map fun n=>boX.map fun x=>fastBuiltinOwn n x)=boN.map fun n=>boX.map fun x=>boT n x:=by kernel_rfl
theorem zqr(h:W.clsIn K a=some cd):∃c d s,K.lookup a=some ⟨c,d,.cls cd,s⟩:=by
 unfold W.clsIn at h;split at h
 .rename_i e;cases h;exact⟨_,_,_,e⟩
 .cases h
theorem zxa(h:oI K x c=some r):W.ownIn K x c=some r:=by
 cases c with
 |type n=>
  have h:(if boN.contains n&&boX.contains x then some (boT n x)else none)=some r:=h;split at h
  .rename_i e;rw[zxw,List.contains_iff_mem,List.contains_iff_mem]at e;cases h;exact zx2 some (List.map_inj_left.mp (List.map_inj_left.mp zwi n e.1) x e.2)
  .cases h
 |ref a=>obtain⟨cd,h1,h2⟩:=obs h;obtain⟨c,d,s,e⟩:=zqr h1;unfold W.ownIn;simp only[e];exact h2
 |_=>cases h
theorem zwv{K:W.Frag}:∀l,aI K x l=some r->W.alongIn K x l=some r
 |[],h=>h
 |c::l,h=>by
  obtain⟨o,ho,h⟩:=obs h;rw[W.alongIn,zxa ho];cases o with
  |none=>exact zwv l h
  |some v=>exact h
theorem zhn(h:fIn K C x=some r):W.findIn K (.ref C) x=some r:=by obtain⟨cd,h1,h2⟩:=obs h;obtain⟨c,d,s,e⟩:=zqr h1;unfold W.findIn;simp only[e];exact zwv _ h2
theorem zt5(K:W.Frag):W.specialIn K (.builtin "object.__class__") "__get__"=some (some (.builtin "getset_descriptor.__get__")):=by kernel_rfl
theorem ztz(K:W.Frag):W.takesIn K (.builtin "object.__class__")=some true:=by kernel_rfl
theorem ztc(K:W.Frag):W.findIn K (.type "type") "__call__"=some (some (.builtin "type.__call__")):=by kernel_rfl
theorem zxh:W.kitMeta "ValueError"=true:=by kernel_rfl
theorem zte(h:yfi K D=true):ErC K D:=by unfold yfi at h;simp only[Bool.and_eq_true,beq_iff_eq]at h;obtain⟨⟨⟨⟨⟨⟨h1,h2⟩,h3⟩,h4⟩,h5⟩,h8⟩,h9⟩:=h;exact⟨zhn h1,zhn h2,h3,h4,zhn h5,zt5 K,ztz K,h8,zhn h9⟩
theorem ztf(h:yf7 K cs DE D j=true):EK K cs D j/\W.exmOne K (.ref D) (.ref DE)=some true:=by
 unfold yf7 at h;simp only[Bool.and_eq_true,beq_iff_eq,decide_eq_true_eq]at h;obtain⟨⟨⟨⟨⟨h1,h2⟩,h3⟩,h4⟩,h5⟩,h6⟩:=h;refine⟨⟨zte h1,h2,?_,h4⟩,?_⟩
 .show(if(Value.ref D==Value.type "ValueError")=true then some true else if W.kitMeta "ValueError"=true then W.mroIn K D (.type "ValueError")else none)=some true;rw[zxh,h3];rfl
 .show(if(W.mroIn K DE (.type "BaseException")==some true)=true then kC K D DE else none)=some true;rw[h5,h6];rfl
theorem zpd(h:yc0 C l=true):∃D,l=.ref C::.ref D::veL:=by
 unfold yc0 at h;split at h
 .rename_i a b x y z u;simp only[Bool.and_eq_true,beq_iff_eq]at h;obtain⟨⟨rfl,h2⟩,h3⟩:=h;cases b with
  |ref D=>exact⟨D,by rw[h3]⟩
  |_=>cases h2
 .cases h
theorem ztd(h:ye3 l=true):∃k0 k1 k2 k3 k5,l=[k0,k1,k2,k3,some (.builtin "ValueError.__new__"),k5]:=by
 unfold ye3 at h;split at h
 .rename_i k0 k1 k2 k3 k k5;rw[ue3]at h;exact⟨k0,k1,k2,k3,k5,by rw[h]⟩
 .cases h
theorem zpc(h:yd6 C (K.lookup C)=true)(hs:W.findIn K (.ref C) "__setattr__"=some (some (.builtin "object.__setattr__")))(hn:W.findIn K (.ref C) "at"=some none):(∃k y N b l hd s8 sub ab cl dd k0 k1 k2 k3 k5,K.lookup C=some (excClassObj k y C N b l hd s8 sub ab cl dd k0 k1 k2 k3 k5 "ValueError.__new__")/\Mr "ValueError" l)/\XC K C:=by
 cases e:K.lookup C with
 |none=>rw[e]at h;cases h
 |some o=>
  rw[e]at h;obtain⟨c,dd,da,sl⟩:=o;cases da with
  |cls cd=>
   obtain⟨nm,bs,mro,N,q,hd,s8,sub,ab,col,dl⟩:=cd;have h:(c==.type "type"&&!dl&&hd&&yc0 C mro&&ye3 sl.toList)=true:=h;simp only[Bool.and_eq_true,beq_iff_eq,Bool.not_eq_true']at h;obtain⟨⟨⟨⟨h1,h2⟩,h3⟩,h4⟩,h5⟩:=h;obtain⟨D,h6⟩:=zpd h4;obtain⟨k0,k1,k2,k3,k5,h7⟩:=ztd h5;have h8:sl=#[k0,k1,k2,k3,some (.builtin "ValueError.__new__"),k5]:=by rw[<-Array.toArray_toList (xs:=sl),h7]
   subst h1 h2 h3 h6 h8;have ob:∃k y' N' b l hd s8 sub ab cl dd k0 k1 k2 k3 k5,K.lookup C=some (excClassObj k y' C N' b l hd s8 sub ab cl dd k0 k1 k2 k3 k5 "ValueError.__new__")/\Mr "ValueError" l:=⟨nm,q,N,bs,_,true,s8,sub,ab,col,dd,k0,k1,k2,k3,k5,e,rfl,rfl,rfl⟩;rw[<-e];exact⟨ob,ob,⟨_,[C,D],by unfold W.clsIn;rw[e],rfl,rfl⟩,hs,hn⟩
  |_=>cases h
theorem zsk(h:yd6 C (K.lookup C)=true):W.keepIn K (.ref C)=true:=by
 cases e:K.lookup C with
 |none=>rw[e]at h;cases h
 |some o=>
  rw[e]at h;obtain⟨c,dd,da,sl⟩:=o;cases da with
  |cls cd=>
   have h:(c==.type "type"&&!cd.hasDel&&cd.hasDict&&yc0 C cd.mro&&ye3 sl.toList)=true:=h;simp only[Bool.and_eq_true,beq_iff_eq]at h;obtain⟨⟨⟨⟨rfl,_⟩,_⟩,_⟩,_⟩:=h;unfold W.keepIn;simp only[e];have z:W.specialIn K (.ref C) "__call__"=some (some (.builtin "type.__call__")):=by show((K.lookup C).map (·.cls)).bind (fun t=>W.findIn K t "__call__")=_;rw[e];exact ztc K
   rw[z];decide +kernel
  |_=>cases h
theorem zq9{h:Heap}{fI:Addr}(e:ydy h (h.get? fI)=yd0 st):∃(oc:Value)(od:a7 Addr)(kV doc pm:Value)(an:a7 Addr)(cdv ct:Value)(osl:Array (a7 Value))(a:Addr)(oT:Obj)(n t1 t2:Nat),(KH h).lookup fI=some ⟨oc,od,.func (W.fnOf "__init__" yeg (za3 st) (zas st) (zaa st) (.ref a) kV doc pm an cdv ct),osl⟩/\W.codeIn (KH h) cdv yeg=true/\h.get? a=some oT/\oT.data=.seq #[.str "" t1,.int 0 t2] n:=by
 cases q:h.get? fI with
 |none=>rw[q]at e;cases e
 |some o=>
  rw[q]at e;obtain⟨oc,od,da,osl⟩:=o;cases da with
  |func f=>
   obtain⟨fn,fq,fp,fb,fsc,fg,fcl,fdf,kd,doc,pm,an,cd,ct,bi⟩:=f;cases fdf with
   |ref a=>
    cases qa:h.get? a with
    |none=>simp only[ydy,qa]at e;cases e
    |some oT=>
     obtain⟨tc,td,tda,tsl⟩:=oT;cases tda with
     |seq qc n=>
      simp only[ydy,qa]at e;have e:=zyr e;have e1:=zx2 Prod.fst e;have e2:=zx2 (fun p=>p.2.1) e;have e3:=zx2 (fun p=>p.2.2) e;dsimp only at e1 e2 e3;unfold fnVI fnV at e1;dsimp only[W.fnOf]at e1;obtain⟨rfl,rfl,rfl,rfl,rfl,rfl,rfl,_,rfl⟩:=FnV.mk.inj e1;have hi:∃t1 t2,qc=#[.str "" t1,.int 0 t2]:=by
       rw[<-Array.toArray_toList (xs:=qc)];have hlen:qc.toList.length=2:=by have:=zx2 List.length e3;rw[zxt]at this;exact this
       match hl:qc.toList,e3,hlen with
       |[x,y],e3,_=>
        injection e3 with g1 g2;injection g2 with g2 g3;cases x with
        |str z t1=>
         cases y with
         |int i t2=>cases g1;cases g2;exact⟨t1,t2,rfl⟩
         |_=>cases g2
        |_=>cases g1
       |[],_,h=>cases h
       |[_],_,h=>cases h
       |_::_::_::_,_,h=>simp at h
      obtain⟨t1,t2,rfl⟩:=hi;exact⟨oc,od,kd,doc,pm,an,cd,ct,osl,a,_,n,t1,t2,by rw[zbw];exact q,by rw[zmc];exact e2,qa,rfl⟩
     |_=>simp only[ydy,qa]at e;cases e
   |_=>cases e
  |_=>cases e
theorem zil{α β:Type}{f:α->a7 β}:∀{l:List α}{r:List β},ye8 f l=some r->r.length=l.length/\∀(i:Nat)(x:α),l[i]?=some x->∃y,f x=some y/\r[i]?=some y
 |[],r,h=>by cases h;exact⟨rfl,fun i x z=>by simp at z⟩
 |a::l,r,h=>by
  obtain⟨b,h1,h⟩:=obs h;obtain⟨bs,h2,h⟩:=obs h;cases h;obtain⟨g1,g2⟩:=zil h2;refine⟨by rw[zya,zya,g1],fun i x z=>?_⟩;cases i with
  |zero=>cases z;exact⟨b,h1,rfl⟩
  |succ i=>exact g2 i x z
theorem zni:∀(l:List Str)(x:Str)(i j:Nat),ydt x l i=some j->i<=j/\l[j-i]?=some x
 |[],x,i,j,h=>by cases h
 |y::r,x,i,j,h=>by
  unfold ydt at h;split at h
  .rename_i e;cases h;subst e;exact⟨Nat.le_refl _,by simp⟩
  .obtain⟨h1,h2⟩:=zni r x (i+1) j h;refine⟨by lia,?_⟩;rw[show j-i=(j-(i+1))+1 by lia];exact h2
theorem zf4(KX:(KH h0).In h)(G:h.Ns mainGlobals mg)(e:ydu (KH h0) x=some C):mg x=some (.ref C):=by
 unfold ydu ycl at e;split at e
 .rename_i q;cases e;exact W.mg_of KX G q
 .cases e
theorem fmc{α β:Type}{f g:α->a7 β}:∀{l:List α},(∀x∈l,f x=g x)->l.filterMap f=l.filterMap g
 |[],_=>rfl
 |a::l,h=>by rw[zyv,zyv,h a (.head _),fmc fun x hx=>h x (.tail _ hx)]
theorem zhv:∀(ps:List Str)(us:List Value),us.length=ps.length->∀n∈ps,((ps.zip us).lookup n).isNone=false
 |p::ps,u::us,hl,n,hn=>by
  rw[List.zip_cons_cons,zyp];cases e:n==p with
  |true=>rfl
  |false=>exact zhv ps us (by simpa using hl) n ((omc hn).resolve_left fun z=>by subst z;simp at e)
theorem zpq:∀(ps:List Str)(us:List Value),us.length=ps.length->ps.Nodup->ps.filterMap (fun n=>((ps.zip us).lookup n).map (n,·))=ps.zip us
 |[],us,_,_=>by cases us<;>rfl
 |p::ps,u::us,hl,hn=>by
  rw[ua7]at hn;rw[List.zip_cons_cons,zyv,zyp,ua9];simp only[xms];congr 1;refine Eq.trans (fmc fun n h=>?_) (zpq ps us (by simpa using hl) hn.2);rw[zyp];cases e:n==p with
  |true=>rw[ua2 e]at h;exact absurd h hn.1
  |false=>rfl
theorem zff(h:fd.params=⟨[],as,none,[],[],none,[]⟩)(hd:fd.defaults=.none)(hn:(as.map (·.arg)).Nodup)(hl:us.length=(as.map (·.arg)).length):bindArgs fd ⟨us,[]⟩=pure ((as.map (·.arg)).zip us):=by
 have e1:((as.map (·.arg)).filter fun n=>(((as.map (·.arg)).zip us).lookup n).isNone)=[]:=List.filter_eq_nil_iff.mpr fun n hn=>by rw[zhv _ us hl n hn];simp
 have e2:=zpq _ us hl hn;have e3:seqItems? Value.none=(pure none:Sem _):=rfl;unfold bindArgs;rw[h,hd];dsimp only;generalize as.map (·.arg)=ps at hn hl e1 e2 ⊢;simp only[xmn,List.nil_append,List.append_nil,List.forIn_nil,pure_bind,e3,Option.getD_none,List.length_nil,hl,gt_iff_lt,Nat.lt_irrefl,decide_false,Bool.false_and,Bool.false_eq_true,if_false,Nat.zero_sub,List.drop_zero,Nat.sub_zero,List.take_length,e1,List.isEmpty_nil,Bool.not_true,List.drop_length,List.zip_nil_left,e2]
 done
abbrev Tab:=List (Str×Fd×Stmt×List Str)
def Tab.fns(t:Tab):List (Str×Fd):=t.map fun p=>(p.1,p.2.1)
def Tab.sts(t:Tab):List (Str×Stmt):=t.map fun p=>(p.1,p.2.2.1)
def Tab.pr(t:Tab):Pr:=⟨fun f=>t.fns.lookup f⟩
def zbh(sc:Scope):List Str:=(sc.names.filter fun p=>p.2==.local||p.2==.cell).map (·.1)
def ygd(D:Fd)(st:Stmt)(ps:List Str):Bool :=
 (zaa st).kind==.function&&!(zaa st).isCoroutine&&!(zaa st).isGenerator&&decide ((zbh (zaa st)).Nodup)&&decide ((zbh (zaa st)).take ps.length=ps) &&
 (ps.all fun x=>(zaa st).names.lookup x==some .local||(zaa st).names.lookup x==some .cell)&&((zaa st).names.all fun y=>!(y.2==.free)) &&
 decide (ps.length=D.np)&&decide ((zbh (zaa st)).length=D.ns) &&
 (match za3 st with|⟨[],as,none,[],[],none,[]⟩=>decide (as.map (·.arg)=ps)|_=>false)
structure StH(x:Str)(D:Fd)(st:Stmt)(ps:List Str):Prop where
 sc:FnScope (zbh (zaa st)) ps (zaa st)
 np:D.np=ps.length
 ns:D.ns=(zbh (zaa st)).length
 bi:∀(kV doc pm:Value)(an:Option Addr)(cdv ct:Value)(us:List Value),us.length=ps.length->bindArgs (W.fnOf x x (za3 st) (zas st) (zaa st) .none kV doc pm an cdv ct) ⟨us,[]⟩=pure (ps.zip us)
theorem zt4{x:Str}{D:Fd}{ps:List Str}(h:ygd D st ps=true):StH x D st ps:=by
 unfold ygd at h;simp only[Bool.and_eq_true,Bool.not_eq_true',decide_eq_true_eq,beq_iff_eq]at h;obtain⟨⟨⟨⟨⟨⟨⟨⟨⟨h1,h2⟩,h3⟩,h4⟩,h5⟩,h6⟩,h7⟩,h8⟩,h9⟩,h10⟩:=h;have hnd:ps.Nodup:=by rw[<-h5];exact h4.sublist (List.take_sublist _ _)
 refine⟨⟨h1,h2,h3,h4,h5,fun y hy=>by simpa using oml h6 y hy,fun y hy=>by simpa using oml h7 y hy⟩,h8.symm,h9.symm,fun kV doc pm an cdv ct us hl=>?_⟩;split at h10
 .rename_i as ha;rw[zyn]at h10;subst h10;exact zff ha rfl hnd hl
 .cases h10
structure ToldS(st:Stmt):Prop where
 sc:FnScope toldN ["_law_deed_here"] (zaa st)
 lo:∀x∈toldN,(zaa st).names.lookup x=some .local
 gl:∀x∈(("DealError":Str)::toldC)++(["isinstance", "ValueError", "bool"]:List Str),(zaa st).names.lookup x=some .globalImplicit
 bi:∀(kV doc pm:Value)(an:Option Addr)(cdv ct:Value)(us:List Value),us.length=1->bindArgs (W.fnOf yar yar (za3 st) (zas st) (zaa st) .none kV doc pm an cdv ct) ⟨us,[]⟩=pure ((["_law_deed_here"]:List Str).zip us)
 bd:TdB (zas st)
structure IniS(st:Stmt):Prop where
 sc:FnScope iniN iniN (zaa st)
 v0:(zaa st).names.lookup ("self":Str)=some .local
 v1:(zaa st).names.lookup ("words":Str)=some .local
 v2:(zaa st).names.lookup ("at":Str)=some .local
 vg:(zaa st).names.lookup ("ValueError":Str)=some .globalImplicit
 bd:∃p ap p1 p2 pos q1 p3 p4 p5 q2,zas st=yf6 p ap p1 p2 pos q1 p3 p4 p5 q2/\∀env:PySem.Env,∃pl:Sem Bool,eval (.Call (.Attribute (.Name "ValueError" p) "__init__" ap) [.Name "self" p1,.Name "words" p2] [] pos) env=(do
   let ov <-eval (.Name "ValueError" p) env
   standAt ap.atName
   let(f,first) <-holding [ov] (getMethod ov "__init__" pl)
   callWith pos f first (backTo pos (starEach [.Name "self" p1,.Name "words" p2] env)) (backToKw pos (keywordEach [] env)))
 b2:∀(a:Addr)(kV doc pm:Value)(an:Option Addr)(cdv ct u1 u2:Value)(t1 t2:Nat),∃k,bindArgs (W.fnOf "__init__" yeg (za3 st) (zas st) (zaa st) (.ref a) kV doc pm an cdv ct) ⟨[u1,u2],[]⟩=(seqItems? (.ref a) >>= k)/\k (some #[.str "" t1,.int 0 t2])=(pure (iniN.zip [u1,u2,Value.int 0 t2]):Sem (List (Str×Value)))
 b3:∀(a:Addr)(kV doc pm:Value)(an:Option Addr)(cdv ct u1 u2 u3:Value)(t1 t2:Nat),∃k,bindArgs (W.fnOf "__init__" yeg (za3 st) (zas st) (zaa st) (.ref a) kV doc pm an cdv ct) ⟨[u1,u2,u3],[]⟩=(seqItems? (.ref a) >>= k)/\k (some #[.str "" t1,.int 0 t2])=(pure (iniN.zip [u1,u2,u3]):Sem (List (Str×Value)))
theorem zwe{P:Pc}{h0:Heap}{C fI:Addr}{x:Str}(I:IniS st)(eK:P.K=KH h0)(hC:P.mg x=some (.ref C))(nv:P.mg "ValueError"=none)(ck:yd1 (KH h0) C fI=true)(e:ydy h0 (h0.get? fI)=yd0 st):Cls P x 0:=by
 unfold yd1 at ck;simp only[Bool.and_eq_true,beq_iff_eq]at ck;obtain⟨⟨⟨⟨h1,h3⟩,h4⟩,h5⟩,h6⟩:=ck;have h2:=zsk h1;have h3:=zhn h3;have h5:=zhn h5;have h6:=zhn h6;obtain⟨_,xc⟩:=zpc h1 h5 h6;obtain⟨oc,od,kV,doc,pm,an,cdv,ct,osl,a,oT,n,t1,t2,g1,g2,g3,g4⟩:=zq9 e;obtain⟨p,ap,p1,p2,pos,q1,p3,p4,p5,q2,eb,ht⟩:=I.bd;have kh:∀h,P.K.In h->h.get? a=some oT:=fun h K=>by rw[eK]at K;exact K a oT (by rw[zbw];exact g3)
 refine⟨C,fI,W.fnOf "__init__" yeg (za3 st) (zas st) (zaa st) (.ref a) kV doc pm an cdv ct,t2,hC,by rw[eK];exact xc,by rw[eK];exact h2,fun h' K=>by rw[eK]at K;exact⟨_,K,h3,h4⟩,fun{A l F s e C z wV nV args R}hr hs he hbe xc hb q=>?_,fun s us K hl=>?_,fun s us K hl=>?_⟩
 .rw[eb]at g1;refine zsr (k:=0) (by rw[eK];exact g1) (by rw[eK];exact g2) I.sc I.v0 I.v1 I.v2 I.vg nv ht hr hs he hbe xc (by rw[<-eb];exact hb) q
 .obtain⟨u1,u2,u3,rfl⟩:∃u1 u2 u3,us=[u1,u2,u3]:=by rcases us with _|⟨a,_|⟨b,_|⟨c,_|⟨_,_⟩⟩⟩⟩<;>simp at hl;exact⟨a,b,c,rfl⟩
  obtain⟨kk,b1,b2⟩:=I.b3 a kV doc pm an cdv ct u1 u2 u3 t1 t2;exact BindsTo.of_defaults (T:=a) (k:=kk) rfl (kh _ K) g4 b1 b2
 .obtain⟨u1,u2,rfl⟩:∃u1 u2,us=[u1,u2]:=by rcases us with _|⟨a,_|⟨b,_|⟨_,_⟩⟩⟩<;>simp at hl;exact⟨a,b,rfl⟩
  obtain⟨kk,b1,b2⟩:=I.b2 a kV doc pm an cdv ct u1 u2 t1 t2;exact BindsTo.of_defaults (T:=a) (k:=kk) rfl (kh _ K) g4 b1 b2
theorem ztp{G G2 F:Fz}{s s':Shared}{p:Addr}{cc:Addr}(u:Up F {s with heap:=W.hideAll s.heap [p]} G s')(tk:ycx G2 s'.heap p)(hp:s.heap.get? p=some (W.tabObj #[]))(hcd:W.CodeHd s.heap cc p):OldK s.heap s'.heap:=by
 obtain⟨vs,e,_⟩:=tk;have kept:∀b o,b≠p->s.heap.get? b=some o->s'.heap.get? b=some o:=fun b o nb w=>u.ext b o (W.hideAll_get _ w fun z=>nb (omg z));have hp2:s'.heap.get? p=some {cls:=.none,data:=.fields (#[]++vs)}:=by rw[e];simp[W.tabObj]
 refine⟨fun b o w=>?_,fun b o w=>?_⟩<;>by_cases hb:b=p
 .subst hb;rw[hp]at w;cases w;exact .inr (.inl ⟨(hcd.tab hp).isCodeTable,rfl,#[],vs,rfl,hp2⟩)
 .exact .inl (kept b o hb w)
 .subst hb;exact⟨_,hp2⟩
 .exact⟨o,kept b o hb w⟩
def zkv(er:List Str)(fs:List (Str×Stmt))(sI:Stmt):PySem.W.Hook :=
 ⟨_,fun s=>ydz er (fs.map (·.1)) bnX s.heap,fun _=>some (ybd fs bnX,true,true,yd0 sI),fun _ h=>∃h0:Heap,(∀b o,h0.get? b=some o->h.get? b=some o)/\ydz er (fs.map (·.1)) bnX h0=some (ybd fs bnX,true,true,yd0 sI),
  fun _ s e=>⟨s.heap,fun _ _ e=>e,e⟩,fun _ _ _ ⟨h0,a,b⟩ k=>⟨h0,fun c o e=>k c o (a c o e),b⟩⟩
end Nb
section
namespace Nb
open PySem Spec PyProof.Rows Ev Ex L2
theorem walk_see{l:PySem.W.OpenLaw}{n k:Nat}{q:Program}{loose:List Str}{XP:(Str->a7 Value)->Heap->Prop}{d:DefRec}{x:Str}{er:List Str}{tab:Tab}{D:Fd}{st sT sI:Stmt}(hn:l.most=some n)(hn2:n<=sizeLine)(hdf:d.params.defaults=[])(hr:Room (k+6) callerA)(hdn:d.name=("law":Str))(her:er.contains yar=false)(hst:∀p∈tab,StH p.1 p.2.1 p.2.2.1 p.2.2.2)(hrd:∀p∈tab,∃S:SSE ⟨zaa p.2.2.1,zbh (zaa p.2.2.1)⟩ er (zas p.2.2.1),S.xs=p.2.1.body)(ST:ToldS sT)(SI:IniS sI)(SL:StH "law" D st [x])(SR:∃S:SSE ⟨zaa st,zbh (zaa st)⟩ [yar] (zas st),S.xs=D.body)(law:∀ns:List Int,ns.length<=n->yav (glo tab.pr k) D.body (yaj D [.lst (ns.map .int)])=some (.rt (.bl true))):PySem.W.WalkO q loose XP (zkv er (tab.sts++[(("law":Str),st),(yar,sT)]) sI).says l.row.toRowW d [] (fun f vs=>PySem.call f vs):=by
 refine Att.attach_call hn hdf fun w s₀ s₁ mg mb fa o pm cd doc a vs ns G Y ho hd hcd hmg hobj hints hlen hg=>?_;obtain⟨h0,k0,e0⟩:=Y;obtain⟨p,hp,e⟩:=oms (show(yfa h0).map (seeX er _ _ h0)=some _ from e0);have eA:ybp ((tab.sts++[(("law":Str),st),(yar,sT)]).map (·.1)) bnX (h0.hide p)=ybd (tab.sts++[(("law":Str),st),(yar,sT)]) bnX:=zx2 Prod.fst e;have eB:(yf1 (h0.get? p)&&(yfa (h0.hide p)==some p)&&(match ycj (h0.hide p)with|some c=>yco c p ((h0.hide p).get? c)|none=>false)&&ydh p (h0.hide p))=true:=zx2 (fun z=>z.2.1) e;have eC:ckX er (KH (h0.hide p))=true:=zx2 (fun z=>z.2.2.1) e;have eD:yfz (h0.hide p)=yd0 sI:=zx2 (fun z=>z.2.2.2) e;simp only[Bool.and_eq_true,beq_iff_eq]at eB;obtain⟨⟨⟨b1,b2⟩,b3⟩,b4⟩:=eB;have KX:(KH (h0.hide p)).In s₁.heap:=zxj fun b o e=>k0 b o (PySem.W.of_hideAll [p] e);have hp0:=k0 p _ (zq2 b1);have hpn:(KH (h0.hide p)).lookup p=none:=by rw[zbw];exact PySem.W.hideAll_none [p] (.head _)
 clear e e0 hp;generalize h0.hide p=h1 at *;cases hc:ycj h1 with
 |none=>rw[hc]at b3;cases b3
 |some cc=>
  rw[hc]at b3;have hcd0:PySem.W.CodeHd h1 cc p:=zng b3;have hd1:∀h,(KH h1).In h->W.CodeHd h cc p:=fun h K=>hcd0.keeps fun b o e=>K b o (by rw[zbw];exact e);have bm1:=zwj b4 KX G.T.g;have see0:∀x∈bnX,mg x=none:=fun x hx=>PySem.W.mg_none_of KX G.T.g (by rw[zop];exact zwy eA hx);have nob:∀x∈bnames,mg x=none:=fun x hx=>see0 x (zyh _ hx);have nv:mg "ValueError"=none:=see0 _ (.head _);have hap:a≠p:=fun z=>by rw[z,hp0]at hobj;cases hobj
  have hb0:∀{b:Addr}{o:Obj},s₁.heap.get? b=some o->b≠p->(W.hideAll s₁.heap [p]).get? b=some o:=fun e nb=>W.hideAll_get _ e fun z=>nb (omg z);have nsK:∀{b:Addr}{m:Str->a7 Value},s₁.heap.Ns b m->(W.hideAll s₁.heap [p]).Ns b m:=fun{b m} ⟨o,es,ep,e,d,r⟩=>⟨o,es,ep,hb0 e (fun z=>by rw[z,hp0]at e;cases e;cases d),d,r⟩;have hM:Mod (KH h1) mg (W.hideAll s₁.heap [p]):=⟨fun b o e=>hb0 (KX b o e) (fun z=>by rw[z,hpn]at e;cases e),nsK G.T.g,⟨mb,nsK G.T.b,G.T.builtins⟩,let⟨mc,h1,h2⟩:=G.T.nolimit;⟨mc,nsK h1,h2⟩⟩
  let P:Pc:=⟨l.prog,w,KH h1,mg,W.hideAll s₁.heap [p],True⟩
  let F:Fz:=fup (fun _=>none) a {cls:=.type "list",data:=.seq vs.toArray}
  have hF:F p=none:=by show fup _ _ _ _=_;unfold fup;rw[if_neg (Ne.symm hap)]
  have hIn:F.In s₁.heap:=fun b o e=>by
   replace e:fup (fun _=>none) a {cls:=.type "list",data:=.seq vs.toArray} b=some o:=e;unfold fup at e;split at e
   .rename_i z;cases e;rw[z];exact hobj
   .cases e
  have hS:St P callerA [] F s₁:=⟨hM,fun _=>rfl,rfl,fun b o e=>W.of_hideAll _ e,hIn,.of_eq hg,fun _=>trivial,fun _ b hb=>nomatch hb⟩;have fn:=fun(q:Str×Stmt)(hq:q∈tab.sts++[(("law":Str),st),(yar,sT)])=>zra (zt6 (p:=q) eA hq);unfold ckX at eC;split at eC
  .rename_i cls DE fI q1 q2 q3;rw[zxw]at eC;obtain⟨z1,z2⟩:=eC;have eI:ydy h1 (h1.get? fI)=yd0 sI:=by unfold yfz at eD;rw[q3]at eD;exact eD
   have cl:∀x∈er,Cls P x 0:=fun x hx=>by
    have z:=oml z2 x hx;cases hC:ydu (KH h1) x with
    |none=>rw[hC]at z;cases z
    |some C=>rw[hC]at z;exact zwe SI rfl (zf4 KX G.T.g hC) nv z eI
   have H:∀f D,tab.pr.fn f=some D->FnHead P er f D:=fun f D hf=>by obtain⟨q,hq,e⟩:=omm (zik (show tab.fns.lookup f=some D from hf));cases e;obtain⟨a,oc,od,kd,doc,pm,an,cd,ct,sl,g1,g2,g3,g4⟩:=fn (q.1,q.2.2.1) (List.mem_append_left _ (ua0.mpr ⟨q,hq,rfl⟩));have S:=hst q hq;exact⟨a,_,_,_,_,_,_,kd,doc,pm,cd,ct,oc,an,od,sl,_,_,g2,g3,S.sc,S.ns,S.np,W.mg_of KX G.T.g g1,g4,S.bi kd doc pm an cd ct,hrd q hq⟩
   have fns:=zv4 H trivial nob cl her k;obtain⟨y1,y2⟩:=zil (show ye8 (ydu (KH h1)) yc2=some cls from q1);obtain⟨ta,oc,od,kd,doc',pm',an,cdT,ct,sl,t1,t2,t3,t4⟩:=fn (yar,sT) (zym _ (.tail _ (.head _)));have TT:ToldT P ta cls DE:=by
    refine⟨⟨_,_,_,_,_,_,kd,doc',pm',cdT,ct,oc,an,od,sl,t2,t3,ST.sc,ST.lo,ST.gl,ST.bi kd doc' pm' an cdT ct,ST.bd⟩,zf4 KX G.T.g q2,?_,fun x hx=>?_,fun x Cc j hj hx=>?_⟩
    .refine List.ext_getElem? fun i=>?_;rw[zx0,zx0];show(yc2[i]?).map mg=_;cases hi:yc2[i]? with
     |none=>have:cls[i]?=none:=ud7 (by rw[y1];exact List.getElem?_eq_none_iff.mp hi);rw[this];rfl
     |some x=>obtain⟨y,a1,a2⟩:=y2 i x hi;rw[a2];show some (mg x)=some (some (.ref y));rw[zf4 KX G.T.g a1]
    .rcases omc hx with rfl|hx
     .exact nob _ (by decide +kernel)
     .rcases omc hx with rfl|hx
      .exact nv
      .cases omg hx;exact nob _ (by decide +kernel)
    .obtain⟨_,hj2⟩:=zni yc2 x 0 j hj;obtain⟨y,a1,a2⟩:=y2 j x hj2;have:=zf4 KX G.T.g a1;rw[show mg x=some (.ref Cc)from hx]at this;cases this;exact ztf (oml z1 (Cc,j) (List.mk_mem_zipIdx_iff_getElem?.mpr a2))
   obtain⟨f,oc2,od2,kV,doc2,pm2,an2,cdv,ct2,sl2,g1,g2,g3,g4⟩:=fn (("law":Str),st) (zym _ (.head _));have hm:=W.mg_of KX G.T.g g1;rw[<-hdn,hmg]at hm;cases hm;have hcc:cdv=.ref cc:=by
    have g:ybt h1 mainGlobals "law"=some (some (.ref fa)):=by rw[<-zop];exact g1
    unfold ycj at hc;rw[g]at hc;have hc:ydo (h1.get? fa)=some cc:=hc;rw[<-zbw,g2]at hc;cases cdv with
    |ref c=>cases hc;rfl
    |_=>cases hc
   subst hcc;obtain⟨SS,hSS⟩:=SR;have hrep:Reps P.w F [.lst (ns.map .int)] [.ref a]:=by
    have ri:∀{vs:List Value}{ns:List Int},IntsAre vs ns->Reps w F (ns.map .int) vs:=fun h=>by
     induction h with
     |nil=>rfl
     |cons n t h ih=>exact .cons ⟨_,rfl⟩ ih
    refine .cons ⟨a,vs.toArray,0,rfl,zbs,by rw[ua3,hints.length];exact Nat.le_trans hlen hn2,by simpa using ri hints⟩ rfl
   refine codeAny_mono (zvj (P:=P) trivial g2 g3 SL.sc SL.ns SL.np rfl hd1 bm1 TT (W.mg_of KX G.T.g t1) t4 nob SS hSS fns hr hS (.of_eq (SL.bi kV doc2 pm2 an2 (.ref cc) ct2 [.ref a] rfl)) hrep rfl hp0 hF (W.hideAll_none _ (.head _)) (law ns hlen)) fun r s' z=>?_;obtain⟨rfl,G1,G2,u,tk⟩:=z;exact⟨rfl,ztp u tk hp0 (hd1 _ KX),u.os,u.bare (.of_eq hg)⟩
  .cases eC
end Nb
namespace Ev.K04
open PySem
noncomputable def Sm(is:List Nat)(ρ ρ':Env):Prop:=∀i∈is,(ρ[i]?).join=(ρ'[i]?).join
theorem Sm.l(h:Sm (a++b) ρ ρ'):Sm a ρ ρ':=fun i hi=>h i (List.mem_append_left _ hi)
theorem Sm.r(h:Sm (a++b) ρ ρ'):Sm b ρ ρ':=fun i hi=>h i (zym _ hi)
theorem Sm.ap{l:List (a7 T)}(hl:l.length=n)(h:Sm (is.filterMap fun i=>if n<=i then some (i-n)else none) ρ ρ'):Sm is (l++ρ) (l++ρ'):=fun i hi=>by
 rw[List.getElem?_append,List.getElem?_append,hl];split
 .rfl
 .exact h _ (ud5.mpr ⟨i,hi,by rw[if_pos (by lia)]⟩)
mutual
theorem zan(G:Glo):∀(e:E){ρ ρ':Env},Sm (yab e) ρ ρ'->evE G e ρ=evE G e ρ'
 |.var i,_,_,h=>by rw[evE,evE];exact h i (ue1.mpr rfl)
 |.cst _,_,_,_=>by rw[evE,evE]
 |.bin _ a b,_,_,h=>by rw[yab]at h;rw[evE,evE,zan G a h.l,zan G b h.r]
 |.cmp _ a b,_,_,h=>by rw[yab]at h;rw[evE,evE,zan G a h.l,zan G b h.r]
 |.land a b,_,_,h=>by rw[yab]at h;rw[evE,evE,zan G a h.l,zan G b h.r]
 |.lor a b,_,_,h=>by rw[yab]at h;rw[evE,evE,zan G a h.l,zan G b h.r]
 |.lnot a,_,_,h=>by rw[yab]at h;rw[evE,evE,zan G a h]
 |.neg a,_,_,h=>by rw[yab]at h;rw[evE,evE,zan G a h]
 |.tru a,_,_,h=>by rw[yab]at h;rw[evE,evE,zan G a h]
 |.tup es,_,_,h=>by rw[yab]at h;rw[evE,evE,zcr G es h]
 |.lst es,_,_,h=>by rw[yab]at h;rw[evE,evE,zcr G es h]
 |.idx a b,_,_,h=>by rw[yab]at h;rw[evE,evE,zan G a h.l,zan G b h.r]
 |.sli a lo hi,_,_,h=>by rw[yab]at h;rw[evE,evE,zan G a h.l,zm5 G lo h.r.l,zm5 G hi h.r.r]
 |.call _ es,_,_,h=>by rw[yab]at h;rw[evE,evE,zcr G es h]
 |.blt _ a,_,_,h=>by rw[yab]at h;rw[evE,evE,zan G a h]
 |.isi a _,_,_,h=>by rw[yab]at h;rw[evE,evE,zan G a h]
 |.mth _ a b,_,_,h=>by rw[yab]at h;rw[evE,evE,zan G a h.l,zan G b h.r]
 |.dget a b c,_,_,h=>by rw[yab]at h;rw[evE,evE,zan G a h.l,zan G b h.r.l,zan G c h.r.r]
 |.ife c a b,_,_,h=>by rw[yab]at h;rw[evE,evE,zan G c h.l,zan G a h.r.l,zan G b h.r.r]
 |.told _ es,_,_,h=>by rw[yab]at h;rw[evE,evE,zcr G es h]
 |.comp elt n k src cond,ρ,ρ',h=>by
  rw[yab]at h;rw[evE,evE,zcr G src h.l];refine zx2 _ (funext fun xs=>zx2 _ (funext fun qc=>zx2 (fun f=>(ya4 f qc).map T.lst) (funext fun x=>?_)));have:bnd n x ρ=none/\bnd n x ρ'=none\/∃l:List (a7 T),l.length=n/\bnd n x ρ=some (l++ρ)/\bnd n x ρ'=some (l++ρ'):=by
   unfold bnd;split
   .rename_i e;exact .inr ⟨[some x],e.symm,rfl,rfl⟩
   .cases x with
    |tup xs=>
     dsimp only;split
     .exact .inr ⟨xs.map some,by simpa,rfl,rfl⟩
     .exact .inl ⟨rfl,rfl⟩
    |_=>exact .inl ⟨rfl,rfl⟩
  rcases this with⟨h1,h2⟩|⟨l,hl,h1,h2⟩
  .rw[h1,h2]
  .have hs:=Sm.ap hl h.r;rw[h1,h2,zxv,zxv,zm5 G cond hs.r,zan G elt hs.l]
theorem zcr(G:Glo):∀(es:List E){ρ ρ':Env},Sm (yah es) ρ ρ'->yal G es ρ=yal G es ρ'
 |[],_,_,_=>by rw[yal,yal]
 |e::es,_,_,h=>by rw[yah]at h;rw[yal,yal,zan G e h.l,zcr G es h.r]
theorem zm5(G:Glo):∀(e:a7 E){ρ ρ':Env},Sm (ycm e) ρ ρ'->evO G e ρ=evO G e ρ'
 |none,_,_,_=>by rw[evO,evO]
 |some e,_,_,h=>by rw[ycm]at h;rw[evO,evO,zan G e h]
end
noncomputable def fv(τ:List Sl):Env:=τ.map fun s=>s.frz.get
theorem frz2(s:Sl):s.frz.frz=s.frz:=by cases s<;>rfl
theorem zqm:∀(is:List Nat)(τ:List Sl)(i:Nat),(frzAt is τ)[i]?=(τ[i]?).map fun s=>if i∈is then s.frz else s
 |[],τ,i=>by rw[frzAt];simp
 |j::is,τ,i=>by
  rw[frzAt,zqm is,List.getElem?_modify];by_cases e:j=i
  .subst e;cases τ[j]? with
   |none=>rfl
   |some s=>by_cases k:j∈is<;>simp[k,frz2]
  .have:¬i=j:=fun z=>e z.symm;cases τ[i]? with
   |none=>rfl
   |some s=>simp[e,this]
theorem zfw(is:List Nat)(τ:List Sl):Sm is (ygg (frzAt is τ)) (fv τ):=fun i hi=>by rw[ygg,fv,zx0,zx0,zqm,Option.map_map];congr 2;funext s;simp only[Function.comp_apply,if_pos hi]
theorem ydl(h:evE G e (fv τ)=o):evE G e (ygg (frzAt (yab e) τ))=o:=(zan G e (zfw _ τ)).trans h
theorem zmz(h:yal G es (fv τ)=o):yal G es (ygg (frzAt (yah es) τ))=o:=(zcr G es (zfw _ τ)).trans h
section
variable {α:Type}{P:Pr}{D:Fd}{is:List Nat}
theorem za6{xs:List T}{k:Nat}{t:T}(h:xs[k]?=some t):yb3 xs (k:Int)=some t:=by have hk:k<xs.length:=(ome h).1;unfold yb3 ixI;rw[if_pos (by lia),if_pos (by lia)];simpa using h
theorem zxb(h:evS G s τ=some (.nx τ')):yav G (s::ss) τ=yav G ss τ':=by rw[yav,h];rfl
theorem zwz(h:evS G s τ=some (.rt t)):yav G (s::ss) τ=some (.rt t):=by rw[yav,h];rfl
theorem zeu{α:Type}{enc:α->T}{f:T->a7 (a7 T)}(g:α->a7 T):∀{l:List α},(∀a∈l,f (enc a)=some (g a))->ya4 f (l.map enc)=some (l.filterMap g)
 |[],_=>rfl
 |a::l,h=>by rw[zxz,ya4,h a zyo,zeu g fun b hb=>h b (zyh _ hb),zyv];cases g a<;>rfl
theorem ybz(a:T)(r:List T):yb3 (a::r) 0=some a:=by simp[yb3,ixI]
theorem yd2(a b:T)(r:List T):yb3 (a::b::r) 1=some b:=by have:=za6 (xs:=a::b::r) (k:=1) (t:=b) rfl;exact this
theorem yga(a b c:T)(r:List T):yb3 (a::b::c::r) 2=some c:=by have:=za6 (xs:=a::b::c::r) (k:=2) (t:=c) rfl;exact this
theorem yfs(a b c d:T)(r:List T):yb3 (a::b::c::d::r) 3=some d:=by have:=za6 (xs:=a::b::c::d::r) (k:=3) (t:=d) rfl;exact this
theorem ziz{enc:α->T}{cs:List α}(h:cs≠[])(i:Int):∃c∈cs,yb3 (cs.map enc) (i%(cs.length:Int))=some (enc c):=by
 have hl:0<cs.length:=by cases cs with|nil=>exact absurd rfl h|cons _ _=>simp
 have h1:0<=i%(cs.length:Int):=uc5 _ (by lia);have h2:i%(cs.length:Int)<(cs.length:Int):=uc0 _ (by lia);obtain⟨j,hj⟩:∃j:Nat,i%(cs.length:Int)=(j:Int):=⟨(i%(cs.length:Int)).toNat,by lia⟩;rw[hj]at h2 ⊢;have hj':j<cs.length:=by lia
 refine⟨cs[j],ua5 _,za6 ?_⟩;rw[zx0,zxu hj'];rfl
theorem zny{β:Type}(f:α->β)(l:List α):(l.filterMap fun a=>some (f a))=l.map f:=by
 induction l with
 |nil=>rfl
 |cons a l ih=>simp[ih]
theorem zi3(G:Glo)(elt:E)(n:Nat)(k:Ik)(src:List E)(cond:a7 E)(r:Env):evE G (.comp elt n k src cond) r=(yal G src r).bind fun xs=>(yas k xs).bind fun qc=>
   (ya4 (fun x=>(bnd n x r).bind fun r'=>(evO G cond r').bind fun c=>match c with
    |none=>(evE G elt r').map some
    |some (.bl true)=>(evE G elt r').map some
    |some (.bl false)=>some none
    |some _=>none) qc).map .lst:=by rw[evE];try rfl
theorem zek(G:Glo)(elt:E)(n:Nat)(k:Ik)(src:List E)(r:Env):evE G (.comp elt n k src none) r=(yal G src r).bind fun xs=>(yas k xs).bind fun qc=>
   (ya4 (fun x=>(bnd n x r).bind fun r'=>(evE G elt r').map some) qc).map .lst:=by
 rw[zi3];simp only[evO,xbs]
theorem zet{enc:α->T}{f:T->a7 (a7 T)}(g:α->T){l:List α}(h:∀a∈l,f (enc a)=some (some (g a))):ya4 f (l.map enc)=some (l.map g):=by rw[zeu (fun a=>some (g a)) h,zny]
theorem eqs(a b:Str):eqC (.str a) (.str b)=some (.bl (a==b)):=rfl
theorem zv5{α β:Type}(c:α->Bool)(f:α->β):∀l:List α,(l.filterMap fun a=>if c a=true then some (f a)else none)=(l.filter c).map f
 |[]=>rfl
 |a::l=>by rw[zyv,ub0,zv5 c f l];cases c a<;>rfl
theorem zba{G:Glo}{elt cond:E}{src:List E}{r:Env}{n:Nat}{enc:α->T}{R:List α}(c:α->Bool)(f:α->T){xs:List T}(h1:yal G src r=some xs)(h2:yas .plain xs=some (R.map enc))(hb:∀a∈R,∃r',bnd n (enc a) r=some r'/\evE G cond r'=some (.bl (c a))/\(c a=true->evE G elt r'=some (f a))):evE G (.comp elt n .plain src (some cond)) r=some (.lst ((R.filter c).map f)):=by
 rw[zi3,h1,zxv,h2,zxv,zeu (enc:=enc) (fun a=>if c a=true then some (f a)else none) fun a ha=>by
  obtain⟨r',e1,e2,e3⟩:=hb a ha;rw[e1,zxv,evO,e2,Option.map_some,zxv];cases hc:c a with
  |true=>rw[if_pos rfl];simp only[e3 hc,xms]
  |false=>rfl]
 rw[zv5];rfl
def st0(ts:List T)(n:Nat):List Sl:=ts.map .val++List.replicate n .no
def W(G:Glo)(ss:List S)(τ:List Sl)(Q:Out->Prop):Prop:=∃o,yav G ss τ=some o/\Q o
def Kn(G:Glo)(ss:List S)(Q:Out->Prop):Out->Prop
 |.nx τ=>W G ss τ Q
 |o=>Q o
variable {G:Glo}{ss a b:List S}{s:S}{τ τ':List Sl}{Q:Out->Prop}{o:Out}{t u v:T}{ts us:List T}{i j n:Nat}{e c x y z:E}{es:List E}{ρ:Env}{p q:Bool}
theorem w_s(h:evS G s τ=some o)(k:Kn G ss Q o):W G (s::ss) τ Q:=by
 cases o with
 |nx τ'=>obtain⟨o,h1,h2⟩:=k;exact⟨o,(zxb h).trans h1,h2⟩
 |rt t=>exact⟨_,zwz h,k⟩
 |rs x n=>exact⟨_,by rw[yav,h];rfl,k⟩
theorem zaf(h:Q (.nx τ)):W G [] τ Q:=⟨_,by rw[yav],h⟩
def ya2:List Nat->List Sl->List Sl->List Sl
 |i::is,s::ss,τ=>ya2 is ss (τ.set i s)
 |_,_,τ=>τ
theorem w_nz(k:W G ss τ' Q)(h2:τ=τ':=by(try dsimp only[st0,frzAt,ya2,ybs,yat,List.modify_zero_cons,List.modify_succ_cons,xsz,xss,List.cons_append,List.nil_append,yau,fresh,Sl.frz,List.map,List.replicate_succ,List.replicate_zero]);first|done|exact rfl):W G ss τ Q:=h2▸k
theorem rf_a{α:Sort u}{a b:α}(h:a=b:=by rfl):a=b:=h
theorem dc_a{p:Prop}(h:p:=by decide):p:=h
theorem zad(h:evE G e (fv τ)=some t)(k:W G ss τ' Q)(js:List Nat:=[])(h0:autoParam (frzAt (yab e) τ=frzAt js τ) rf_a._auto_1)(h2:autoParam ((frzAt js τ).set i (yau e t)=τ') w_nz._auto_1):W G (.asg i e::ss) τ Q :=
 w_s (o:=.nx τ') (by rw[evS,ydl h,<-h2,<-h0];rfl) k
theorem zah(h:evE G e (fv τ)=some t)(k:Q (.rt t)):W G (.ret e::ss) τ Q:=w_s (o:=.rt t) (by rw[evS,ydl h];rfl) k
theorem zfh(h:evE G e (fv τ)=some t)(h2:τ[i]?=some (.own ts))(h3:ts.length<SZ)(k:W G ss τ' Q)(js:List Nat:=[])(h0:autoParam (frzAt (yab e) τ=frzAt js τ) rf_a._auto_1)(h1:autoParam ((frzAt js τ)[i]?=τ[i]?) rf_a._auto_1)(h4:autoParam ((frzAt js τ).set i (.own (ts++[t]))=τ') w_nz._auto_1):W G (.app i e::ss) τ Q :=
 w_s (o:=.nx τ') (by rw[evS,ydl h,Option.bind_some,h0,h1,h2];dsimp only;rw[if_pos h3,h4]) k
theorem zqx(h:evE G c (fv τ)=some (.bl q))(k:q=true->W G a τ (Kn G ss Q))(k':q=false->W G b τ (Kn G ss Q)):W G (.ite c a b::ss) τ Q:=by
 cases q with
 |true=>obtain⟨o,h1,h2⟩:=k rfl;exact w_s (by rw[evS,ydl h];exact h1) h2
 |false=>obtain⟨o,h1,h2⟩:=k' rfl;exact w_s (by rw[evS,ydl h];exact h1) h2
theorem yay(h:evE G c (fv τ)=some (.bl q))(k:q=true->W G a τ (Kn G ss Q))(k':q=false->W G ss τ Q):W G (.ite c a []::ss) τ Q:=zqx h k fun h=>zaf (k' h)
theorem zdx(h:evE G c (fv τ)=some (.bl true))(k:W G a τ (Kn G ss Q)):W G (.ite c a b::ss) τ Q:=zqx h (fun _=>k) fun h=>by cases h
theorem za4(h:evE G c (fv τ)=some (.bl false))(k:W G ss τ Q):W G (.ite c a []::ss) τ Q:=yay h (fun h=>by cases h) fun _=>k
theorem zww(ix:List Nat)(J:List Sl->Prop)(h:W G [s] τ fun o=>∃zs,o=.nx (ya2 ix zs τ)/\J zs)(k:∀zs,J zs->W G ss (ya2 ix zs τ) Q):W G (s::ss) τ Q:=by
 obtain⟨o,h1,zs,rfl,hj⟩:=h;rw[yav]at h1;obtain⟨o,e,h2⟩:=obs h1;cases o with
 |nx τ1=>change yav G [] τ1=_ at h2;rw[yav]at h2;cases h2;exact w_s (o:=.nx _) e (k zs hj)
 |_=>cases h2
theorem zj8(ix:List Nat)(I:Nat->List Sl->Prop)(n:Nat)(zs:List Sl)(hn:n<1000)(h0:ya2 ix zs τ=τ)(h1:I n zs)(hs:∀k zs,I k zs->∃q,evE G c (fv (ya2 ix zs τ))=some (.bl q)/\(q=true->W G b (ya2 ix zs τ) fun o=>∃j zs,o=.nx (ya2 ix zs τ)/\j<k/\I j zs)/\(q=false->W G ss (ya2 ix zs τ) Q)):W G (.wloop c b::ss) τ Q:=by
 have aux:∀N k zs,k<N->I k zs->∃zs',ybg (fun τ=>yav G b τ) (fun τ=>evE G c (ygg (frzAt (yab c) τ))) N (ya2 ix zs τ)=some (.nx (ya2 ix zs' τ))/\W G ss (ya2 ix zs' τ) Q:=by
  intro N
  induction N with
  |zero=>intro k _ hk;lia
  |succ N ih=>
   intro k zs hk hI;obtain⟨q,e,ht,hf⟩:=hs k zs hI;rw[ybg,ydl e,zxv];cases q with
   |false=>exact⟨zs,rfl,hf rfl⟩
   |true=>obtain⟨o,h1,j,zs',rfl,hj,hI'⟩:=ht rfl;obtain⟨zs2,h2,h3⟩:=ih j zs' (by lia) hI';exact⟨zs2,by dsimp only;rw[h1];exact h2,h3⟩
 obtain⟨zs',e,k⟩:=aux 1000 n zs hn h1;rw[h0]at e;exact w_s (o:=.nx _) (by rw[evS];exact e) k
theorem zji{f:Str}(hf:P.fn f=some D)(h:W (glo P n) D.body (st0 ts i) Q)(hl:autoParam (ts.length=D.np) rf_a._auto_1)(hk:autoParam (D.ns-ts.length=i) rf_a._auto_1):∃o,Q o/\∀t,o=.rt t->run P (n+1) f ts=some t:=by obtain⟨o,h1,h2⟩:=h;subst hk;refine⟨o,h2,fun t e=>?_⟩;rw[run,hf,zxv,if_pos hl];exact zx2 zbb (h1.trans (zx2 some e))
theorem zcn{enc:α->T}{k:Ik}{τ0:List Sl}(ix:List Nat)(l:List α)(I:List α->List Sl->Prop)(zs:List Sl)(h:yal G es (fv τ)=some ts)(h2:items k ts=some (l.map enc))(h0:ya2 ix zs τ0=τ0)(h1:I [] zs)(hs:∀l1 x l2,l=l1++x::l2->∀zs,I l1 zs->∃τ',ybs is (enc x) (ya2 ix zs τ0)=some τ'/\W G b τ' fun o=>(∃t,o=.rt t/\Q o)\/∃zs,o=.nx (ya2 ix zs τ0)/\I (l1++[x]) zs)(hk:∀zs,I l zs->W G ss (ya2 ix zs τ0) Q)(js:List Nat:=[])(h4:autoParam (frzAt (yah es) τ=frzAt js τ) rf_a._auto_1)(h3:autoParam (frzAt js τ=τ0) w_nz._auto_1):W G (.loop is k es b::ss) τ Q:=by
 rw[<-h4]at h3;subst h3;have aux:∀l2 l1,l=l1++l2->∀zs,I l1 zs->∃o,ybk (fun x τ=>(ybs is x τ).bind fun τ'=>yav G b τ') (l2.map enc) (ya2 ix zs (frzAt (yah es) τ))=some o/\Kn G ss Q o:=by
  intro l2
  induction l2 with
  |nil=>intro l1 e zs hI;exact⟨_,rfl,hk zs (by rw[e,zy0];exact hI)⟩
  |cons x l2 ih=>
   intro l1 e zs hI;obtain⟨τ1,b1,o,b2,b3⟩:=hs l1 x l2 e zs hI;rw[zxz,ybk,b1,zxv,b2,zxv];rcases b3 with⟨t,rfl,hq⟩|⟨zs',rfl,hI'⟩
   .exact⟨_,rfl,hq⟩
   .exact ih (l1++[x]) (by rw[e,zyz];rfl) zs' hI'
 obtain⟨o,e,k⟩:=aux l [] rfl zs h1;rw[h0]at e;exact w_s (by rw[evS,zmz h,zxv,h2];exact e) k
theorem zbd{enc:α->T}{k:Ik}{τ0:List Sl}(ix:List Nat)(l:List α)(I:List α->List Sl->Prop)(zs:List Sl)(h:yal G es (fv τ)=some ts)(h2:items k ts=some (l.map enc))(h0:ya2 ix zs τ0=τ0)(h1:I [] zs)(hs:∀l1 x l2,l=l1++x::l2->∀zs,I l1 zs->∃τ',ybs is (enc x) (ya2 ix zs τ0)=some τ'/\W G b τ' fun o=>∃zs,o=.nx (ya2 ix zs τ0)/\I (l1++[x]) zs)(hk:∀zs,I l zs->W G ss (ya2 ix zs τ0) Q)(js:List Nat:=[])(h4:autoParam (frzAt (yah es) τ=frzAt js τ) rf_a._auto_1)(h3:autoParam (frzAt js τ=τ0) w_nz._auto_1):W G (.loop is k es b::ss) τ Q :=
 zcn ix l I zs h h2 h0 h1 (fun l1 x l2 e zs hI=>let⟨τ',e1,o,e2,e3⟩:=hs l1 x l2 e zs hI;⟨τ',e1,o,e2,.inr e3⟩) hk js h4 h3
theorem zps(h:τ[i]?=some (.own (ts++[t])))(hj:i≠j)(k:W G ss τ' Q)(h2:autoParam ((τ.set i (.own ts)).set j (.val t)=τ') w_nz._auto_1):W G (.lpop j i::ss) τ Q :=
 w_s (o:=.nx τ') (by rw[evS,h];simp[hj,h2]) k
theorem zka(k:W G ss τ' Q)(h2:autoParam (τ.set i (.dic [] [])=τ') w_nz._auto_1):W G (.dnew i::ss) τ Q:=w_s (o:=.nx τ') (by rw[evS,h2]) k
theorem zqw{s':Sl}(h:evE G y (fv τ)=some u)(h':evE G x (fv τ)=some t)(h3:yek τ[i]? t u=some s')(k:W G ss τ' Q)(js:List Nat:=[])(h0:autoParam (frzAt (yab y++yab x) τ=frzAt js τ) rf_a._auto_1)(h1:autoParam ((frzAt js τ)[i]?=τ[i]?) rf_a._auto_1)(h4:autoParam ((frzAt js τ).set i s'=τ') w_nz._auto_1):W G (.put i x y::ss) τ Q :=
 w_s (o:=.nx τ') (by rw[evS,(zan G y (zfw _ τ).l).trans h,zxv,(zan G x (zfw _ τ).r).trans h',zxv,h0,h1,h3,<-h4];rfl) k
theorem w_nw(h:evE G e (fv τ)=some (.lst ts))(k:W G ss τ' Q)(js:List Nat:=[])(h0:autoParam (frzAt (yab e) τ=frzAt js τ) rf_a._auto_1)(h2:autoParam ((frzAt js τ).set i (.own ts)=τ') w_nz._auto_1):W G (.nw i e::ss) τ Q :=
 w_s (o:=.nx τ') (by rw[evS,ydl h,<-h2,<-h0];rfl) k
theorem zab(h:G.call f ts=some t)(k:yal G es ρ=some ts):evE G (.call f es) ρ=some t:=by rw[evE,k];exact h
theorem yaa(h:evE G e ρ=some t)(k:yal G es ρ=some ts):yal G (e::es) ρ=some (t::ts):=by rw[yal,h,k];rfl
theorem zak{o:Bo}(h:evE G x ρ=some u)(k:evE G y ρ=some v)(l:yc5 o u v=some t):evE G (.bin o x y) ρ=some t:=by rw[evE,h,k];exact l
theorem zag{o:Co}(h:evE G x ρ=some u)(k:evE G y ρ=some v)(l:yaw o u v=some t):evE G (.cmp o x y) ρ=some t:=by rw[evE,h,k];exact l
theorem zae(h:evE G x ρ=some u)(k:evE G y ρ=some v)(l:ya6 u v=some t):evE G (.idx x y) ρ=some t:=by rw[evE,h,k];exact l
theorem za1{o:Bn}(h:evE G x ρ=some u)(l:yb2 o u=some t):evE G (.blt o x) ρ=some t:=by rw[evE,h];exact l
theorem zhe(h:yal G es ρ=some ts)(l:autoParam (es.length<=1000) dc_a._auto_1):evE G (.lst es) ρ=some (.lst ts):=by rw[evE,if_pos l,h];rfl
theorem zau(h:yal G es ρ=some ts)(l:autoParam (es.length<=1000) dc_a._auto_1):evE G (.tup es) ρ=some (.tup ts):=by rw[evE,if_pos l,h];rfl
theorem zgn(h:evE G x ρ=some (.bl p))(k:p=false->evE G y ρ=some (.bl q)):evE G (.lor x y) ρ=some (.bl (p||q)):=by
 rw[evE,h];cases p with
 |true=>rfl
 |false=>exact k rfl
theorem zaq(h:evE G x ρ=some (.bl p))(k:p=true->evE G y ρ=some (.bl q)):evE G (.land x y) ρ=some (.bl (p&&q)):=by
 rw[evE,h];cases p with
 |true=>exact k rfl
 |false=>rfl
theorem ye0(h:ts.length+us.length<=SZ):yc5 .add (.lst ts) (.lst us)=some (.lst (ts++us)):=if_pos h
theorem zgm{o:Mt}(h:evE G x ρ=some u)(k:evE G y ρ=some v)(l:yb7 o u v=some t):evE G (.mth o x y) ρ=some t:=by rw[evE,h,k];exact l
theorem yen(h:ts.length+us.length<=SZ):yc5 .add (.tup ts) (.tup us)=some (.tup (ts++us)):=if_pos h
theorem sw{x w:Str}(e:(x==w)=q):yaw .eq (.str x) (.str w)=some (.bl q):=by rw[yaw,eqs,e]
theorem zb1{enc:α->T}{R:List α}(g:α->T)(h1:yal G es ρ=some ts)(h2:yas .plain ts=some (R.map enc))(hb:∀a∈R,evE G e (some (enc a)::ρ)=some (g a)):evE G (.comp e 1 .plain es none) ρ=some (.lst (R.map g)):=by rw[zek,h1,zxv,h2,zxv,zet (enc:=enc) g fun a ha=>by rw[show bnd 1 (enc a) ρ=some (some (enc a)::ρ)from rfl,zxv,hb a ha];rfl];rfl
theorem zs9{enc:α->T}{R:List α}{k:Ik}(g:α->T)(h1:yal G es ρ=some ts)(h2:yas k ts=some (R.map enc))(hb:∀a∈R,∃ρ',bnd n (enc a) ρ=some ρ'/\evE G e ρ'=some (g a)):evE G (.comp e n k es none) ρ=some (.lst (R.map g)):=by rw[zek,h1,zxv,h2,zxv,zet (enc:=enc) g fun a ha=>by obtain⟨ρ',e1,e2⟩:=hb a ha;rw[e1,zxv,e2];rfl];rfl
theorem yes{f:Str}{Q':T->Prop}(hf:P.fn f=some D)(h:W (glo P n) D.body (st0 ts i) Q)(k:∀o,Q o->∃t,o=.rt t/\Q' t)(hl:autoParam (ts.length=D.np) rf_a._auto_1)(hk:autoParam (D.ns-ts.length=i) rf_a._auto_1):∃t,run P (n+1) f ts=some t/\Q' t:=by obtain⟨o,h1,h2⟩:=zji hf h hl hk;obtain⟨t,e,h3⟩:=k o h1;exact⟨t,h2 t e,h3⟩
theorem yct(enc:α->T){f:Str}{Q':α->Prop}(hf:P.fn f=some D)(h:W (glo P n) D.body (st0 ts i) fun o=>∃a,o=.rt (enc a)/\Q' a)(hl:autoParam (ts.length=D.np) rf_a._auto_1)(hk:autoParam (D.ns-ts.length=i) rf_a._auto_1):∃a,run P (n+1) f ts=some (enc a)/\Q' a:=by obtain⟨o,⟨a,e,h1⟩,h2⟩:=zji hf h hl hk;exact⟨a,h2 _ e,h1⟩
theorem w_1(enc:α->T){f:Str}(hf:P.fn f=some D)(h:W (glo P n) D.body (st0 ts i) fun o=>∃a,o=.rt (enc a))(hl:autoParam (ts.length=D.np) rf_a._auto_1)(hk:autoParam (D.ns-ts.length=i) rf_a._auto_1):∃a,run P (n+1) f ts=some (enc a):=by obtain⟨o,⟨a,e⟩,h2⟩:=zji hf h hl hk;exact⟨a,h2 _ e⟩
theorem ybr{f:Str}(hf:P.fn f=some D)(h:W (glo P n) D.body (st0 ts i) fun o=>o=.rt t)(hl:autoParam (ts.length=D.np) rf_a._auto_1)(hk:autoParam (D.ns-ts.length=i) rf_a._auto_1):run P (n+1) f ts=some t:=by obtain⟨o,rfl,h2⟩:=zji hf h hl hk;exact h2 t rfl
theorem zam{a n:Int}(h:0<n):yc5 .mod (.int a) (.int n)=some (.int (a%n)):=if_pos h
theorem zhc{a b:Int}(h:ybu a=true):yc5 .mul (.int a) (.int b)=some (.int (a*b)):=if_pos (by rw[h];rfl)
theorem zvf{a b:Int}(h:ybu b=true):yc5 .mul (.int a) (.int b)=some (.int (a*b)):=if_pos (by rw[h,Bool.or_true])
theorem zaw{l:List T}(h:l.length<=SZ):yas .plain [.tup l]=some l:=if_pos h
theorem zec{l:List T}(h:l.length<=SZ):yas .plain [.lst l]=some l:=if_pos h
theorem zaj(l:List T):items .plain [.tup l]=some l:=rfl
theorem zav(l:List T):items .plain [.lst l]=some l:=rfl
theorem zar:100000<SZ:=by decide
theorem zes{β:Type}{enc:α->T}{dec:β->T}{R:List α}{k:Ik}(q:α->β->Prop)(h1:yal G es ρ=some ts)(h2:yas k ts=some (R.map enc))(hb:∀a∈R,∃b ρ',bnd n (enc a) ρ=some ρ'/\evE G e ρ'=some (dec b)/\q a b):∃M:List (α×β),evE G (.comp e n k es none) ρ=some (.lst (M.map fun p=>dec p.2))/\M.map (·.1)=R/\∀p∈M,q p.1 p.2:=by
 rw[zek,h1,zxv,h2,zxv];clear h1 h2
 suffices w:∃M:List (α×β),ya4 (fun x=>(bnd n x ρ).bind fun r'=>(evE G e r').map some) (R.map enc)=some (M.map fun p=>dec p.2)/\M.map (·.1)=R/\∀p∈M,q p.1 p.2 by obtain⟨M,e,h⟩:=w;exact⟨M,by rw[e];rfl,h⟩
 induction R with
 |nil=>exact⟨[],rfl,rfl,fun p h=>nomatch h⟩
 |cons a R ih=>
  obtain⟨b,ρ',e1,e2,e3⟩:=hb a (.head _);obtain⟨M,e4,e5,e6⟩:=ih fun x hx=>hb x (.tail _ hx);refine⟨(a,b)::M,?_,by rw[<-e5];rfl,fun p hp=>?_⟩
  .rw[zxz,ya4,e1,zxv,e2,Option.map_some,zxv,e4];rfl
  .rcases omc hp with rfl|hp
   .exact e3
   .exact e6 p hp
end
noncomputable def ya8:Fd:=⟨3,4,[.asg 3 (.comp (.idx (.var 0) (.cst (.int 0))) 1 .plain [.idx (.var 0) (.cst (.int 1))] none),
  .ret (.blt .toTuple (.comp (.idx (.var 2) (.mth .index (.var 4) (.var 0))) 1 .plain [.var 2] none))]⟩
noncomputable def zbi:Fd:=⟨2,2,[.ite (.cmp .lt (.var 1) (.blt .len (.var 0))) [.ret (.idx (.var 0) (.var 1))] [],
  .ret (.cst (.int 0))]⟩
noncomputable def zcu:Fd:=⟨2,3,[.asg 2 (.bin .mod (.bin .mul (.bin .add (.bin .add (.call "_law_cell_at" [.var 0,.var 1]) (.bin .mul (.cst (.int 7919)) (.var 1))) (.cst (.int 1))) (.cst (.int 48271))) (.cst (.int 2147483647))),
  .ret (.bin .mod (.bin .add (.bin .add (.bin .mul (.var 2) (.var 2)) (.bin .mul (.cst (.int 7)) (.var 2))) (.var 1)) (.cst (.int 2147483629)))]⟩
noncomputable def za8:Fd:=⟨2,3,[.asg 2 (.bin .mod (.bin .mul (.bin .add (.bin .add (.var 0) (.bin .mul (.cst (.int 104729)) (.var 1))) (.cst (.int 17))) (.cst (.int 69621))) (.cst (.int 2147483647))),
  .ret (.bin .mod (.bin .add (.bin .add (.bin .mul (.var 2) (.var 2)) (.bin .mul (.cst (.int 3)) (.var 2))) (.var 1)) (.cst (.int 2147483629)))]⟩
noncomputable def za7:Fd:=⟨1,1,[.ret (.comp (.idx (.var 0) (.cst (.int 0))) 1 .plain [.idx (.var 0) (.cst (.int 1))] none)]⟩
noncomputable def zcs:Fd:=⟨2,2,[.ret (.idx (.comp (.var 0) 1 .plain [.var 0] (some (.cmp .eq (.idx (.var 0) (.cst (.int 0))) (.var 2)))) (.cst (.int 0)))]⟩
noncomputable def zeq:Fd:=⟨2,2,[.ret (.blt .toTuple (.comp (.idx (.var 2) (.mth .index (.call "_law_names" [.var 1]) (.var 0))) 1 .plain [.idx (.var 0) (.cst (.int 2))] none))]⟩
noncomputable def zci:Fd:=⟨3,4,[.asg 3 (.blt .toTuple (.comp (.idx (.var 2) (.mth .index (.call "_law_names" [.var 1]) (.var 0))) 1 .plain [.var 2] none)),
  .ret (.idx (.lst [.var 3,.cst .non]) (.blt .toInt (.cmp .isin (.cst .non) (.var 3))))]⟩
noncomputable def zdi:Fd:=⟨3,3,[.ret (.idx (.var 1) (.mth .index (.comp (.idx (.var 0) (.cst (.int 0))) 1 .plain [.var 0] none) (.var 2)))]⟩
noncomputable def zbk:Fd:=⟨3,9,[.asg 3 (.idx (.var 0) (.cst (.int 1))),
  .asg 4 (.idx (.var 3) (.bin .mod (.bin .fdiv (.var 1) (.cst (.int 8))) (.blt .len (.var 3)))),
  .asg 5 (.bin .mod (.var 1) (.cst (.int 8))),
  .ite (.land (.cmp .gt (.var 2) (.cst (.int 1))) (.cmp .gt (.var 5) (.cst (.int 4)))) [.asg 6 (.comp (.call "_law_test" [.var 1,.bin .fdiv (.call "_law_drawn" [.var 2,.var 0]) (.cst (.int 4)),.bin .sub (.var 3) (.cst (.int 1))]) 1 .plain [.tup [.cst (.int 1),.cst (.int 2)]] none),
  .ret (.idx (.lst [.tup [.cst (.str "not"),.idx (.var 6) (.cst (.int 0))],.tup [.cst (.str "and"),.idx (.var 6) (.cst (.int 0)),.idx (.var 6) (.cst (.int 1))],.tup [.cst (.str "or"),.idx (.var 6) (.cst (.int 0)),.idx (.var 6) (.cst (.int 1))]]) (.bin .sub (.var 5) (.cst (.int 5))))] [],
  .ite (.cmp .eq (.var 5) (.cst (.int 0))) [.ret (.tup [.cst (.str "empty"),.idx (.var 4) (.cst (.int 0))])] [],
  .asg 7 (.comp (.idx (.var 0) (.cst (.int 0))) 1 .plain [.var 3] (some (.cmp .eq (.idx (.var 0) (.cst (.int 1))) (.idx (.var 5) (.cst (.int 1)))))),
  .ite (.cmp .eq (.var 5) (.cst (.int 1))) [.ret (.tup [.cst (.str "below"),.idx (.var 4) (.cst (.int 0)),.idx (.var 7) (.bin .mod (.bin .fdiv (.var 1) (.cst (.int 64))) (.blt .len (.var 7)))])] [],
  .asg 8 (.idx (.lst [.tup [.cst (.int 0),.cst (.int 1),.cst (.int 2),.cst (.int 3),.neg (.cst (.int 5)),.cst (.int 999)],.tup [.cst (.str ""),.cst (.str "a"),.cst (.str "b"),.cst (.str "ab"),.cst (.str "x9"),.cst (.str "zzzzzz")]]) (.blt .toInt (.cmp .eq (.idx (.var 4) (.cst (.int 1))) (.cst (.str "text"))))),
  .ret (.tup [.cst (.str "is"),.idx (.var 4) (.cst (.int 0)),.idx (.var 8) (.bin .mod (.bin .fdiv (.var 1) (.cst (.int 64))) (.cst (.int 6)))])]⟩
noncomputable def zb0:Fd:=⟨2,10,[.asg 2 (.tup [.cst (.str "whole"),.cst (.str "whole"),.cst (.str "text"),.cst (.str "whole"),.cst (.str "text"),.cst (.str "whole")]),
  .asg 3 (.lst [.tup [.cst (.str "id"),.idx (.var 2) (.bin .mod (.var 1) (.cst (.int 6))),.cst (.bl false)]]),
  .loop [4,5] .enum [.tup [.cst (.str "n"),.cst (.str "t"),.cst (.str "u")]] [.asg 6 (.bin .fdiv (.call "_law_drawn" [.var 1,.bin .add (.cst (.int 10)) (.var 4)]) (.cst (.int 4))),
  .ite (.cmp .gt (.bin .mod (.var 6) (.cst (.int 4))) (.cst (.int 0))) [.app 3 (.tup [.var 5,.idx (.var 2) (.bin .mod (.bin .fdiv (.var 6) (.cst (.int 4))) (.cst (.int 6))),.cmp .gt (.bin .mod (.bin .fdiv (.var 6) (.cst (.int 32))) (.cst (.int 3))) (.cst (.int 0))])] []],
  .asg 7 (.comp (.idx (.var 0) (.cst (.int 0))) 1 .plain [.var 3] (some (.lnot (.tru (.idx (.var 0) (.cst (.int 2))))))),
  .asg 8 (.tup [.cst (.str "id")]),
  .ite (.land (.cmp .eq (.bin .mod (.bin .fdiv (.var 1) (.cst (.int 8))) (.cst (.int 4))) (.cst (.int 0))) (.cmp .gt (.blt .len (.var 7)) (.cst (.int 1)))) [.asg 8 (.idx (.lst [.tup [.cst (.str "id"),.idx (.var 7) (.cst (.int 1))],.tup [.idx (.var 7) (.cst (.int 1)),.cst (.str "id")]]) (.bin .mod (.bin .fdiv (.var 1) (.cst (.int 32))) (.cst (.int 2))))] [],
  .asg 9 (.bin .mod (.bin .fdiv (.var 1) (.cst (.int 64))) (.blt .len (.var 3))),
  .ret (.tup [.var 0,.blt .toTuple (.bin .add (.sli (.var 3) (some (.var 9)) none) (.sli (.var 3) none (some (.var 9)))),.var 8,.tup []])]⟩
noncomputable def zb5:Fd:=⟨2,6,[.asg 2 (.lst [.tup []]),
  .loop [3] .plain [.var 1] [.asg 4 (.lst []),
  .loop [5] .plain [.var 2] [.asg 4 (.bin .add (.var 4) (.comp (.bin .add (.var 6) (.tup [.idx (.var 0) (.cst (.int 0))])) 1 .plain [.idx (.var 0) (.cst (.int 1))] (some (.land (.cmp .eq (.idx (.var 0) (.cst (.int 1))) (.var 4)) (.cmp .notin (.idx (.var 0) (.cst (.int 0))) (.var 6))))))],
  .asg 2 (.var 4)],
  .ret (.var 2)]⟩
noncomputable def zcm:Fd:=⟨3,11,[.asg 3 (.idx (.var 0) (.bin .mod (.bin .fdiv (.var 2) (.cst (.int 8))) (.blt .len (.var 0)))),
  .asg 4 (.comp (.idx (.comp (.idx (.var 0) (.cst (.int 1))) 1 .plain [.idx (.var 4) (.cst (.int 1))] (some (.cmp .eq (.idx (.var 0) (.cst (.int 0))) (.var 1)))) (.cst (.int 0))) 1 .plain [.idx (.var 3) (.cst (.int 2))] none),
  .asg 5 (.call "_law_pairs" [.var 1,.var 4]),
  .ite (.land (.cmp .lt (.bin .mod (.var 2) (.cst (.int 8))) (.cst (.int 5))) (.cmp .ne (.var 5) (.lst []))) [.asg 6 (.idx (.var 5) (.bin .mod (.bin .fdiv (.var 2) (.cst (.int 64))) (.blt .len (.var 5)))),
  .asg 7 (.idx (.tup [.cst (.str "along"),.cst (.str "stop"),.cst (.str "late"),.cst (.str "gap"),.cst (.str "along"),.cst (.str "gap")]) (.bin .mod (.bin .fdiv (.var 2) (.cst (.int 1024))) (.cst (.int 6)))),
  .asg 8 (.comp (.var 0) 1 .plain [.idx (.var 1) (.cst (.int 1))] (some (.land (.cmp .isin (.idx (.var 0) (.cst (.int 0))) (.var 7)) (.lnot (.tru (.idx (.var 0) (.cst (.int 2)))))))),
  .ite (.land (.cmp .ne (.var 8) (.lst [])) (.cmp .eq (.var 7) (.cst (.str "gap")))) [.asg 7 (.cst (.str "late"))] [],
  .ret (.tup [.cst (.str "refers"),.var 6,.idx (.var 3) (.cst (.int 0)),.var 7])] [],
  .asg 9 (.comp (.idx (.var 0) (.cst (.int 0))) 1 .plain [.idx (.var 1) (.cst (.int 1))] none),
  .ite (.cmp .eq (.bin .mod (.var 2) (.cst (.int 8))) (.cst (.int 5))) [.asg 10 (.bin .mod (.bin .fdiv (.var 2) (.cst (.int 64))) (.blt .len (.var 9))),
  .ret (.tup [.cst (.str "unlike"),.sli (.bin .add (.sli (.var 9) (some (.var 10)) none) (.sli (.var 9) none (some (.var 10)))) none (some (.bin .add (.cst (.int 1)) (.bin .mod (.bin .fdiv (.var 2) (.cst (.int 1024))) (.cst (.int 2)))))])] [],
  .ret (.tup [.cst (.str "check"),.call "_law_test" [.var 1,.bin .fdiv (.var 2) (.cst (.int 64)),.bin .add (.cst (.int 1)) (.bin .mod (.bin .fdiv (.var 2) (.cst (.int 1024))) (.cst (.int 3)))]])]⟩
noncomputable def zbu:Fd:=⟨1,11,[.asg 1 (.lst [.cst (.str "item"),.cst (.str "user"),.cst (.str "box"),.cst (.str "log")]),
  .asg 2 (.bin .mod (.var 0) (.cst (.int 4))),
  .asg 1 (.sli (.bin .add (.sli (.var 1) (some (.var 2)) none) (.sli (.var 1) none (some (.var 2)))) none (some (.idx (.tup [.cst (.int 2),.cst (.int 1),.cst (.int 3),.cst (.int 4),.cst (.int 2),.cst (.int 3)]) (.bin .mod (.bin .fdiv (.var 0) (.cst (.int 4))) (.cst (.int 6)))))),
  .asg 4 (.comp (.call "_law_bare" [.var 1,.bin .fdiv (.call "_law_drawn" [.var 2,.var 0]) (.cst (.int 4))]) 2 .enum [.var 1] none),
  .asg 5 (.tup []),
  .loop [3,6] .enum [.var 4] [.asg 7 (.bin .fdiv (.call "_law_drawn" [.var 0,.bin .add (.cst (.int 20)) (.var 3)]) (.cst (.int 4))),
  .asg 8 (.lst []),
  .loop [9] .range [.idx (.tup [.cst (.int 1),.cst (.int 2),.cst (.int 0),.cst (.int 1),.cst (.int 3)]) (.bin .mod (.var 7) (.cst (.int 5)))] [.app 8 (.call "_law_rule" [.var 4,.var 6,.bin .fdiv (.call "_law_drawn" [.var 7,.var 9]) (.cst (.int 4))])],
  .asg 10 (.blt .toTuple (.comp (.bin .add (.tup [.idx (.var 0) (.cst (.int 0)),.blt .toTuple (.idx (.var 0) (.cst (.int 1)))]) (.sli (.var 0) (some (.cst (.int 2))) none)) 1 .plain [.var 8] none)),
  .asg 5 (.bin .add (.var 5) (.tup [.bin .add (.sli (.var 6) none (some (.cst (.int 3)))) (.tup [.var 10])]))],
  .ret (.var 5)]⟩
noncomputable def zb4:Fd:=⟨2,2,[.ite (.land (.tru (.idx (.var 0) (.cst (.int 2)))) (.cmp .eq (.bin .mod (.var 1) (.cst (.int 4))) (.cst (.int 0)))) [.ret (.cst .non)] [],
  .ite (.cmp .eq (.idx (.var 0) (.cst (.int 1))) (.cst (.str "text"))) [.ret (.idx (.lst [.cst (.str "a"),.cst (.str "b"),.cst (.str ""),.cst (.str "ab"),.cst (.str "a"),.cst (.str "x9")]) (.bin .mod (.bin .fdiv (.var 1) (.cst (.int 4))) (.cst (.int 6))))] [],
  .ret (.idx (.lst [.cst (.int 0),.cst (.int 1),.cst (.int 2),.cst (.int 3),.cst (.int 1),.cst (.int 2),.cst (.int 4),.neg (.cst (.int 5))]) (.bin .mod (.bin .fdiv (.var 1) (.cst (.int 4))) (.cst (.int 8))))]⟩
noncomputable def zen:Fd:=⟨2,2,[.ret (.blt .toTuple (.comp (.call "_law_worth" [.var 1,.bin .fdiv (.call "_law_drawn" [.var 3,.var 0]) (.cst (.int 4))]) 2 .enum [.idx (.var 0) (.cst (.int 1))] none))]⟩
noncomputable def zbp:Fd:=⟨3,6,[.asg 3 (.idx (.var 1) (.cst (.int 0))),
  .ite (.cmp .eq (.var 3) (.cst (.str "not"))) [.ret (.bin .sub (.cst (.int 2)) (.call "_law_level" [.var 0,.idx (.var 1) (.cst (.int 1)),.var 2]))] [],
  .ite (.cmp .eq (.var 3) (.cst (.str "and"))) [.ret (.blt .least (.comp (.call "_law_level" [.var 1,.var 0,.var 3]) 1 .plain [.sli (.var 1) (some (.cst (.int 1))) none] none))] [],
  .ite (.cmp .eq (.var 3) (.cst (.str "or"))) [.ret (.blt .most (.comp (.call "_law_level" [.var 1,.var 0,.var 3]) 1 .plain [.sli (.var 1) (some (.cst (.int 1))) none] none))] [],
  .asg 4 (.idx (.var 2) (.mth .index (.call "_law_names" [.var 0]) (.idx (.var 1) (.cst (.int 1))))),
  .ite (.cmp .eq (.var 3) (.cst (.str "empty"))) [.ret (.bin .mul (.cst (.int 2)) (.blt .toInt (.cmp .isN (.var 4) (.cst .non))))] [],
  .asg 5 (.idx (.var 1) (.cst (.int 2))),
  .ite (.cmp .eq (.var 3) (.cst (.str "below"))) [.asg 5 (.idx (.var 2) (.mth .index (.call "_law_names" [.var 0]) (.idx (.var 1) (.cst (.int 2)))))] [],
  .ite (.lor (.cmp .isN (.var 4) (.cst .non)) (.cmp .isN (.var 5) (.cst .non))) [.ret (.cst (.int 1))] [],
  .ret (.bin .mul (.cst (.int 2)) (.blt .toInt (.lor (.land (.cmp .eq (.var 3) (.cst (.str "is"))) (.cmp .eq (.var 4) (.var 5))) (.land (.cmp .eq (.var 3) (.cst (.str "below"))) (.cmp .lt (.var 4) (.var 5))))))]⟩
noncomputable def yan(a k:Int):Int:=((a+104729*k+17)*69621%2147483647*((a+104729*k+17)*69621%2147483647)+3*((a+104729*k+17)*69621%2147483647)+k)%2147483629
theorem zge(a:Int):ybu (a%2147483647)=true:=by have h0:=uc5 a (show(2147483647:Int)≠0 by decide);have h1:=uc0 a (show(0:Int)<2147483647 by decide);unfold ybu;rw[zx8 (by lia),zx8 (by lia)];rfl
theorem zbz(h:P.fn "_law_drawn"=some za8)(n:Nat)(a k:Int):run P (n+1) "_law_drawn" [.int a,.int k]=some (.int (yan a k)):=ybr (i:=1) h (by refine zad (zak (zak (zak (zak rfl (zak rfl rfl (zhc (by decide))) rfl) rfl rfl) rfl (zvf (by decide))) rfl (zam (by decide))) ?_;exact zah (zak (zak (zak (zak rfl rfl (zhc (zge _))) (zak rfl rfl (zhc (by decide))) rfl) rfl rfl) rfl (zam (by decide))) rfl)
theorem zpe{P:Pr}(h:P.fn "_law_cell_at"=some zbi)(n:Nat)(ns:List Int)(k:Nat):∃i:Int,run P (n+1) "_law_cell_at" [.lst (ns.map .int),.int (k:Int)]=some (.int i):=w_1 (i:=0) .int h (by refine yay (q:=decide ((k:Int)<((ns.map T.int).length:Int))) rfl (fun hk=>?_) fun _=>zah rfl ⟨0,rfl⟩;rw[zxt]at hk;have hk:=zyk hk;exact zah (zae rfl rfl (za6 (t:=.int (ns[k]'(by lia))) (by rw[zx0,zxu (by lia)];rfl))) ⟨_,rfl⟩)
theorem zly(hc:P.fn "_law_cell_at"=some zbi)(h:P.fn "_law_mixed"=some zcu)(n:Nat)(ns:List Int)(k:Nat):∃i:Int,run P (n+2) "_law_mixed" [.lst (ns.map .int),.int (k:Int)]=some (.int i):=by obtain⟨c,e⟩:=zpe hc n ns k;refine w_1 (i:=1) .int h ?_;refine zad (zak (zak (zak (zak (zab e rfl) (zak rfl rfl (zhc (by decide))) rfl) rfl rfl) rfl (zvf (by decide))) rfl (zam (by decide))) ?_;exact zah (zak (zak (zak (zak rfl rfl (zhc (zge _))) (zak rfl rfl (zhc (by decide))) rfl) rfl rfl) rfl (zam (by decide))) ⟨_,rfl⟩
theorem zbg{α:Type}(enc:α->T)(cs:List α)(h:cs≠[])(i:Int){m:Int}(hm:m=(cs.length:Int)):∃c∈cs,yb3 (cs.map enc) (i%m)=some (enc c):=hm▸ziz h i
section
variable {G:Glo}{ρ:Env}
structure Col where
 n:Str
 k:Str
 g:Bool
noncomputable def Col.t(c:Col):T:=.tup [.str c.n,.str c.k,.bl c.g]
noncomputable def ych(nm:Str)(cs:List Col)(key:List Str)(rules:List T):T:=.tup [.str nm,.tup (cs.map Col.t),.tup (key.map .str),.tup rules]
structure CsOk(cs:List Col)(key:List Str):Prop where
 cl:cs.length<=4
 cn:cs≠[]
 nd:(cs.map (·.n)).Nodup
 k1:key.length<=2
 kn:key≠[]
 kg:∀x∈key,∃c∈cs,c.n=x/\c.g=false
theorem zjb(xs:List T)(b:Nat)(h:b<=xs.length):cut xs (some (b:Int)) none=xs.drop b:=by
 unfold cut yam;have e:min ((b:Int)).toNat xs.length=b:=by lia
 simp only[show ¬((b:Int)<0) by lia,if_false,e];rw[List.take_of_length_le];simp
theorem zgx(xs:List T)(j:Nat):cut xs none (some (j:Int))=xs.take j:=by
 unfold cut yam;simp only[show ¬((j:Int)<0) by lia,if_false,Int.toNat_natCast,Nat.sub_zero,List.drop_zero];by_cases h:j<=xs.length
 .rw[Nat.min_eq_left h]
 .rw[Nat.min_eq_right (by lia),List.take_of_length_le (by lia),List.take_of_length_le (by lia)]
def yc3{α:Type}(cs:List α)(b:Nat):List α:=cs.drop b++cs.take b
theorem zfk{α:Type}(cs:List α)(b:Nat):(yc3 cs b).Perm cs:=by
 have:=List.perm_append_comm (l₁:=cs.drop b) (l₂:=cs.take b)
 rwa[List.take_append_drop]at this
theorem zo4{e:E}{t:T}(h:evE G e ρ=some t):evO G (some e) ρ=some (some t):=by rw[evO,h];rfl
theorem zn1{x:E}{lo hi:a7 E}{t u:T}{l h:a7 T}{l' h':a7 Int}(e:evE G x ρ=some t)(e1:evO G lo ρ=some l)(e2:evO G hi ρ=some h)(k:yfy t l' h'=some u)(q1:asI l=some l':=by rfl)(q2:asI h=some h':=by rfl):evE G (.sli x lo hi) ρ=some u:=by rw[evE,e,e1,e2];simp only[xbs,q1,q2,k]
theorem zrd{x y:E}{α:Type}(enc:α->T)(cs:List α){b:Nat}(hx:evE G x ρ=some (.lst (cs.map enc)))(hy:evE G y ρ=some (.int (b:Int)))(hb:b<=cs.length)(hl:cs.length<=1000):evE G (.bin .add (.sli x (some y) none) (.sli x none (some y))) ρ=some (.lst ((yc3 cs b).map enc)):=by
 have:=zar;refine zak (u:=.lst ((cs.map enc).drop b)) (v:=.lst ((cs.map enc).take b)) ?_ ?_ ((ye0 (by simp;lia)).trans (by rw[yc3,List.map_append,List.map_drop,List.map_take]))
 .exact zn1 hx (l:=some (.int (b:Int))) (h:=none) (zo4 hy) rfl (zx2 (fun l=>some (T.lst l)) (zjb _ _ (by rw[zxt];exact hb)))
 .exact zn1 hx (l:=none) (h:=some (.int (b:Int))) rfl (zo4 hy) (zx2 (fun l=>some (T.lst l)) (zgx _ _))
theorem zd8(i:Int){n:Nat}(h:0<n):∃b:Nat,i%(n:Int)=(b:Int)/\b<n:=by have h1:=uc5 i (show(n:Int)≠0 by lia);have h2:=uc0 i (show 0<(n:Int) by lia);exact⟨(i%(n:Int)).toNat,by lia,by lia⟩
theorem zve:(["id", "n", "t", "u"]:List Str).Nodup:=by decide +kernel
theorem zwp(dr:∀a k,G.call "_law_drawn" [.int a,.int k]=some (.int (yan a k)))(nm:Str)(k:Int):W G zb0.body (st0 [.str nm,.int k] 8) fun o=>∃p:List Col×List Str,o=.rt (ych nm p.1 p.2 [])/\CsOk p.1 p.2:=by
 have hsz:=zar;have kd:=fun i=>zbg T.str ["whole", "whole", "text", "whole", "text", "whole"] (by simp) i (m:=6) rfl;obtain⟨k0,_,ek0⟩:=kd k;refine zad rfl ?_;refine zad (t:=.lst [Col.t ⟨"id",k0,false⟩]) (zhe (yaa (zau (yaa rfl (yaa (zae rfl (zak rfl rfl (zam (by decide))) ek0) (yaa rfl rfl)))) rfl)) ?_;refine zbd [3,4,5,6] (enc:=fun p:Int×Str=>T.tup [.int p.1,.str p.2]) [(0, "n"),(1, "t"),(2, "u")] (fun D zs=>∃(L:List T)(cs:List Col)(a b c:Sl),zs=[.own L,a,b,c]/\L=(⟨"id",k0,false⟩::cs).map Col.t/\(cs.map (·.n)).Sublist (D.map (·.2))) [.own [Col.t ⟨"id",k0,false⟩],.no,.no,.no] rfl rfl rfl ⟨_,[],_,_,_,rfl,rfl,.slnil⟩ (fun D p D2 e zs hI=>?_) fun zs hI=>?_
 .obtain⟨_,cs,a,b,c,rfl,rfl,hs⟩:=hI;obtain⟨kc,_,ekc⟩:=kd (yan k (10+p.1)/4/4);have hl:cs.length<=4:=by have h1:=hs.length_le;have h2:=zx2 List.length e;rw[zxt,zxt]at h1;simp at h2;lia
  refine⟨_,rfl,?_⟩;refine w_nz ?_;refine zad (zak (zab (dr k (10+p.1)) (yaa rfl (yaa rfl rfl))) rfl rfl) ?_;generalize yan k (10+p.1)/4=q at *;refine yay (q:=decide (0<q%4)) rfl (fun _=>?_) fun _=>zaf ⟨_,rfl,_,cs,_,_,_,rfl,rfl,by rw[zx7];exact hs.trans (List.sublist_append_left _ _)⟩;refine zfh (t:=Col.t ⟨p.2,kc,decide (0<q/32%3)⟩) (zau (yaa rfl (yaa (zae rfl (zak rfl rfl (zam (by decide))) ekc) (yaa rfl rfl)))) rfl (by simp;lia) ?_;exact zaf (zaf ⟨_,rfl,_,cs++[⟨p.2,kc,decide (0<q/32%3)⟩],_,_,_,rfl,by simp,by rw[List.map_append,List.map_append];exact hs.append (.refl _)⟩)
 .obtain⟨_,cs,a,b,c,rfl,rfl,hs⟩:=hI;have hC:(((⟨"id",k0,false⟩:Col)::cs).map (·.n)).Nodup:=by have h2:(("id":Str)::cs.map (·.n)).Sublist ["id", "n", "t", "u"]:=hs.cons₂ _;exact h2.nodup zve
  have hl:cs.length<=3:=by have:=hs.length_le;rwa[zxt]at this
  have hi:(⟨"id",k0,false⟩:Col)∈(⟨"id",k0,false⟩:Col)::cs:=.head _;have hCl:((⟨"id",k0,false⟩:Col)::cs).length<=4:=by rw[zya];lia
  have hCp:0<((⟨"id",k0,false⟩:Col)::cs).length:=Nat.succ_pos _;generalize(⟨"id",k0,false⟩:Col)::cs=C at *;refine w_nz ?_;refine zad (js:=[3]) (t:=.lst ((C.filter fun c=>!c.g).map fun c=>T.str c.n)) (zba (enc:=Col.t) (R:=C) (fun c=>!c.g) (fun c=>T.str c.n) rfl (zec (by rw[zxt];lia)) fun c _=>⟨_,rfl,rfl,fun _=>rfl⟩) ?_;refine zad (t:=.tup ([("id":Str)].map .str)) rfl ?_;have hpl:∀c∈C.filter fun c=>!c.g,c∈C/\c.g=false:=fun c hc=>by simpa using ub9.mp hc
  generalize C.filter (fun c=>!c.g)=pl at *;obtain⟨by_,eb,hb⟩:=zd8 (k/64) hCp;have fin:∀key:List Str,key.length<=2->key≠[]->(∀x∈key,∃c∈C,c.n=x/\c.g=false)->W G (zb0.body.drop 6) [.val (.str nm),.val (.int k),.val (.tup [.str "whole",.str "whole",.str "text",.str "whole",.str "text",.str "whole"]),.val (.lst (C.map Col.t)),a,b,c,.val (.lst (pl.map fun c=>T.str c.n)),.val (.tup (key.map .str)),.no] fun o=>∃p:List Col×List Str,o=.rt (ych nm p.1 p.2 [])/\CsOk p.1 p.2:=fun key h1 h2 h3=>by
   refine zad (t:=.int (by_:Int)) (zak rfl (za1 (t:=.int (C.length:Int)) rfl (zx2 (fun n:Nat=>some (T.int n)) (zxt _))) ((zam (by lia)).trans (by rw[eb]))) ?_;have rp:=zfk C by_;refine zah (zau (yaa rfl (yaa (za1 (zrd Col.t C rfl rfl (by lia) (by lia)) rfl) (yaa rfl (yaa rfl rfl))))) ⟨(yc3 C by_,key),rfl,by rw[rp.length_eq];exact hCl,fun z=>?_,(rp.map _).nodup_iff.mpr hC,h1,h2,fun x hx=>?_⟩
   .have z:yc3 C by_=[]:=z;have:=rp.length_eq;rw[z]at this;simp at this;lia
   .obtain⟨c,hc,e⟩:=h3 x hx;exact⟨c,rp.mem_iff.mpr hc,e⟩
  refine yay (q:=(k/8%4==0)&&decide ((1:Int)<((pl.map fun c=>T.str c.n).length:Int))) (zaq rfl fun _=>rfl) (fun q=>?_) fun _=>fin ["id"] (by simp) (by simp) fun x hx=>⟨_,hi,by rw[omg hx],rfl⟩;rw[zxw,zyn,zxt]at q;obtain⟨c1,h1⟩:∃c1,pl[1]?=some c1:=⟨_,zxu (by lia)⟩;have e1:yb3 (pl.map fun c=>T.str c.n) 1=some (.str c1.n):=za6 (k:=1) (by rw[zx0,h1];rfl);obtain⟨key,hk,ek⟩:=zbg (fun ks:List Str=>T.tup (ks.map .str)) [["id",c1.n],[c1.n, "id"]] (by simp) (k/32) (m:=2) rfl;refine zad (zae (zhe (yaa (zau (yaa rfl (yaa (zae rfl rfl e1) rfl))) (yaa (zau (yaa (zae rfl rfl e1) (yaa rfl rfl))) rfl))) (zak rfl rfl (zam (by decide))) ek) ?_;have hc1:=hpl c1 (zx4 h1);have all:∀x∈key,x="id"\/x=c1.n:=fun x hx=>by
   rcases omc hk with rfl|hk
   .simpa using hx
   .rw[omg hk]at hx;simpa[or_comm]using hx
  refine zaf (fin key ?_ (fun z=>?_) fun x hx=>?_)
  .rcases omc hk with rfl|hk
   .simp
   .rw[omg hk];simp
  .rcases omc hk with rfl|hk
   .simp at z
   .rw[omg hk]at z;simp at z
  .rcases all x hx with rfl|rfl
   .exact⟨_,hi,rfl,rfl⟩
   .exact⟨_,hc1.1,rfl,hc1.2⟩
end
inductive Tst where
 |emp (c:Str)|bel (a b:Str)|isV (c:Str) (v:T)|neg (t:Tst)|cnj (a b:Tst)|dsj (a b:Tst)
def Tst.t:Tst->T
 |.emp c=>.tup [.str "empty",.str c]
 |.bel a b=>.tup [.str "below",.str a,.str b]
 |.isV c v=>.tup [.str "is",.str c,v]
 |.neg t=>.tup [.str "not",t.t]
 |.cnj a b=>.tup [.str "and",a.t,b.t]
 |.dsj a b=>.tup [.str "or",a.t,b.t]
def Tst.ok(cs:List Col):Nat->Tst->Prop
 |0,_=>False
 |d+1,t=>(match t with
  |.emp c=>∃o∈cs,o.n=c
  |.bel a b=>∃o∈cs,∃p∈cs,o.n=a/\p.n=b/\o.k=p.k
  |.isV c v=>(∃o∈cs,o.n=c)/\ycu v=true
  |.neg t=>t.ok cs d
  |.cnj a b=>a.ok cs d/\b.ok cs d
  |.dsj a b=>a.ok cs d/\b.ok cs d)
theorem Tst.up{cs:List Col}:∀{d:Nat}{t:Tst},t.ok cs d->t.ok cs (d+1)
 |d+1,t,h=>by
  cases t with
  |neg t=>exact Tst.up (d:=d) (t:=t) h
  |cnj a b=>exact⟨Tst.up (d:=d) (t:=a) h.1,Tst.up (d:=d) (t:=b) h.2⟩
  |dsj a b=>exact⟨Tst.up (d:=d) (t:=a) h.1,Tst.up (d:=d) (t:=b) h.2⟩
  |_=>exact h
noncomputable def ydq(nm:T)(cs:List Col)(key rules:T):T:=.tup [nm,.tup (cs.map Col.t),key,rules]
theorem zt0{G:Glo}{cs:List Col}(hl:cs.length<=4)(hne:cs≠[])(dr:∀a k,G.call "_law_drawn" [.int a,.int k]=some (.int (yan a k)))(nm key rules:T)(d:Nat)(k D:Int)(hD:D=((d+1:Nat):Int))(sub:1<D->∀k,∃t:Tst,G.call "_law_test" [ydq nm cs key rules,.int k,.int (D-1)]=some t.t/\t.ok cs d):W G zbk.body (st0 [ydq nm cs key rules,.int k,.int D] 6) fun o=>∃t:Tst,o=.rt t.t/\t.ok cs (d+1):=by
 have hsz:=zar;have lc:∀{n:Nat},((cs.map Col.t).length:Int)=n↔(cs.length:Int)=n:=by simp
 obtain⟨c,hc,ec⟩:=zbg Col.t cs hne (k/8) rfl;refine zad rfl ?_;refine zad (zae rfl (zak rfl (za1 (t:=.int (cs.length:Int)) rfl (zx2 (fun n:Nat=>some (T.int n)) (zxt _))) (zam (by have:=List.length_pos_iff.mpr hne;lia))) ec) ?_;refine zad (zak rfl rfl (zam (by decide))) ?_;have h0:=uc5 k (show(8:Int)≠0 by decide);have h8:=uc0 k (show(0:Int)<8 by decide);refine yay (q:=decide (1<D)&&decide (4<k%8)) (zaq rfl fun _=>rfl) (fun q=>?_) fun _=>?_
 .rw[zxw,zyn,zyn]at q;obtain⟨M,e6,e7,hM⟩:=zes (G:=G) (e:=.call "_law_test" [.var 1,.bin .fdiv (.call "_law_drawn" [.var 2,.var 0]) (.cst (.int 4)),.bin .sub (.var 3) (.cst (.int 1))]) (n:=1) (k:=.plain) (es:=[.tup [.cst (.int 1),.cst (.int 2)]]) (ρ:=fv [ydq nm cs key rules,T.int k,T.int D,T.tup (cs.map Col.t),c.t,T.int (k%8),.no,.no,.no]) (ts:=[.tup [.int 1,.int 2]]) (enc:=T.int) (dec:=Tst.t) (R:=[1,2]) (fun _ t=>t.ok cs d) rfl rfl fun i _=>by obtain⟨t,e,h⟩:=sub q.1 (yan k i/4);exact⟨t,_,rfl,zab e (yaa rfl (yaa (zak (zab (dr k i) (yaa rfl (yaa rfl rfl))) rfl rfl) (yaa rfl rfl))),h⟩
  refine zad e6 ?_;rcases M with _|⟨⟨_,t1⟩,_|⟨⟨_,t2⟩,_|_⟩⟩<;>first|(simp at e7;done)|skip
  have o1:=hM _ (.head _);have o2:=hM _ (.tail _ (.head _));have fin:∀(t:Tst)(j:Int),k%8-5=j->yb3 [.tup [.str "not",t1.t],.tup [.str "and",t1.t,t2.t],.tup [.str "or",t1.t,t2.t]] j=some t.t->t.ok cs (d+1)->_:=fun t j hj e h=>zah (G:=G) (Q:=Kn G (zbk.body.drop 4) fun o=>∃t:Tst,o=.rt t.t/\t.ok cs (d+1)) (ss:=[]) (τ:=[ydq nm cs key rules,T.int k,T.int D,T.tup (cs.map Col.t),c.t,T.int (k%8),T.lst [t1.t,t2.t],.no,.no]) (e:=.idx (.lst [.tup [.cst (.str "not"),.idx (.var 6) (.cst (.int 0))],.tup [.cst (.str "and"),.idx (.var 6) (.cst (.int 0)),.idx (.var 6) (.cst (.int 1))],.tup [.cst (.str "or"),.idx (.var 6) (.cst (.int 0)),.idx (.var 6) (.cst (.int 1))]]) (.bin .sub (.var 5) (.cst (.int 5)))) (zae rfl rfl (by rw[<-hj]at e;exact e)) ⟨t,rfl,h⟩;rcases(by lia:k%8-5=0\/k%8-5=1\/k%8-5=2)with z|z|z
  .exact fin (.neg t1) _ z rfl o1
  .exact fin (.cnj t1 t2) _ z rfl ⟨o1,o2⟩
  .exact fin (.dsj t1 t2) _ z rfl ⟨o1,o2⟩
 .refine yay (q:=k%8==0) rfl (fun _=>zah (zau rfl) ⟨.emp c.n,rfl,c,hc,rfl⟩) fun _=>?_;refine zad (t:=.lst ((cs.filter fun o=>o.k==c.k).map fun o=>T.str o.n)) (zba (enc:=Col.t) (R:=cs) (fun o=>o.k==c.k) (fun o=>T.str o.n) rfl (zaw (by rw[zxt];lia)) fun o _=>⟨_,rfl,rfl,fun _=>rfl⟩) ?_;refine yay (q:=k%8==1) rfl (fun _=>?_) fun _=>?_
  .have hn:cs.filter (fun o=>o.k==c.k)≠[]:=List.ne_nil_of_mem (ub9.mpr ⟨hc,ua9 _⟩);obtain⟨o,ho,eo⟩:=zbg (fun o:Col=>T.str o.n) _ hn (k/64) rfl;have ho:=ub9.mp ho;have:=List.length_pos_iff.mpr hn;exact zah (zau (yaa rfl (yaa rfl (yaa (zae rfl (zak rfl (za1 rfl (zx2 (fun n:Nat=>some (T.int n)) (zxt _))) (zam (by lia))) eo) rfl)))) ⟨.bel c.n o.n,rfl,c,hc,o,ho.1,rfl,rfl,(ua2 ho.2).symm⟩
  .obtain⟨L,hL,fL⟩:∃L:List T,yb3 [.tup [.int 0,.int 1,.int 2,.int 3,.int (-5),.int 999],.tup [.str "",.str "a",.str "b",.str "ab",.str "x9",.str "zzzzzz"]] (if c.k==("text":Str)then 1 else 0)=some (.tup L)/\L.length=6/\∀v∈L,ycu v=true:=by
    cases c.k==("text":Str)
    .exact⟨_,rfl,rfl,by decide⟩
    .exact⟨_,rfl,rfl,by decide⟩
   obtain⟨v,hv,ev⟩:=zbg (fun v=>v) L (by intro z;rw[z]at fL;cases fL.1) (k/64) (m:=6) (by rw[fL.1];rfl);rw[List.map_id']at ev;refine zad (t:=.tup L) (zae rfl (za1 (t:=.int (if c.k==("text":Str)then 1 else 0)) (zag rfl rfl (sw rfl)) rfl) hL) ?_;exact zah (zau (yaa rfl (yaa rfl (yaa (zae rfl (zak rfl rfl (zam (by decide))) ev) rfl)))) ⟨.isV c.n v,rfl,⟨c,hc,rfl⟩,fL.2 v hv⟩
theorem zhz{P:Pr}(hd:P.fn "_law_drawn"=some za8)(ht:P.fn "_law_test"=some zbk){cs:List Col}(hl:cs.length<=4)(hne:cs≠[])(nm key rules:T):∀(d n:Nat)(k:Int),∃t:Tst,run P (n+d+2) "_law_test" [ydq nm cs key rules,.int k,.int ((d+1:Nat):Int)]=some t.t/\t.ok cs (d+1)
 |d,n,k=>by
  refine yct Tst.t ht (n:=n+d+1) (zt0 hl hne (fun a k=>zbz hd (n+d) a k) nm key rules d k _ rfl fun h k=>?_);cases d with
  |zero=>exact absurd h (by decide)
  |succ d=>obtain⟨t,e,h⟩:=zhz hd ht hl hne nm key rules d n k;rw[show((d+1+1:Nat):Int)-1=((d+1:Nat):Int) by lia];exact⟨t,e,h⟩
section
variable {G:Glo}
noncomputable def ya0(xs:List Str):T:=.tup (xs.map .str)
theorem zhk(x:Str)(xs:List Str):inC (.str x) (.tup (xs.map .str))=some (xs.any fun y=>y==x):=by show(if dpI (.str x) (xs.map .str)=true then some ((xs.map T.str).any fun z=>eqT z (.str x))else none)=_;rw[if_pos (show dpI (.str x) (xs.map .str)=true from uc1.mpr fun z hz=>by obtain⟨y,_,rfl⟩:=omm hz;rfl),List.any_map];rfl
theorem zfa(l:List T):yaw .ne (.lst l) (.lst [])=some (.bl (!l.isEmpty)):=by cases l<;>rfl
noncomputable def Rows(cs:List Col)(j:Nat)(ps:List (List Str)):Prop:=ps.length<=4 ^ j/\∀p∈ps,p.length=j/\∀x∈p,∃c∈cs,c.n=x
theorem zrw{cs:List Col}(hl:cs.length<=4)(nm key rules:T)(ks:List Str)(hk:ks.length<=2):W G zb5.body (st0 [ydq nm cs key rules,.lst (ks.map .str)] 4) fun o=>∃ps,o=.rt (.lst (ps.map ya0))/\Rows cs ks.length ps:=by
 have hsz:=zar;refine zad (t:=.lst ([[]].map ya0)) rfl ?_;refine zbd [2,3,4,5] (enc:=T.str) ks (fun D zs=>∃(ps:List (List Str))(s2 b c d:Sl),zs=[s2,b,c,d]/\(s2=.own (ps.map ya0)\/s2=.val (.lst (ps.map ya0)))/\Rows cs D.length ps) [.own ([[]].map ya0),.no,.no,.no] rfl (zav _) rfl ⟨[[]],_,_,_,_,rfl,.inl rfl,zx3 _,fun p hp=>by rw[omg hp];exact⟨rfl,fun x hx=>nomatch hx⟩⟩ (fun D kd D2 e zs hI=>?_) fun zs hI=>?_
 .obtain⟨ps,s2,b,c,d,rfl,h1,h2⟩:=hI;have hD:D.length<=1:=by rw[e]at hk;simp at hk;lia
  have h4:ps.length<=4:=zyc h2.1 (by rcases(by lia:D.length=0\/D.length=1)with z|z<;>rw[z]<;>decide);refine⟨_,rfl,?_⟩;refine w_nz ?_;refine zad rfl ?_;have key:∀zs,(∃(L:List T)(qs:List (List Str))(d:Sl),zs=[Sl.own L,d]/\L=qs.map ya0/\qs.length<=4*ps.length/\∀q∈qs,q.length=D.length+1/\∀x∈q,∃c∈cs,c.n=x)->W G [.asg 2 (.var 4)] (ya2 [4,5] zs [.val (ydq nm cs key rules),.val (.lst (ks.map .str)),.val (.lst (ps.map ya0)),.val (.str kd),.own [],d]) fun o=>∃zs,o=.nx (ya2 [2,3,4,5] zs [.val (ydq nm cs key rules),.val (.lst (ks.map .str)),.own ([[]].map ya0),.no,.no,.no])/\∃(ps:List (List Str))(s2 b c d:Sl),zs=[s2,b,c,d]/\(s2=.own (ps.map ya0)\/s2=.val (.lst (ps.map ya0)))/\Rows cs (D++[kd]).length ps:=fun zs hI=>by
   obtain⟨_,qs,d,rfl,rfl,q1,q2⟩:=hI;refine w_nz ?_;refine zad (js:=[4]) rfl ?_;refine zaf ⟨_,rfl,qs,_,_,_,_,rfl,.inr rfl,?_,fun q hq=>?_⟩
   .have:=h2.1;rw[zxy,zyu,Nat.pow_succ];lia
   .rw[zxy,zyu];exact q2 q hq
  rcases h1 with rfl|rfl<;>refine zbd (js:=[2]) [4,5] (enc:=ya0) ps (fun D' zs=>∃(L:List T)(qs:List (List Str))(d:Sl),zs=[.own L,d]/\L=qs.map ya0/\qs.length<=4*D'.length/\∀q∈qs,q.length=D.length+1/\∀x∈q,∃c∈cs,c.n=x) [.own [],d] rfl (zav _) rfl ⟨_,[],_,rfl,rfl,zyg _,fun q hq=>nomatch hq⟩ (fun D' row D2' e' zs hI=>?_) key <;>
  .obtain⟨_,qs,d,rfl,rfl,q1,q2⟩:=hI;have hr:=h2.2 row (by rw[e'];simp);have hd':D'.length<=4:=by rw[e']at h4;simp at h4;lia
   have hf:=ud6 (fun o:Col=>(o.k==kd)&&!(row.any fun y=>y==o.n)) cs;refine⟨_,rfl,?_⟩;refine w_nz ?_;refine zad (js:=[4]) (t:=.lst ((qs++(cs.filter fun o=>(o.k==kd)&&!(row.any fun y=>y==o.n)).map fun o=>row++[o.n]).map ya0)) (zak rfl (zba (enc:=Col.t) (R:=cs) (fun o=>(o.k==kd)&&!(row.any fun y=>y==o.n)) (fun o=>ya0 (row++[o.n])) rfl (zaw (by rw[List.length_map];lia)) fun o _=>⟨_,rfl,zaq (zag rfl rfl (sw rfl)) fun _=>zag rfl rfl (by show(inC _ _).map _=_;rw[ya0,zhk];rfl),fun _=>zak rfl (zau (yaa rfl rfl)) ((yen (by simp;lia)).trans (by simp[ya0]))⟩) ((ye0 (by simp;lia)).trans (by rw[List.map_append,List.map_map];rfl))) ?_;refine zaf ⟨_,rfl,_,_,_,rfl,rfl,?_,fun q hq=>?_⟩
   .simp;lia
   .rcases oma hq with z|z
    .exact q2 q z
    .obtain⟨o,ho,rfl⟩:=omm z;refine⟨by simp[hr.1],fun x hx=>?_⟩;rcases oma hx with y|y
     .exact hr.2 x y
     .exact⟨o,(ub9.mp ho).1,(omg y).symm⟩
 .obtain⟨ps,s2,b,c,d,rfl,h1,h2⟩:=hI;rcases h1 with rfl|rfl<;>exact w_nz (zah rfl ⟨ps,rfl,h2⟩)
inductive Rl where
 |ref (cs:List Str) (t w:Str)|unl (cs:List Str)|chk (t:Tst)
def Rl.raw:Rl->T
 |.ref cs t w=>.tup [.str "refers",ya0 cs,.str t,.str w]
 |.unl cs=>.tup [.str "unlike",.lst (cs.map .str)]
 |.chk t=>.tup [.str "check",t.t]
def Rl.t:Rl->T
 |.ref cs t w=>.tup [.str "refers",ya0 cs,.str t,.str w]
 |.unl cs=>.tup [.str "unlike",ya0 cs]
 |.chk t=>.tup [.str "check",t.t]
noncomputable def Rl.ok:Rl->Prop
 |.ref cs _ _=>cs.length<=4
 |.unl cs=>cs.length<=4
 |.chk _=>True
def Rl.fits(ns:List Str)(cs:List Col):Rl->Prop
 |.ref ks t w=>(∀x∈ks,∃c∈cs,c.n=x/\(w="gap"->c.g=true))/\t∈ns
 |.unl ks=>∀x∈ks,∃c∈cs,c.n=x
 |.chk t=>t.ok cs 3
structure Tb where
 nm:Str
 cs:List Col
 key:List Str
 rs:List Rl
def Tb.t(b:Tb):T:=ych b.nm b.cs b.key (b.rs.map Rl.t)
structure Tb.ok(b:Tb):Prop extends CsOk b.cs b.key where
 rl:b.rs.length<=4
 rs:∀r∈b.rs,r.ok
theorem t0(b:Tb):ya6 b.t (.int 0)=some (.str b.nm):=rfl
theorem t1(b:Tb):ya6 b.t (.int 1)=some (.tup (b.cs.map Col.t)):=rfl
theorem t2(b:Tb):ya6 b.t (.int 2)=some (ya0 b.key):=rfl
theorem t3(b:Tb):ya6 b.t (.int 3)=some (.tup (b.rs.map Rl.t)):=rfl
theorem Tb.ok.inn{b:Tb}(h:b.ok):∀x∈b.key,∃c∈b.cs,c.n=x:=fun x hx=>let⟨c,h1,h2,_⟩:=h.kg x hx;⟨c,h1,h2⟩
theorem zsh{ρ:Env}{x:E}{α:Type}{enc:α->T}{l:List α}(h:evE G x ρ=some (.lst (l.map enc))):evE G (.blt .len x) ρ=some (.int (l.length:Int)):=za1 h (zx2 (fun n:Nat=>some (T.int n)) (zxt _))
theorem zt9{bs:List Tb}{b:Tb}(hb:∀b∈bs,CsOk b.cs b.key)(hm:b∈bs)(k:Int)(cp:∀ks:List Str,ks.length<=2->∃ps,G.call "_law_pairs" [b.t,.lst (ks.map .str)]=some (.lst (ps.map ya0))/\Rows b.cs ks.length ps)(ct:∀d:Nat,d<=2->∀k:Int,∃t:Tst,G.call "_law_test" [b.t,.int k,.int ((d+1:Nat):Int)]=some t.t/\t.ok b.cs (d+1)):W G zcm.body (st0 [.lst (bs.map Tb.t),b.t,.int k] 8) fun o=>∃r:Rl,o=.rt r.raw/\r.ok/\r.fits (bs.map (·.nm)) b.cs:=by
 have hsz:=zar;have bp:=List.length_pos_of_mem hm;have hbo:=hb b hm;have cl:=hbo.cl;obtain⟨g,hg,eg⟩:=zbg Tb.t bs (List.ne_nil_of_mem hm) (k/8) rfl;have hgo:=hb g hg;refine zad (zae rfl (zak rfl (zsh rfl) (zam (by lia))) eg) ?_;obtain⟨M,e4,e5,_⟩:=zes (G:=G) (e:=.idx (.comp (.idx (.var 0) (.cst (.int 1))) 1 .plain [.idx (.var 4) (.cst (.int 1))] (some (.cmp .eq (.idx (.var 0) (.cst (.int 0))) (.var 1)))) (.cst (.int 0))) (n:=1) (k:=.plain) (es:=[.idx (.var 3) (.cst (.int 2))]) (ρ:=fv [.val (.lst (bs.map Tb.t)),.val b.t,T.int k,.val g.t,.no,.no,.no,.no,.no,.no,.no]) (enc:=T.str) (dec:=T.str) (R:=g.key) (fun _ _=>True) (yaa (zae rfl rfl (t2 g)) rfl) (zaw (by have:=hgo.k1;rw[zxt];lia)) fun x hx=>by
  obtain⟨c,hc,ec,_⟩:=hgo.kg x hx;have hm:c∈g.cs.filter fun c=>c.n==x:=ub9.mpr ⟨hc,by rw[ec];exact ua9 x⟩;obtain⟨c',r,e⟩:∃c' r,g.cs.filter (fun c=>c.n==x)=c'::r:=by
   cases q:g.cs.filter (fun c=>c.n==x)with
   |nil=>rw[q]at hm;cases hm
   |cons a r=>exact⟨a,r,rfl⟩
  refine⟨c'.k,_,rfl,zae (zba (enc:=Col.t) (R:=g.cs) (fun c=>c.n==x) (fun c=>T.str c.k) (yaa (zae rfl rfl (t1 g)) rfl) (zaw (by have:=hgo.cl;rw[zxt];lia)) fun c _=>⟨_,rfl,rfl,fun _=>rfl⟩) rfl (by rw[e];exact ybz _ _),trivial⟩
 have hM:M.length=g.key.length:=by rw[<-e5,zxt]
 rw[show(M.map fun p=>T.str p.2)=(M.map (·.2)).map T.str by rw[zyi];rfl]at e4;refine zad e4 ?_;obtain⟨ps,ep,h1,h2⟩:=cp (M.map (·.2)) (by rw[zxt,hM];exact hgo.k1);refine zad (zab ep rfl) ?_;refine yay (q:=decide (k%8<5)&&!(ps.map ya0).isEmpty) (zaq rfl fun _=>zag rfl rfl (zfa _)) (fun q=>?_) fun _=>?_
 .have hn:ps≠[]:=fun z=>by rw[z]at q;simp at q
  have pp:=List.length_pos_iff.mpr hn;obtain⟨p,hp,e6⟩:=zbg ya0 ps hn (k/64) rfl;obtain⟨w,hw,e7⟩:=zbg T.str ["along", "stop", "late", "gap", "along", "gap"] (by simp) (k/1024) (m:=6) rfl;refine zad (zae rfl (zak rfl (zsh rfl) (zam (by lia))) e6) ?_;refine zad (zae rfl (zak rfl rfl (zam (by decide))) e7) ?_;refine zad (t:=.lst ((b.cs.filter fun c=>(p.any fun y=>y==c.n)&&!c.g).map Col.t)) (zba (enc:=Col.t) (R:=b.cs) (fun c=>(p.any fun y=>y==c.n)&&!c.g) Col.t (yaa (zae rfl rfl (t1 b)) rfl) (zaw (by rw[zxt];lia)) fun c _=>⟨_,rfl,zaq (zag rfl rfl (by show(inC _ _).map _=_;rw[ya0,zhk];rfl)) fun _=>rfl,fun _=>rfl⟩) ?_;have hpl:p.length<=4:=by have:=(h2 p hp).1;rw[zxt,hM]at this;have:=hgo.k1;lia
  have fin:∀w':Str,(w'="gap"->((b.cs.filter fun c=>(p.any fun y=>y==c.n)&&!c.g).map Col.t).isEmpty=true)->∃r:Rl,Out.rt (T.tup [.str "refers",ya0 p,.str g.nm,.str w'])=.rt r.raw/\r.ok/\r.fits (bs.map (·.nm)) b.cs:=fun w' hw'=>⟨.ref p g.nm w',rfl,hpl,fun x hx=>by
   obtain⟨c,hc,ec⟩:=(h2 p hp).2 x hx;refine⟨c,hc,ec,fun z=>?_⟩;cases hg:c.g with
   |true=>rfl
   |false=>have e:=hw' z;rw[List.isEmpty_iff,List.map_eq_nil_iff,List.filter_eq_nil_iff]at e;exact absurd (by rw[hg,Bool.not_false,Bool.and_true,List.any_eq_true];exact⟨x,hx,by rw[ec];exact ua9 x⟩) (e c hc),ua0.mpr ⟨g,hg,rfl⟩⟩
  generalize(b.cs.filter fun c=>(p.any fun y=>y==c.n)&&!c.g).map Col.t=L at *;refine yay (q:=!L.isEmpty&&(w=="gap")) (zaq (zag rfl rfl (zfa _)) fun _=>zag rfl rfl (sw rfl)) (fun _=>?_) fun q=>?_
  .refine zad rfl ?_;exact zaf (zah (zau (yaa rfl (yaa rfl (yaa (zae rfl rfl (t0 g)) (yaa rfl rfl))))) (fin "late" fun z=>absurd z (by decide +kernel)))
  .exact zah (zau (yaa rfl (yaa rfl (yaa (zae rfl rfl (t0 g)) (yaa rfl rfl))))) (fin w fun z=>by rw[z]at q;simpa using q)
 .refine zad (t:=.lst (b.cs.map fun c=>T.str c.n)) (zb1 (enc:=Col.t) (R:=b.cs) (fun c=>T.str c.n) (yaa (zae rfl rfl (t1 b)) rfl) (zaw (by rw[zxt];lia)) fun c _=>rfl) ?_;refine yay (q:=k%8==5) rfl (fun _=>?_) fun _=>?_
  .have bp:=List.length_pos_iff.mpr hbo.cn;obtain⟨i,ei,hi⟩:=zd8 (k/64) bp;obtain⟨j,ej,hj⟩:=zd8 (k/1024) (show 0<2 by decide);replace ej:k/1024%2=(j:Int):=ej;refine zad (t:=.int (i:Int)) (zak rfl (zsh rfl) ((zam (by lia)).trans (by rw[ei]))) ?_;have hr:=zfk b.cs i;refine zah (t:=Rl.raw (.unl (((yc3 b.cs i).map (·.n)).take (1+j)))) (zau (yaa rfl (yaa (zn1 (zrd (fun c:Col=>T.str c.n) b.cs rfl rfl (by lia) (by lia)) (l:=none) (h:=some (.int (1+(j:Int)))) rfl (zo4 (zak rfl (zak rfl rfl ((zam (by decide)).trans (by rw[ej]))) rfl)) (zx2 (fun l=>some (T.lst l)) ((show cut _ none (some (1+(j:Int)))=cut _ none (some ((1+j:Nat):Int)) by congr 1).trans ((zgx _ _).trans (by rw[List.map_take,zyi];rfl))))) rfl))) ⟨_,rfl,?_,fun x hx=>?_⟩
   .show(List.take _ _).length<=4;simp;lia
   .obtain⟨c,hc,rfl⟩:=omm (ub6 hx);exact⟨c,hr.mem_iff.mp hc,rfl⟩
  .obtain⟨j,ej,hj⟩:=zd8 (k/1024) (show 0<3 by decide);replace ej:k/1024%3=(j:Int):=ej;obtain⟨t,et,ot⟩:=ct j (by lia) (k/64);refine zah (t:=Rl.raw (.chk t)) (zau (yaa rfl (yaa (zab et (yaa rfl (yaa rfl (yaa (zak rfl (zak rfl rfl ((zam (by decide)).trans (by rw[ej]))) (by show some (T.int (1+(j:Int)))=_;congr 2;lia)) rfl)))) rfl))) ⟨_,rfl,trivial,?_⟩;rcases(by lia:j=0\/j=1\/j=2)with rfl|rfl|rfl
   .exact Tst.up (Tst.up ot)
   .exact Tst.up ot
   .exact ot
end
structure Sch(B:List Tb):Prop where
 l4:B.length<=4
 ps:0<B.length
 nd:(B.map (·.nm)).Nodup
 ok:∀b∈B,b.ok
 fit:∀b∈B,∀r∈b.rs,r.fits (B.map (·.nm)) b.cs
theorem zc4{α:Type}(enc:α->T):∀(l:List α)(i:Nat),ya3 (l.map enc) i=(l.zipIdx i).map fun p=>T.tup [.int (p.2:Int),enc p.1]
 |[],_=>rfl
 |a::l,i=>by rw[zxz,ya3,zc4 enc l (i+1)];rfl
theorem zit{α:Type}{enc:α->T}{l:List α}(h:l.length<=1000){t:T}(e:t=.lst (l.map enc)\/t=.tup (l.map enc)):yas .enum [t]=some ((l.zipIdx 0).map fun p=>T.tup [.int (p.2:Int),enc p.1]):=by
 have:=zar;rcases e with rfl|rfl <;>
 .show(some (ya3 (l.map enc) 0)).bind _=_;rw[zc4,zxv,if_pos (by rw[zxt,List.length_zipIdx];lia)]
theorem zhi(q:Nat)(h:q<=1000):items .range [.int (q:Int)]=some ((List.range q).map fun(i:Nat)=>T.int (i:Int)):=by simp only[items,rangeT,Int.toNat_natCast];rw[if_pos (by lia)]
theorem zqv{α:Type}{l:List α}{p:α×Nat}(h:p∈l.zipIdx 0):p.1∈l:=by have:=List.mem_zipIdx' h;rw[this.2];exact ua5 _
theorem zvc:∀j:Fin 4,∀m:Fin 5,((yc3 (["item", "user", "box", "log"]:List Str) j.val).take m.val).Nodup:=by decide +kernel
theorem zn4{G:Glo}(k:Int)(dr:∀a k,G.call "_law_drawn" [.int a,.int k]=some (.int (yan a k)))(cb:∀(nm:Str)(k:Int),∃p:List Col×List Str,G.call "_law_bare" [.str nm,.int k]=some (ych nm p.1 p.2 [])/\CsOk p.1 p.2)(cr:∀(bs:List Tb),(∀b∈bs,CsOk b.cs b.key)->∀b∈bs,∀k:Int,∃r:Rl,G.call "_law_rule" [.lst (bs.map Tb.t),b.t,.int k]=some r.raw/\r.ok/\r.fits (bs.map (·.nm)) b.cs):W G zbu.body (st0 [.int k] 10) fun o=>∃B:List Tb,o=.rt (.tup (B.map Tb.t))/\Sch B:=by
 have hsz:=zar;obtain⟨j,ej,hj⟩:=zd8 k (show 0<4 by decide);replace ej:k%4=(j:Int):=ej;obtain⟨c,hc,ec⟩:=zbg (fun m:Nat=>T.int (m:Int)) [2,1,3,4,2,3] (by simp) (k/4) (m:=6) rfl;have hc:0<c/\c<5:=(show ∀c∈([2,1,3,4,2,3]:List Nat),0<c/\c<5 by decide) c hc;refine zad (t:=.lst ((["item", "user", "box", "log"]:List Str).map .str)) rfl ?_;refine zad (t:=.int (j:Int)) (zak rfl rfl ((zam (by decide)).trans (by rw[ej]))) ?_;refine zad (js:=[1]) (t:=.lst (((yc3 (["item", "user", "box", "log"]:List Str) j).take c).map .str)) (zn1 (zrd T.str ["item", "user", "box", "log"] rfl rfl (by show j<=4;lia) (by simp)) (l:=none) (h:=some (.int (c:Int))) rfl (zo4 (zae rfl (zak rfl rfl (zam (by decide))) ec)) (congrArg (fun l=>some (T.lst l)) ((zgx _ _).trans (by rw[List.map_take])))) ?_;have hN:=zvc ⟨j,hj⟩ ⟨c,hc.2⟩;have hl:((yc3 (["item", "user", "box", "log"]:List Str) j).take c).length=c:=by rw[zy3,(zfk _ _).length_eq];show min c 4=c;lia
 generalize hNe:(yc3 (["item", "user", "box", "log"]:List Str) j).take c=N at *;obtain⟨M,e4,e5,hM⟩:=zes (G:=G) (e:=.call "_law_bare" [.var 1,.bin .fdiv (.call "_law_drawn" [.var 2,.var 0]) (.cst (.int 4))]) (n:=2) (k:=.enum) (es:=[.var 1]) (ρ:=fv [T.int k,T.lst (N.map .str),T.int (j:Int),.no,.no,.no,.no,.no,.no,.no,.no]) (enc:=fun p:Str×Nat=>T.tup [.int (p.2:Int),.str p.1]) (dec:=Tb.t) (R:=N.zipIdx 0) (fun p b=>b.nm=p.1/\CsOk b.cs b.key) rfl (zit (by lia) (.inl rfl)) fun p _=>by obtain⟨q,e,h⟩:=cb p.1 (yan k p.2/4);exact⟨⟨p.1,q.1,q.2,[]⟩,_,rfl,zab e (yaa rfl (yaa (zak (zab (dr k p.2) (yaa rfl (yaa rfl rfl))) rfl rfl) rfl)),rfl,h⟩
 have eb:(M.map (·.2)).map (·.nm)=N:=by
  have h1:(M.map (·.2)).map (·.nm)=(M.map (·.1)).map (·.1):=by rw[zyi,zyi];exact ua8 fun p hp=>(hM p hp).1
  rw[h1,e5];exact List.zipIdx_map_fst ..
 have hb:∀b∈M.map (·.2),CsOk b.cs b.key:=fun b h=>by obtain⟨p,hp,rfl⟩:=omm h;exact(hM p hp).2
 rw[show(M.map fun p=>p.2.t)=(M.map (·.2)).map Tb.t by rw[zyi];rfl]at e4;generalize M.map (·.2)=bs at *;have hbl:bs.length=c:=by rw[<-hl,<-eb,zxt]
 refine zad e4 ?_;refine zad (t:=.tup (([]:List Tb).map Tb.t)) rfl ?_;refine zbd [3,5,6,7,8,9,10] (enc:=fun p:Tb×Nat=>T.tup [.int (p.2:Int),p.1.t]) (bs.zipIdx 0) (fun D zs=>∃(S:List Tb)(a b c d e f:Sl),zs=[a,.val (.tup (S.map Tb.t)),b,c,d,e,f]/\S.map (·.nm)=D.map (·.1.nm)/\∀b∈S,b.ok/\∀r∈b.rs,r.fits N b.cs) [.no,.val (.tup []),.no,.no,.no,.no,.no] rfl (by show some (ya3 (bs.map Tb.t) 0)=_;rw[zc4]) rfl ⟨[],_,_,_,_,_,_,rfl,rfl,fun _ h=>nomatch h⟩ (fun D p D2 e zs hI=>?_) fun zs hI=>?_
 .obtain⟨S,s3,s6,s7,s8,s9,s10,rfl,h1,h2⟩:=hI;obtain⟨b,i⟩:=p;have hp:b∈bs:=zqv (p:=(b,i)) (by rw[e];simp);have hS:S.length<=4:=by have h3:=zx2 List.length e;have h4:=zx2 List.length h1;simp at h3 h4;lia
  obtain⟨q,hq,eq⟩:=zbg (fun m:Nat=>T.int (m:Int)) [1,2,0,1,3] (by simp) (yan k (20+(i:Int))/4) (m:=5) rfl;have hq:q<=3:=(show ∀c∈([1,2,0,1,3]:List Nat),c<=3 by decide) q hq;refine⟨_,rfl,?_⟩;refine w_nz ?_;refine zad (zak (zab (dr k (20+(i:Int))) rfl) rfl rfl) ?_;generalize yan k (20+(i:Int))/4=K at *;refine zad rfl ?_;refine zbd [8,9] (enc:=fun i:Nat=>T.int (i:Int)) (List.range q) (fun D zs=>∃(L:List T)(rs:List Rl)(d:Sl),zs=[.own L,d]/\L=rs.map Rl.raw/\rs.length=D.length/\∀r∈rs,r.ok/\r.fits N b.cs) [.own [],s9] (yaa (zae rfl (zak rfl rfl (zam (by decide))) eq) rfl) (zhi q (by lia)) rfl ⟨_,[],_,rfl,rfl,rfl,fun _ h=>nomatch h⟩ (fun D' x D2' e' zs hI=>?_) fun zs hI=>?_
  .obtain⟨_,rs,d,rfl,rfl,r1,r2⟩:=hI;obtain⟨r,er,hr⟩:=cr bs hb b hp (yan K (x:Int)/4);have hD:D'.length<=3:=by have:=congrArg List.length e';simp at this;lia
   refine⟨_,rfl,?_⟩;refine w_nz ?_;refine zfh (zab er (yaa rfl (yaa rfl (yaa (zak (zab (dr K (x:Int)) rfl) rfl rfl) rfl)))) rfl (by rw[zxt];lia) ?_;refine zaf ⟨_,rfl,_,rs++[r],_,rfl,by rw[List.map_append];rfl,by simp[r1],fun y hy=>?_⟩;rcases oma hy with hy|hy
   .exact r2 y hy
   .rw[omg hy];rw[eb]at hr;exact hr
  .obtain⟨_,rs,d,rfl,rfl,r1,r2⟩:=hI;rw[zy2]at r1;refine w_nz ?_;refine zad (js:=[8]) (t:=.tup (rs.map Rl.t)) (za1 (zb1 (enc:=Rl.raw) (R:=rs) Rl.t rfl (zec (by rw[zxt];lia)) fun r hr=>?_) rfl) ?_
   .cases r with
    |unl cs=>exact zak (zau (yaa rfl (yaa (za1 rfl rfl) rfl))) rfl (yen (by simp[cut,yam];lia))
    |chk t=>cases t<;>rfl
    |_=>rfl
   refine zad (t:=.tup ((S++[(⟨b.nm,b.cs,b.key,rs⟩:Tb)]).map Tb.t)) (zak rfl (zau (yaa rfl rfl)) ((yen (by simp;lia)).trans (by rw[List.map_append];rfl))) ?_;refine zaf ⟨_,rfl,_,_,_,_,_,_,_,rfl,by rw[zx7,zx7,h1];rfl,fun x hx=>?_⟩;rcases oma hx with hx|hx
   .exact h2 x hx
   .rw[omg hx];exact⟨⟨hb b hp,by show rs.length<=4;lia,fun r hr=>(r2 r hr).1⟩,fun r hr=>(r2 r hr).2⟩
 .obtain⟨S,s3,s6,s7,s8,s9,s10,rfl,h1,h2⟩:=hI;have hn:S.map (·.nm)=N:=by rw[h1,show(bs.zipIdx 0).map (·.1.nm)=((bs.zipIdx 0).map Prod.fst).map (·.nm) by rw[zyi];rfl,List.zipIdx_map_fst];exact eb
  have hS:S.length=c:=by rw[<-hl,<-hn,zxt]
  exact zah rfl ⟨S,rfl,by lia,by lia,by rw[hn];exact hN,fun b hb=>(h2 b hb).1,fun b hb=>by rw[hn];exact(h2 b hb).2⟩
theorem zjm{P:Pr}(hd:P.fn "_law_drawn"=some za8)(ht:P.fn "_law_test"=some zbk)(hp:P.fn "_law_pairs"=some zb5)(hr:P.fn "_law_rule"=some zcm)(hb:P.fn "_law_bare"=some zb0)(h:P.fn "_law_schema"=some zbu)(n:Nat)(k:Int):∃B:List Tb,run P (n+7) "_law_schema" [.int k]=some (.tup (B.map Tb.t))/\Sch B :=
 yct (fun B:List Tb=>T.tup (B.map Tb.t)) h (zn4 k (fun a k=>zbz hd (n+5) a k) (fun nm k=>yct (fun p:List Col×List Str=>ych nm p.1 p.2 []) hb (zwp (fun a k=>zbz hd (n+4) a k) nm k))
  fun bs hbs b hm k=>yct Rl.raw hr (zt9 hbs hm k (fun ks hk=>yct (fun ps:List (List Str)=>T.lst (ps.map ya0)) hp (zrw (hbs b hm).cl (.str b.nm) (.tup (b.key.map .str)) (.tup (b.rs.map Rl.t)) ks hk)) fun d hd' k=>by have:=zhz hd ht (hbs b hm).cl (hbs b hm).cn (.str b.nm) (.tup (b.key.map .str)) (.tup (b.rs.map Rl.t)) d (n+3-d) k;rw[show n+3-d+d+2=n+5 by lia]at this;exact this))
structure Ord(n:Nat)(P:T->Prop):Prop where
 eq:∀{x y},P x->P y->(eqT x y=true↔x=y)
 tot:∀{x y b},P x->P y->x≠y->ltD x y=some b->ltD y x=some (!b)
 tr:∀{x y z},P x->P y->P z->ltD x y=some true->ltD y z=some true->ltD x z=some true
 dp:∀{x y},P x->P y->dpP x y<=n
section
variable {P:T->Prop}{n:Nat}(O:Ord n P)
include O
theorem Ord.eqs:∀{xs ys:List T},(∀x∈xs,P x)->(∀y∈ys,P y)->(eqTs xs ys=true↔xs=ys)
 |[],[],_,_=>by simp[eqTs]
 |[],_::_,_,_=>by simp[eqTs]
 |_::_,[],_,_=>by simp[eqTs]
 |x::xs,y::ys,h,k=>by rw[eqTs,zxw,O.eq (h x (.head _)) (k y (.head _)),Ord.eqs (fun z q=>h z (.tail _ q)) fun z q=>k z (.tail _ q),List.cons.injEq]
theorem Ord.tots:∀{xs ys:List T}{b:Bool},(∀x∈xs,P x)->(∀y∈ys,P y)->xs≠ys->yaz xs ys=some b->yaz ys xs=some (!b)
 |[],[],_,_,_,n,_=>absurd rfl n
 |[],_::_,b,_,_,_,e=>by rw[yaz]at e;cases e;rw[yaz];rfl
 |_::_,[],b,_,_,_,e=>by rw[yaz]at e;cases e;rw[yaz];rfl
 |x::xs,y::ys,b,h,k,n,e=>by
  rw[yaz]at e ⊢;change(if eqT x y=true then _ else _)=_ at e;show(if eqT y x=true then _ else _)=_;have hx:=h x (.head _);have hy:=k y (.head _);by_cases q:x=y
  .rw[if_pos ((O.eq hx hy).mpr q)]at e;rw[if_pos ((O.eq hy hx).mpr q.symm)];exact Ord.tots (fun z q=>h z (.tail _ q)) (fun z q=>k z (.tail _ q)) (fun w=>n (by rw[q,w])) e
  .rw[if_neg (mt (O.eq hx hy).mp q)]at e;rw[if_neg (mt (O.eq hy hx).mp (Ne.symm q))];exact O.tot hx hy q e
theorem Ord.trs:∀{xs ys zs:List T},(∀x∈xs,P x)->(∀x∈ys,P x)->(∀x∈zs,P x)->yaz xs ys=some true->yaz ys zs=some true->yaz xs zs=some true
 |[],[],_,_,_,_,e,_=>by rw[yaz]at e;cases e
 |_::_,[],_,_,_,_,e,_=>by rw[yaz]at e;cases e
 |_,_::_,[],_,_,_,_,e=>by rw[yaz]at e;cases e
 |[],_::_,_::_,_,_,_,_,_=>by rw[yaz];rfl
 |x::xs,y::ys,z::zs,h,k,l,e,f=>by
  rw[yaz]at e f ⊢;change(if eqT x y=true then _ else _)=_ at e;change(if eqT y z=true then _ else _)=_ at f;show(if eqT x z=true then _ else _)=_;have hx:=h x (.head _);have hy:=k y (.head _);have hz:=l z (.head _);by_cases q:x=y
  .rw[if_pos ((O.eq hx hy).mpr q)]at e;subst q;by_cases r:x=z
   .rw[if_pos ((O.eq hx hz).mpr r)]at f ⊢;exact Ord.trs (fun z q=>h z (.tail _ q)) (fun z q=>k z (.tail _ q)) (fun z q=>l z (.tail _ q)) e f
   .rw[if_neg (mt (O.eq hx hz).mp r)]at f ⊢;exact f
  .rw[if_neg (mt (O.eq hx hy).mp q)]at e;by_cases r:y=z
   .subst r;rw[if_neg (mt (O.eq hx hy).mp q)];exact e
   .rw[if_neg (mt (O.eq hy hz).mp r)]at f;rw[if_neg (mt (O.eq hx hz).mp fun s=>by subst s;rw[O.tot hx hy q e]at f;cases f)];exact O.tr hx hy hz e f
theorem Ord.dps:∀{xs ys:List T},(∀x∈xs,P x)->(∀y∈ys,P y)->ya9 xs ys<=n
 |[],_,_,_=>by simp[ya9]
 |_::_,[],_,_=>by simp[ya9]
 |x::xs,y::ys,h,k=>by rw[ya9];exact Nat.max_le.mpr ⟨O.dp (h x (.head _)) (k y (.head _)),Ord.dps (fun z q=>h z (.tail _ q)) fun z q=>k z (.tail _ q)⟩
theorem zlp{l:List T}(h20:n<=20)(hl:l.length<=60)(nd:l.Nodup)(hP:∀x∈l,P x)(lt:∀x∈l,∀y∈l,∃b,ltD x y=some b)(kd:(∃n,∀x∈l,∃a r,x=.tup (a::r)/\kdN a=some n)\/∀x∈l,isS x=true):OkN l:=by
 refine⟨hl,fun x hx y hy=>zyc (O.dp (hP x hx) (hP y hy)) h20,lt,kd,?_,fun x hx y hy z hz e f=>?_⟩
 .refine List.Pairwise.imp_of_mem (fun{x y}hx hy n=>?_) nd;obtain⟨b,e⟩:=lt x hx y hy;unfold cD;rw[e,O.tot (hP x hx) (hP y hy) n e];cases b<;>rfl
 .unfold cD at *;rw[ue3]at *;exact O.tr (hP x hx) (hP y hy) (hP z hz) e f
end
theorem zq4{a b:Str}(h:a.cps.toList=b.cps.toList):a=b:=by obtain⟨⟨a⟩⟩:=a;obtain⟨⟨b⟩⟩:=b;cases(show a=b from h);rfl
theorem zir(h:yao n x=true):(∃i,x=.int i)\/(∃s,x=.str s)\/∃m xs,n=m+1/\x=.tup xs/\∀z∈xs,yao m z=true:=by
 cases x with
 |int i=>exact .inl ⟨i,rfl⟩
 |str s=>exact .inr (.inl ⟨s,rfl⟩)
 |tup xs=>cases n with
  |zero=>cases h
  |succ m=>exact .inr (.inr ⟨m,xs,rfl,rfl,fun z hz=>oml h z hz⟩)
 |_=>cases n<;>cases h
theorem yfb{R:T->T->Prop}{n:Nat}(ii:∀i j,R (.int i) (.int j))(ss:∀a b,R (.str a) (.str b))(tt:∀m xs ys,n=m+1->(∀z∈xs,yao m z=true)->(∀z∈ys,yao m z=true)->R (.tup xs) (.tup ys))(mx:∀x y,x≠y->eqT x y=false->ltD x y=none->dpP x y=0->R x y):∀{x y},yao n x=true->yao n y=true->R x y:=fun{x y}hx hy=>by
 rcases zir hx with⟨i,rfl⟩|⟨a,rfl⟩|⟨m,xs,e,rfl,h⟩<;>rcases zir hy with⟨j,rfl⟩|⟨b,rfl⟩|⟨m',ys,e',rfl,h'⟩
 .exact ii i j
 .exact mx _ _ (fun h=>by cases h) rfl rfl rfl
 .exact mx _ _ (fun h=>by cases h) rfl rfl rfl
 .exact mx _ _ (fun h=>by cases h) rfl rfl rfl
 .exact ss a b
 .exact mx _ _ (fun h=>by cases h) rfl rfl rfl
 .exact mx _ _ (fun h=>by cases h) rfl rfl rfl
 .exact mx _ _ (fun h=>by cases h) rfl rfl rfl
 .have:m'=m:=by lia
  subst this;exact tt _ xs ys e h h'
theorem zhd(h:yao n x=true)(k:yao n y=true)(e:ltD x y=some b):(∃i j,x=.int i/\y=.int j/\b=decide (i<j))\/(∃u v,x=.str u/\y=.str v/\b=decide (u.cps.toList<v.cps.toList))\/∃m xs ys,n=m+1/\x=.tup xs/\y=.tup ys/\(∀z∈xs,yao m z=true)/\(∀z∈ys,yao m z=true)/\yaz xs ys=some b:=by
 revert e;refine yfb (n:=n) (R:=fun x y=>ltD x y=some b->(∃i j,x=.int i/\y=.int j/\b=decide (i<j))\/(∃u v,x=.str u/\y=.str v/\b=decide (u.cps.toList<v.cps.toList))\/∃m xs ys,n=m+1/\x=.tup xs/\y=.tup ys/\(∀z∈xs,yao m z=true)/\(∀z∈ys,yao m z=true)/\yaz xs ys=some b) (fun i j e=>?_) (fun u v e=>?_) (fun m xs ys e h h' e1=>.inr (.inr ⟨m,xs,ys,e,rfl,rfl,h,h',e1⟩)) (fun x y _ _ e _ z=>by rw[e]at z;cases z) h k
 .cases e;exact .inl ⟨_,_,rfl,rfl,rfl⟩
 .cases e;exact .inr (.inl ⟨_,_,rfl,rfl,rfl⟩)
theorem yea(n:Nat):Ord n fun x=>yao n x=true :=
 have O:∀m,n=m+1->Ord m fun x=>yao m x=true:=fun m e=>yea m
 {eq:=yfb (R:=fun x y=>eqT x y=true↔x=y) (fun i j=>by simp[eqT]) (fun a b=>by simp[eqT]) (fun m xs ys e h k=>by rw[eqT,T.tup.injEq];exact(O m e).eqs h k) fun x y n e _ _=>by rw[e];simp[n]
  tot:=fun{x y b}hx hy n e=>by
   rcases zhd hx hy e with⟨i,j,rfl,rfl,rfl⟩|⟨u,v,rfl,rfl,rfl⟩|⟨m,xs,ys,e1,rfl,rfl,h,k,e⟩
   .have:i≠j:=fun q=>n (by rw[q]);refine zx2 (fun b=>some b) ?_;by_cases q:i<j<;>simp[q]<;>lia
   .have hne:u.cps.toList≠v.cps.toList:=fun e=>n (by rw[zq4 e]);refine zx2 (fun b=>some b) ?_;by_cases q:u.cps.toList<v.cps.toList
    .rw[zx8 q,zy4 (List.lt_asymm q)];rfl
    .rw[zy4 q,zx8 (Classical.byContradiction fun r=>hne (List.le_antisymm (List.not_lt.mp r) (List.not_lt.mp q)))];rfl
   .exact(O m e1).tots h k (fun q=>n (by rw[q])) e
  tr:=fun{x y z}hx hy hz e f=>by
   rcases zhd hx hy e with⟨i,j,rfl,rfl,d⟩|⟨u,v,rfl,rfl,d⟩|⟨m,xs,ys,e1,rfl,rfl,h,k,d⟩<;>rcases zhd hy hz f with⟨j',l,q,rfl,g⟩|⟨v',w,q,rfl,g⟩|⟨m',ys',zs,e2,q,rfl,k',l,g⟩<;>cases q
   .exact zx2 some (zx8 (Int.lt_trans (zyk d.symm) (zyk g.symm)))
   .exact zx2 some (zx8 (List.lt_trans (zyk d.symm) (zyk g.symm)))
   .have:m'=m:=by lia
    subst this;exact(O _ e1).trs h k l d g
  dp:=yfb (R:=fun x y=>dpP x y<=n) (fun _ _=>zyg _) (fun _ _=>zyg _) (fun m xs ys e h k=>by have:=(O m e).dps h k;show ya9 xs ys+1<=n;lia) fun x y _ _ _ e=>by rw[e];exact zyg _}
termination_by n
abbrev Kt:=Sum Int (a7 Str)
def keyO:T->a7 Kt
 |.int i=>some (.inl i)
 |.str x=>some (.inr (some x))
 |.non=>some (.inr none)
 |_=>none
def kT:Kt->T
 |.inl i=>.int i
 |.inr (some x)=>.str x
 |.inr none=>.non
def tkT(k:List Kt):T:=.tup (k.map kT)
def ybi(k:List Kt):Prop:=∀x∈k,x≠.inr none
theorem zvp(a b:Kt):eqT (kT a) (kT b)=decide (a=b):=by rcases a with i|_|x<;>rcases b with j|_|y<;>simp only[kT,eqT]<;>first|rfl|(simp;done)|(by_cases e:i=j<;>simp[e])|(by_cases e:x=y<;>simp[e])
theorem zqd:∀a b:List Kt,eqTs (a.map kT) (b.map kT)=decide (a=b)
 |[],[]=>rfl
 |[],b::bs=>by simp[eqTs]
 |a::as,[]=>by simp[eqTs]
 |a::as,b::bs=>by rw[zxz,zxz,eqTs,zvp,zqd as bs];simp
theorem zfi(a b:List Kt):eqT (tkT a) (tkT b)=decide (a=b):=by rw[tkT,tkT,eqT,zqd]
theorem zxp(a b:Kt):dpP (kT a) (kT b)=0:=by rcases a with _|_|_<;>rcases b with _|_|_<;>rfl
theorem zqp:∀a b:List Kt,ya9 (a.map kT) (b.map kT)=0
 |[],b=>by cases b<;>rfl
 |a::as,[]=>rfl
 |a::as,b::bs=>by rw[zxz,zxz,ya9,zxp,zqp as bs];rfl
theorem zna(a b:List Kt):dpP (tkT a) (tkT b)=1:=by rw[tkT,tkT,dpP,zqp]
theorem zml(h:ybi k):isK (tkT k)=true:=by
 show(k.map kT).all (yao 3)=true;rw[uc1];intro t ht;obtain⟨x,hx,rfl⟩:=omm ht;rcases x with i|_|x
 .rfl
 .exact absurd rfl (h _ hx)
 .rfl
theorem zcd{α:Type}(f:α->Str):∀{l:List α}{a:α},a∈l->(l.map f).Nodup->∃j:Nat,zbv (.str (f a)) (l.map fun x=>T.str (f x))=some j/\l[j]?=some a/\l.filter (fun x=>f x==f a)=[a]
 |y::l,a,h,nd=>by
  rw[zxz]at nd;obtain⟨n1,n2⟩:=ua7.mp nd;rw[zxz,zbv,ub0,show eqT (.str (f y)) (.str (f a))=(f y==f a)from rfl];by_cases e:f y=f a
  .have:a=y:=(omc h).resolve_right fun h=>n1 (ua0.mpr ⟨a,h,e.symm⟩);subst this;exact⟨0,by rw[if_pos (ua9 _)],rfl,by rw[if_pos (ua9 _),List.filter_eq_nil_iff.mpr fun z hz q=>n1 (ua0.mpr ⟨z,hz,ua2 q⟩)]⟩
  .have hb:(f y==f a)=false:=beq_false_of_ne e;obtain⟨j,h1,h2,h3⟩:=zcd f ((omc h).resolve_left fun z=>e (by rw[z])) n2;rw[hb];exact⟨j+1,by rw[if_neg (by decide),h1];rfl,by simpa using h2,by rw[if_neg (by decide)];exact h3⟩
theorem zst{α:Type}(f:α->Str){l:List α}{a:α}(h:a∈l)(nd:(l.map f).Nodup):∃j:Nat,yb7 .index (.lst (l.map fun x=>T.str (f x))) (.str (f a))=some (.int (j:Int))/\l[j]?=some a:=by
 obtain⟨j,h1,h2,_⟩:=zcd f h nd;refine⟨j,?_,h2⟩;have fl:(l.map fun x=>T.str (f x)).all ycu=true:=uc1.mpr fun t ht=>by obtain⟨a,_,rfl⟩:=omm ht;rfl
 simp only[yb7];rw[if_pos (by rw[fl];rfl),h1];rfl
abbrev Row:=List (Col×T)
noncomputable def Wok(c:Col)(w:T):Prop:=w=.non\/((c.k==("text":Str))=true/\∃x,w=.str x)\/((c.k==("text":Str))=false/\∃i,w=.int i)
structure RowOk(b:Tb)(ps:Row):Prop where
 cs:ps.map (·.1)=b.cs
 wk:∀p∈ps,Wok p.1 p.2
 ng:∀p∈ps,p.1.g=false->p.2≠.non
noncomputable def yag(ps:Row):T:=.tup (ps.map (·.2))
def kk(t:T):Kt:=(keyO t).getD (.inl 0)
noncomputable def val(ps:Row)(x:Str):T:=match ps.filter (fun p=>p.1.n==x)with|p::_=>p.2|[]=>.non
def wK(qa:List Str)(ps:Row):List Kt:=qa.map fun x=>kk (val ps x)
noncomputable def ybe(k:List Kt):Bool:=k.any fun x=>decide (x=.inr none)
def yai(b:Tb)(ps:Row):List Kt:=wK b.key ps
def kyT(b:Tb)(ps:Row):T:=tkT (yai b ps)
def woT(qa:List Str)(ps:Row):T:=if ybe (wK qa ps)=true then .non else tkT (wK qa ps)
theorem zxi{c:Col}{w:T}(h:Wok c w):kT (kk w)=w:=by rcases h with rfl|⟨_,x,rfl⟩|⟨_,i,rfl⟩<;>rfl
section
variable {b:Tb}{ps qs:Row}{x:Str}{qa:List Str}
theorem RowOk.at(hb:b.ok)(hp:RowOk b ps)(h:∃c∈b.cs,c.n=x):∃(j:Nat)(p:Col×T),p∈ps/\p.1.n=x/\yb7 .index (.lst (b.cs.map fun c=>T.str c.n)) (.str x)=some (.int (j:Int))/\(ps.map (·.2))[j]?=some p.2/\val ps x=p.2:=by
 obtain⟨c,hc,rfl⟩:=h;rw[<-hp.cs]at hc;obtain⟨p,hpm,rfl⟩:=omm hc;have nd:(ps.map (·.1.n)).Nodup:=by have:=hb.nd;rw[<-hp.cs,zyi]at this;exact this
 obtain⟨j,h1,h2⟩:=zst (fun p:Col×T=>p.1.n) hpm nd;obtain⟨_,_,_,h3⟩:=zcd (fun p:Col×T=>p.1.n) hpm nd;refine⟨j,p,hpm,rfl,by rw[<-hp.cs,zyi];exact h1,by rw[zx0,h2];rfl,by unfold val;rw[h3]⟩
theorem zpv(hb:b.ok)(hp:RowOk b ps)(hc:∀x∈qa,∃c∈b.cs,c.n=x):T.tup (qa.map (val ps))=tkT (wK qa ps):=by unfold tkT wK;rw[zyi];refine zx2 T.tup (ua8 fun x hx=>?_);obtain⟨_,p,hpm,_,_,_,e⟩:=hp.at hb (hc x hx);show val ps x=kT (kk (val ps x));rw[e,zxi (hp.wk p hpm)]
theorem zeb(hb:b.ok)(hp:RowOk b ps)(hq:RowOk b qs)(hx:x∈b.key):(∃i j:Int,val ps x=.int i/\val qs x=.int j)\/∃u v:Str,val ps x=.str u/\val qs x=.str v:=by
 obtain⟨c,hc,rfl,hg⟩:=hb.kg x hx;have one:∀{rs:Row},RowOk b rs->((c.k==("text":Str))=true/\∃y,val rs c.n=.str y)\/((c.k==("text":Str))=false/\∃i,val rs c.n=.int i):=fun{rs}hr=>by
  obtain⟨_,p,hpm,e1,_,_,e⟩:=hr.at hb ⟨c,hc,rfl⟩;have:p.1∈b.cs:=by rw[<-hr.cs];exact ua0.mpr ⟨p,hpm,rfl⟩
  have ep:p.1=c:=by have h1:=(zcd (·.n) this hb.nd).choose_spec.2.2;have h2:=(zcd (·.n) hc hb.nd).choose_spec.2.2;rw[e1,h2]at h1;exact(List.cons.inj h1).1.symm
  have w:=hr.wk p hpm;rw[e];rw[ep]at w;rcases w with z|z
  .exact absurd z (hr.ng p hpm (by rw[ep];exact hg))
  .exact z
 rcases one hp with⟨h1,u,e1⟩|⟨h1,u,e1⟩<;>rcases one hq with⟨h2,v,e2⟩|⟨h2,v,e2⟩
 .exact .inr ⟨u,v,e1,e2⟩
 .rw[h1]at h2;cases h2
 .rw[h1]at h2;cases h2
 .exact .inl ⟨u,v,e1,e2⟩
theorem zch(hb:b.ok)(hp:RowOk b ps):ybi (yai b ps):=fun y hy z=>by obtain⟨x,hx,rfl⟩:=omm hy;rcases zeb hb hp hp hx with⟨i,_,e,_⟩|⟨u,_,e,_⟩<;>rw[e]at z<;>cases z
theorem zma(hb:b.ok)(hp:RowOk b ps):kyT b ps=.tup (b.key.map (val ps)):=(zpv hb hp hb.inn).symm
theorem zl2(hb:b.ok)(hp:RowOk b ps)(hq:RowOk b qs):∃c,ltD (kyT b ps) (kyT b qs)=some c:=by
 rw[zma hb hp,zma hb hq];show ∃c,yaz (b.key.map (val ps)) (b.key.map (val qs))=some c;have:∀ks:List Str,(∀x∈ks,x∈b.key)->∃c,yaz (ks.map (val ps)) (ks.map (val qs))=some c:=by
  intro ks
  induction ks with
  |nil=>intro _;exact⟨_,rfl⟩
  |cons x ks ih=>intro h;obtain⟨c,e⟩:=ih fun y hy=>h y (.tail _ hy);rw[zxz,zxz,yaz];show ∃c,(if eqT (val ps x) (val qs x)=true then yaz (ks.map (val ps)) (ks.map (val qs))else ltD (val ps x) (val qs x))=some c;rw[e];rcases zeb hb hp hq (h x (.head _))with⟨i,j,e1,e2⟩|⟨u,v,e1,e2⟩<;>rw[e1,e2]<;>split<;>exact⟨_,rfl⟩
 exact this b.key fun _ h=>h
theorem zkn(hb:b.ok){R:List Row}(hR:∀ps∈R,RowOk b ps)(nd:(R.map (yai b)).Nodup)(hl:R.length<=60):∃R':List Row,R'.Perm R/\ya5 (R.map (kyT b))=some (.lst (R'.map (kyT b))):=by
 have inj:∀{a c:List Kt},tkT a=tkT c->a=c:=fun{a c}e=>by have:=zfi a c;rw[e]at this;have r:=zfi c c;rw[this]at r;simpa using r
 have nd':(R.map (kyT b)).Nodup:=by rw[show R.map (kyT b)=(R.map (yai b)).map tkT by rw[zyi];rfl];exact List.Pairwise.map _ (fun a c n e=>n (inj e)) nd
 obtain⟨y,r,ek⟩:∃y r,b.key=y::r:=by
  cases q:b.key with
  |nil=>exact absurd q hb.kn
  |cons y r=>exact⟨y,r,rfl⟩
 have ok:OkN (R.map (kyT b)):=zlp (yea 4) (by lia) (by rw[zxt];exact hl) nd' (fun t ht=>by
  obtain⟨ps,hps,rfl⟩:=omm ht;exact zml (zch hb (hR ps hps))) (fun t ht u hu=>by
  obtain⟨ps,hps,rfl⟩:=omm ht;obtain⟨qs,hqs,rfl⟩:=omm hu;exact zl2 hb (hR ps hps) (hR qs hqs)) (.inl <|by
  cases R with
  |nil=>exact⟨0,fun t ht=>nomatch ht⟩
  |cons p R=>
   have hy:y∈b.key:=by rw[ek];exact .head _
   have k1:∀t∈(p::R).map (kyT b),∃ps∈p::R,t=.tup (val ps y::r.map (val ps)):=fun t ht=>by obtain⟨ps,hps,rfl⟩:=omm ht;exact⟨ps,hps,by rw[zma hb (hR ps hps),ek];rfl⟩
   rcases zeb hb (hR p (.head _)) (hR p (.head _)) hy with⟨i,_,e,_⟩|⟨u,_,e,_⟩
   .refine⟨0,fun t ht=>?_⟩;obtain⟨ps,hps,rfl⟩:=k1 t ht;rcases zeb hb (hR p (.head _)) (hR ps hps) hy with⟨_,j,_,e2⟩|⟨_,_,e3,_⟩
    .exact⟨_,_,rfl,by rw[e2];rfl⟩
    .rw[e]at e3;cases e3
   .refine⟨1,fun t ht=>?_⟩;obtain⟨ps,hps,rfl⟩:=k1 t ht;rcases zeb hb (hR p (.head _)) (hR ps hps) hy with⟨_,_,e3,_⟩|⟨_,j,_,e2⟩
    .rw[e]at e3;cases e3
    .exact⟨_,_,rfl,by rw[e2];rfl⟩)
 have pm:=za0 (R.map (kyT b));obtain⟨R',h2,h1⟩:=zbr pm rfl;exact⟨R',h1,by unfold ya5;rw[if_pos ok,h2]⟩
theorem zme{q:Row}(hb:b.ok){M:List Row}(h:∀ps∈M,RowOk b ps)(hq:RowOk b q):yac (M.map (kyT b)) (kyT b q)=true:=by unfold yac;rw[show isK (kyT b q)=true from zml (zch hb hq),(uc1.mpr fun t ht=>by obtain⟨p,hp,rfl⟩:=omm ht;exact zml (zch hb (h p hp)):(M.map (kyT b)).all isK=true)];simp
theorem ze8(hb:b.ok):∀(R M:List Row),(∀ps∈M,RowOk b ps)->(∀ps∈R,RowOk b ps)->(M.map (yai b)).Nodup->∃M':List Row,ya7 (R.map fun ps=>.tup [kyT b ps,yag ps]) (M.map (kyT b)) (M.map yag)=some (.dic (M'.map (kyT b)) (M'.map yag))/\(∀ps∈M',RowOk b ps)/\(M'.map (yai b)).Nodup/\M'.length<=M.length+R.length
 |[],M,h,_,nd=>⟨M,rfl,h,nd,zx3 _⟩
 |q::R,M,h,hR,nd=>by
  have hq:=hR q (.head _);have key:∀M:List Row,(M.map (yai b)).Nodup->(∀ps∈M,RowOk b ps)->∃M':List Row,yad (M.map (kyT b)) (kyT b q)=M'.map (kyT b)/\yap (M.map (kyT b)) (M.map yag) (kyT b q) (yag q)=M'.map yag/\(∀ps∈M',RowOk b ps)/\(M'.map (yai b)).Nodup/\M'.length<=M.length+1/\∀ps∈M',yai b ps=yai b q\/∃p∈M,yai b ps=yai b p:=by
   intro M
   induction M with
   |nil=>intro _ _;exact⟨[q],rfl,rfl,fun p hp=>by rw[omg hp];exact hq,by simp,Nat.le_refl _,fun p hp=>by rw[omg hp];exact .inl rfl⟩
   |cons p M ih=>
    intro nd h;rw[zxz]at nd;obtain⟨n1,n2⟩:=ua7.mp nd;have e:eqT (kyT b p) (kyT b q)=decide (yai b p=yai b q):=zfi _ _;rw[zxz,zxz,yap,yad,ybv,ub7,e];by_cases z:yai b p=yai b q
    .rw[zx8 z,Bool.true_or,if_pos rfl,if_pos rfl];refine⟨q::M,by rw[zxz,kyT,kyT,z],rfl,fun x hx=>?_,by rw[zxz,<-z];exact nd,Nat.le_succ _,fun x hx=>?_⟩
     .rcases omc hx with rfl|hx
      .exact hq
      .exact h x (.tail _ hx)
     .rcases omc hx with rfl|hx
      .exact .inl rfl
      .exact .inr ⟨x,.tail _ hx,rfl⟩
    .obtain⟨M',m1,m2,m3,m4,m5,m6⟩:=ih n2 fun x hx=>h x (.tail _ hx);rw[zy4 z,Bool.false_or,if_neg (show ¬(false=true)from zys),m2];refine⟨p::M',?_,rfl,fun x hx=>?_,ua7.mpr ⟨fun w=>?_,m4⟩,Nat.succ_le_succ m5,fun x hx=>?_⟩
     .rw[zxz,<-m1];unfold yad ybv;by_cases w:((M.map (kyT b)).any fun k=>eqT k (kyT b q))=true
      .rw[if_pos w,if_pos w]
      .rw[if_neg w,if_neg w];rfl
     .rcases omc hx with rfl|hx
      .exact h _ (.head _)
      .exact m3 x hx
     .obtain⟨x,hx,ex⟩:=omm w;rcases m6 x hx with y|⟨y,hy,ey⟩
      .exact z (ex.symm.trans y)
      .exact n1 (ua0.mpr ⟨y,hy,by rw[<-ey,ex]⟩)
     .rcases omc hx with rfl|hx
      .exact .inr ⟨_,.head _,rfl⟩
      .rcases m6 x hx with y|⟨y,hy,ey⟩
       .exact .inl y
       .exact .inr ⟨y,.tail _ hy,ey⟩
  obtain⟨M',m1,m2,m3,m4,m5,_⟩:=key M nd h;obtain⟨M2,r1,r2,r3,r4⟩:=ze8 hb R M' m3 (fun x hx=>hR x (.tail _ hx)) m4;refine⟨M2,?_,r2,r3,by rw[zya];lia⟩;show(if yac (M.map (kyT b)) (kyT b q)=true then ya7 _ (yad (M.map (kyT b)) (kyT b q)) (yap (M.map (kyT b)) (M.map yag) (kyT b q) (yag q))else none)=_;rw[if_pos (zme hb h hq),m1,m2];exact r1
theorem zgo:∀{M:List Row},(M.map (yai b)).Nodup->∀q∈M,yae (M.map (kyT b)) (M.map yag) (kyT b q)=some (yag q)
 |p::M,nd,q,hq=>by
  rw[zxz]at nd;obtain⟨n1,n2⟩:=ua7.mp nd;rw[zxz,zxz,yae,show eqT (kyT b p) (kyT b q)=decide (yai b p=yai b q)from zfi _ _];rcases omc hq with rfl|hq
  .rw[if_pos (zx8 rfl)]
  .rw[if_neg (by simpa using fun e=>n1 (ua0.mpr ⟨q,hq,Eq.symm e⟩))];exact zgo n2 q hq
end
theorem zgb(h:P.fn "_law_worth"=some zb4)(n:Nat)(c:Col)(k:Int):∃w,run P (n+1) "_law_worth" [c.t,.int k]=some w/\Wok c w/\(c.g=false->w≠.non):=by
 refine yes (i:=0) (Q:=fun o=>∃w,o=.rt w/\Wok c w/\(c.g=false->w≠.non)) h ?_ fun o ⟨w,e,q⟩=>⟨w,e,q⟩;obtain⟨x,_,ex⟩:=zbg T.str ["a", "b", "", "ab", "a", "x9"] (by simp) (k/4) (m:=6) rfl;obtain⟨i,_,ei⟩:=zbg T.int [0,1,2,3,1,2,4,-5] (by simp) (k/4) (m:=8) rfl;refine yay (q:=c.g&&(k%4==0)) (zaq rfl fun _=>rfl) (fun q=>zah rfl ⟨.non,rfl,.inl rfl,fun z=>by rw[z]at q;cases q⟩) fun _=>?_;refine yay (q:=c.k==("text":Str)) (zag rfl rfl (sw rfl)) (fun q=>?_) fun q=>?_
 .exact zah (zae rfl (zak rfl rfl (zam (by decide))) ex) ⟨_,rfl,.inr (.inl ⟨q,x,rfl⟩),fun _ z=>nomatch z⟩
 .exact zah (zae rfl (zak rfl rfl (zam (by decide))) ei) ⟨_,rfl,.inr (.inr ⟨q,i,rfl⟩),fun _ z=>nomatch z⟩
section
variable {P:Pr}{G:Glo}{b:Tb}{ps:Row}{qa:List Str}
theorem zky(hd:P.fn "_law_drawn"=some za8)(hw:P.fn "_law_worth"=some zb4)(h:P.fn "_law_row"=some zen)(n:Nat)(hb:b.ok)(k:Int):∃ps,run P (n+2) "_law_row" [b.t,.int k]=some (yag ps)/\RowOk b ps:=by
 refine yct (i:=0) yag h (n:=n+1) ?_;obtain⟨M,e1,e2,hM⟩:=zes (G:=glo P (n+1)) (e:=.call "_law_worth" [.var 1,.bin .fdiv (.call "_law_drawn" [.var 3,.var 0]) (.cst (.int 4))]) (n:=2) (k:=.enum) (es:=[.idx (.var 0) (.cst (.int 1))]) (ρ:=fv (st0 [b.t,T.int k] 0)) (enc:=fun p:Col×Nat=>T.tup [.int (p.2:Int),p.1.t]) (dec:=fun w=>w) (R:=b.cs.zipIdx 0) (fun p w=>Wok p.1 w/\(p.1.g=false->w≠.non)) (yaa (zae rfl rfl (t1 b)) rfl) (zit (by have:=hb.cl;lia) (.inr rfl)) fun p _=>by obtain⟨w,e,q⟩:=zgb hw n p.1 (yan k p.2/4);exact⟨w,_,rfl,zab e (yaa rfl (yaa (zak (zab (zbz hd n k p.2) (yaa rfl (yaa rfl rfl))) rfl rfl) rfl)),q⟩
 refine zah (t:=yag (M.map fun p=>(p.1.1,p.2))) (za1 e1 (by rw[yag,zyi];rfl)) ⟨_,rfl,?_,fun q hq=>?_,fun q hq=>?_⟩
 .rw[zyi,show((·.1)∘fun p:(Col×Nat)×T=>(p.1.1,p.2))=(·.1)∘(·.1)from rfl,<-zyi,e2];exact List.zipIdx_map_fst ..
 .obtain⟨p,hp,rfl⟩:=omm hq;exact(hM p hp).1
 .obtain⟨p,hp,rfl⟩:=omm hq;exact(hM p hp).2
theorem zc1(h:P.fn "_law_names"=some za7)(n:Nat)(hb:b.ok):run P (n+1) "_law_names" [b.t]=some (.lst (b.cs.map fun c=>T.str c.n)) :=
 have:=zar
 ybr (i:=0) h (zah (zb1 (enc:=Col.t) (R:=b.cs) (fun c=>T.str c.n) (yaa (zae rfl rfl (t1 b)) rfl) (zaw (by have:=hb.cl;rw[zxt];lia)) fun c _=>rfl) rfl)
theorem zfg{x:E}{ρ:Env}{e:E}(hb:b.ok)(hp:RowOk b ps)(hc:∀x∈qa,∃c∈b.cs,c.n=x)(h4:qa.length<=4)(hx:evE G x ρ=some (ya0 qa))(he:∀y(i:Nat)v,yb7 .index (.lst (b.cs.map fun c=>T.str c.n)) (.str y)=some (.int (i:Int))->ya6 (yag ps) (.int (i:Int))=some v->evE G e (some (.str y)::ρ)=some v):evE G (.blt .toTuple (.comp e 1 .plain [x] none)) ρ=some (tkT (wK qa ps)):=by have:=zar;rw[<-zpv hb hp hc];refine za1 (zb1 (enc:=T.str) (R:=qa) (val ps) (yaa hx rfl) (zaw (by rw[zxt];lia)) fun y hy=>?_) rfl;obtain⟨j,p,_,_,h1,h2,h3⟩:=hp.at hb (hc y hy);exact he y j _ h1 (by rw[h3];exact za6 h2)
theorem zoq(hn:P.fn "_law_names"=some za7)(h:P.fn "_law_key"=some zeq)(n:Nat)(hb:b.ok)(hp:RowOk b ps):run P (n+2) "_law_key" [b.t,yag ps]=some (kyT b ps) :=
 ybr (i:=0) (n:=n+1) h (zah (zfg hb hp hb.inn (by have:=hb.k1;lia) (zae rfl rfl (t2 b)) fun _ _ _ h1 h2=>zae rfl (zgm (zab (zc1 hn n hb) rfl) rfl h1) h2) rfl)
theorem zqi(k:List Kt):inC .non (tkT k)=some (ybe k):=by
 have h1:dpI .non (k.map kT)=true:=uc1.mpr fun t ht=>by obtain⟨x,_,rfl⟩:=omm ht;rcases x with _|_|_<;>rfl
 show(if dpI .non (k.map kT)=true then some ((k.map kT).any fun z=>eqT z .non)else none)=_;rw[if_pos h1,List.any_map,ybe];congr;funext x;exact zvp x (.inr none)
theorem zvg(hn:P.fn "_law_names"=some za7)(h:P.fn "_law_worths"=some zci)(n:Nat)(hb:b.ok)(hp:RowOk b ps)(hc:∀x∈qa,∃c∈b.cs,c.n=x)(h4:qa.length<=4):run P (n+2) "_law_worths" [b.t,yag ps,ya0 qa]=some (woT qa ps):=by refine ybr (i:=1) (n:=n+1) h (zad (zfg hb hp hc h4 rfl fun _ _ _ h1 h2=>zae rfl (zgm (zab (zc1 hn n hb) rfl) rfl h1) h2) ?_);refine zah (zae (zhe rfl) (za1 (zag rfl rfl (by rw[yaw,zqi];rfl)) rfl) (t:=woT qa ps) ?_) rfl;unfold woT;cases ybe (wK qa ps)<;>rfl
theorem zje(h:P.fn "worths_of"=some ya8)(n:Nat)(hb:b.ok)(hp:RowOk b ps)(hc:∀x∈qa,∃c∈b.cs,c.n=x)(h4:qa.length<=4):run P (n+1) "worths_of" [b.t,yag ps,ya0 qa]=some (tkT (wK qa ps)):=by have:=zar;refine ybr (i:=1) h (zad (zb1 (enc:=Col.t) (R:=b.cs) (fun c=>T.str c.n) (yaa (zae rfl rfl (t1 b)) rfl) (zaw (by have:=hb.cl;rw[zxt];lia)) fun c _=>rfl) ?_);exact zah (zfg hb hp hc h4 rfl fun _ _ _ h1 h2=>zae rfl (zgm rfl rfl h1) h2) rfl
abbrev Zt:=Tb×List Row
noncomputable def yak(Z:List Zt):T:=.tup (Z.map fun z=>z.1.t)
def rwT(z:Zt):T:=.tup (z.2.map yag)
def stT(Z:List Zt):T:=.tup (Z.map rwT)
theorem zj3:∀Z:List Zt,ybj (Z.map fun z=>z.1.t) (Z.map rwT)=Z.map fun z=>.tup [z.1.t,rwT z]
 |[]=>rfl
 |z::Z=>by rw[zxz,zxz,zxz,ybj,zj3 Z]
theorem zlr{Z:List Zt}{g:Zt}(h:g∈Z)(nd:(Z.map (·.1.nm)).Nodup):(Z.filter fun z=>z.1.nm==g.1.nm)=[g]:=(zcd (fun z:Zt=>z.1.nm) h nd).choose_spec.2.2
theorem zl3{Z:List Zt}{z:Zt}(h:P.fn "_law_rows"=some zdi)(n:Nat)(h4:Z.length<=4)(hz:z∈Z)(nd:(Z.map (·.1.nm)).Nodup):run P (n+1) "_law_rows" [yak Z,stT Z,.str z.1.nm]=some (rwT z):=by have:=zar;obtain⟨i,h1,h2⟩:=zst (fun z:Zt=>z.1.nm) hz nd;exact ybr (i:=0) h (zah (zae rfl (zgm (zb1 (enc:=fun z:Zt=>z.1.t) (R:=Z) (fun z=>T.str z.1.nm) rfl (zaw (by rw[zxt];lia)) fun z _=>zae rfl rfl (t0 _)) rfl h1) (za6 (xs:=Z.map rwT) (by rw[zx0,h2];rfl))) rfl)
theorem zvh(h:P.fn "_law_table"=some zcs)(n:Nat){Z:List Zt}(l4:Z.length<=4)(nd:(Z.map (·.1.nm)).Nodup){g:Zt}(hg:g∈Z):run P (n+1) "_law_table" [yak Z,.str g.1.nm]=some g.1.t:=by have:=zar;refine ybr (i:=0) h (zah (zae (zba (enc:=fun z:Zt=>z.1.t) (R:=Z) (fun z=>z.1.nm==g.1.nm) (fun z=>z.1.t) rfl (zaw (by rw[zxt];lia)) fun z _=>⟨_,rfl,zag (zae rfl rfl (t0 _)) rfl (sw rfl),fun _=>rfl⟩) rfl ?_) rfl);rw[zlr hg nd];rfl
theorem zxg(hb:b.ok)(hp:RowOk b ps)(cn:G.call "_law_names" [b.t]=some (.lst (b.cs.map fun c=>T.str c.n)))(d:Nat)(t:Tst)(ht:t.ok b.cs (d+1))(sub:∀t:Tst,t.ok b.cs d->∃i:Int,G.call "_law_level" [b.t,t.t,yag ps]=some (.int i)):W G zbp.body (st0 [b.t,t.t,yag ps] 3) fun o=>∃i:Int,o=.rt (.int i):=by
 have two:∀{x:E}{ρ:Env}{v:Bool},evE G x ρ=some (.bl v)->evE G (.bin .mul (.cst (.int 2)) (.blt .toInt x)) ρ=some (.int (2*if v then 1 else 0)):=fun h=>zak rfl (za1 h rfl) (zhc (by decide));have at':∀{x:Str}{e y:E}{ρ:Env},(∃c∈b.cs,c.n=x)->evE G e ρ=some (.str x)->ρ[0]?=some (some b.t)->ρ[2]?=some (some (yag ps))->∃(p:Col×T),p∈ps/\p.1.n=x/\evE G (.idx (.var 2) (.mth .index (.call "_law_names" [.var 0]) e)) ρ=some p.2:=fun hc he h0 h2=>by obtain⟨j,p,h1,h3,h4,h5,_⟩:=hp.at hb hc;exact⟨p,h1,h3,zae (u:=yag ps) (by rw[evE,h2];rfl) (zgm (zab cn (yaa (by rw[evE,h0];rfl) rfl)) he h4) (za6 h5)⟩
 have isn:∀v:T,∃c,yaw .isN v .non=some (.bl c):=fun v=>by cases v<;>exact⟨_,rfl⟩
 have pair:∀{a c:Tst}{w:Str},a.ok b.cs d->c.ok b.cs d->∃i j:Int,evE G (.comp (.call "_law_level" [.var 1,.var 0,.var 3]) 1 .plain [.sli (.var 1) (some (.cst (.int 1))) none] none) (fv [.val b.t,T.tup [.str w,a.t,c.t],.val (yag ps),T.str w,.no,.no])=some (.lst [.int i,.int j]):=fun{a c w}ha hc=>by
  obtain⟨i,ei⟩:=sub a ha;obtain⟨j,ej⟩:=sub c hc;obtain⟨M,e1,e2,hM⟩:=zes (G:=G) (e:=.call "_law_level" [.var 1,.var 0,.var 3]) (n:=1) (k:=.plain) (es:=[.sli (.var 1) (some (.cst (.int 1))) none]) (ρ:=fv [.val b.t,T.tup [.str w,a.t,c.t],.val (yag ps),T.str w,.no,.no]) (ts:=[.tup [a.t,c.t]]) (enc:=Tst.t) (dec:=T.int) (R:=[a,c]) (fun _ _=>True) rfl rfl fun t h=>by
   rcases omc h with rfl|h
   .exact⟨i,_,rfl,zab ei rfl,trivial⟩
   .rw[omg h];exact⟨j,_,rfl,zab ej rfl,trivial⟩
  rcases M with _|⟨⟨_,i⟩,_|⟨⟨_,j⟩,_|_⟩⟩<;>first|(simp at e2;done)|exact⟨i,j,e1⟩
 have fin:∀{tt a v:T}{w:Str}{q:Bool},(∀c1 c2,yaw .isN a .non=some (.bl c1)->yaw .isN v .non=some (.bl c2)->(c1||c2)=false->evE G (.lor (.land (.cmp .eq (.var 3) (.cst (.str "is"))) (.cmp .eq (.var 4) (.var 5))) (.land (.cmp .eq (.var 3) (.cst (.str "below"))) (.cmp .lt (.var 4) (.var 5)))) (fv [.val b.t,.val tt,.val (yag ps),T.str w,.val a,.val v])=some (.bl q))->W G (zbp.body.drop 8) [.val b.t,.val tt,.val (yag ps),T.str w,.val a,.val v] fun o=>∃i:Int,o=.rt (.int i):=fun{tt a v w q}h=>by obtain⟨c1,e1⟩:=isn a;obtain⟨c2,e2⟩:=isn v;exact yay (zgn (zag rfl rfl e1) fun _=>zag rfl rfl e2) (fun _=>zah rfl ⟨_,rfl⟩) fun z=>zah (two (h c1 c2 e1 e2 z)) ⟨_,rfl⟩
 cases t with
 |neg t=>obtain⟨i,e⟩:=sub t ht;refine zad rfl ?_;exact zdx rfl (zah (zak rfl (zab e rfl) rfl) ⟨_,rfl⟩)
 |cnj a c=>obtain⟨i,j,e⟩:=pair (w:="and") ht.1 ht.2;refine zad rfl ?_;refine za4 rfl ?_;exact zdx rfl (zah (za1 e rfl) ⟨_,rfl⟩)
 |dsj a c=>obtain⟨i,j,e⟩:=pair (w:="or") ht.1 ht.2;refine zad rfl ?_;refine za4 rfl ?_;refine za4 rfl ?_;exact zdx rfl (zah (za1 e rfl) ⟨_,rfl⟩)
 |emp x=>refine zad rfl ?_;refine za4 rfl ?_;refine za4 rfl ?_;refine za4 rfl ?_;obtain⟨p,_,_,e⟩:=at' (e:=.idx (.var 1) (.cst (.int 1))) (y:=.var 0) ht rfl rfl rfl (ρ:=fv [.val b.t,.val (Tst.emp x).t,.val (yag ps),T.str "empty",.no,.no]);refine zad e ?_;obtain⟨c1,e1⟩:=isn p.2;exact zdx rfl (zah (two (zag rfl rfl e1)) ⟨_,rfl⟩)
 |isV x v=>
  refine zad rfl ?_;refine za4 rfl ?_;refine za4 rfl ?_;refine za4 rfl ?_;obtain⟨p,hpm,_,e⟩:=at' (e:=.idx (.var 1) (.cst (.int 1))) (y:=.var 0) ht.1 rfl rfl rfl (ρ:=fv [.val b.t,.val (Tst.isV x v).t,.val (yag ps),T.str "is",.no,.no]);refine zad e ?_;refine za4 rfl ?_;refine zad rfl ?_;refine za4 rfl ?_;have hd:dpP p.2 v=0:=by have hv:=ht.2;rcases hp.wk p hpm with z|⟨_,y,z⟩|⟨_,y,z⟩<;>rw[z]<;>cases v<;>first|rfl|cases hv
  exact fin (q:=(true&&eqT p.2 v)||(false&&true)) fun _ _ _ _ _=>zgn (zaq rfl fun _=>zag rfl rfl (by show(if dpP p.2 v<=30 then _ else none)=_;rw[hd];rfl)) fun _=>zaq rfl fun z=>by cases z
 |bel x y=>
  obtain⟨o,ho,o',ho',rfl,rfl,hk⟩:=ht;refine zad rfl ?_;refine za4 rfl ?_;refine za4 rfl ?_;refine za4 rfl ?_;obtain⟨p,hpm,pn,e⟩:=at' (e:=.idx (.var 1) (.cst (.int 1))) (y:=.var 0) ⟨o,ho,rfl⟩ rfl rfl rfl (ρ:=fv [.val b.t,.val (Tst.bel o.n o'.n).t,.val (yag ps),T.str "below",.no,.no]);refine zad e ?_;refine za4 rfl ?_;refine zad rfl ?_;obtain⟨q,hqm,qn,e'⟩:=at' (e:=.idx (.var 1) (.cst (.int 2))) (y:=.var 0) ⟨o',ho',rfl⟩ rfl rfl rfl (ρ:=fv [.val b.t,.val (Tst.bel o.n o'.n).t,.val (yag ps),T.str "below",.val p.2,T.str o'.n]);refine zdx rfl (zad e' (zaf ?_));have kd:∀{p:Col×T}{o:Col},p∈ps->o∈b.cs->p.1.n=o.n->p.1=o:=fun{p o}h1 h2 h3=>by
   have h0:p.1∈b.cs:=by rw[<-hp.cs];exact ua0.mpr ⟨p,h1,rfl⟩
   have a1:=(zcd (·.n) h0 hb.nd).choose_spec.2.2;have a2:=(zcd (·.n) h2 hb.nd).choose_spec.2.2;rw[h3,a2]at a1;exact(List.cons.inj a1).1.symm
  have w1:=hp.wk p hpm;have w2:=hp.wk q hqm;rw[kd hpm ho pn]at w1;rw[kd hqm ho' qn]at w2;unfold Wok at w1 w2;rw[<-hk]at w2;obtain⟨l,hl⟩:∃l,∀c1 c2,yaw .isN p.2 .non=some (.bl c1)->yaw .isN q.2 .non=some (.bl c2)->(c1||c2)=false->ltC p.2 q.2=some (.bl l):=by
   rcases w1 with z|⟨k1,a,z⟩|⟨k1,a,z⟩<;>rcases w2 with y|⟨k2,c,y⟩|⟨k2,c,y⟩<;>rw[z,y]<;>first
    |(rw[k1]at k2;cases k2;done)
    |exact⟨_,fun _ _ _ _ _=>rfl⟩
    |exact⟨true,fun c1 c2 h1 h2 h3=>by cases h2;rw[Bool.or_true]at h3;cases h3⟩
    |exact⟨true,fun c1 c2 h1 h2 h3=>by cases h1;cases h3⟩
  exact fin (q:=(false&&true)||(true&&l)) fun c1 c2 h1 h2 h3=>zgn (zaq rfl fun z=>by cases z) fun _=>zaq rfl fun _=>zag rfl rfl (hl c1 c2 h1 h2 h3)
theorem zgr(hn:P.fn "_law_names"=some za7)(h:P.fn "_law_level"=some zbp)(hb:b.ok)(hp:RowOk b ps):∀(d n:Nat)(t:Tst),t.ok b.cs d->∃i:Int,run P (n+d+1) "_law_level" [b.t,t.t,yag ps]=some (.int i)
 |d+1,n,t,ht=>w_1 .int h (n:=n+d+1) (zxg hb hp (zc1 hn (n+d) hb) d t ht fun t ht=>zgr hn h hb hp d n t ht)
end
noncomputable def zcj:Fd:=⟨4,11,[.asg 4 (.call "_law_rows" [.var 0,.var 1,.idx (.var 2) (.cst (.int 0))]),
  .ite (.cmp .eq (.idx (.var 3) (.cst (.int 0))) (.cst (.str "check"))) [.ret (.comp (.call "_law_key" [.var 3,.var 0]) 1 .plain [.var 4] (some (.cmp .eq (.call "_law_level" [.var 3,.idx (.var 4) (.cst (.int 1)),.var 0]) (.cst (.int 0)))))] [],
  .asg 6 (.comp (.call "_law_worths" [.var 3,.var 0,.idx (.var 4) (.cst (.int 1))]) 1 .plain [.var 4] none),
  .asg 7 (.lst []),
  .loop [5,8] .zip [.var 4,.var 6] [.asg 9 (.land (.cmp .notN (.var 8) (.cst .non)) (.cmp .gt (.mth .count (.var 6) (.var 8)) (.cst (.int 1)))),
  .ite (.land (.cmp .eq (.idx (.var 3) (.cst (.int 0))) (.cst (.str "refers"))) (.cmp .notN (.var 8) (.cst .non))) [.asg 10 (.call "_law_table" [.var 0,.idx (.var 3) (.cst (.int 2))]),
  .asg 9 (.cmp .notin (.var 8) (.comp (.call "_law_key" [.var 11,.var 0]) 1 .plain [.call "_law_rows" [.var 0,.var 1,.idx (.var 3) (.cst (.int 2))]] none))] [],
  .ite (.tru (.var 9)) [.app 7 (.call "_law_key" [.var 2,.var 5])] []],
  .ret (.var 7)]⟩
noncomputable def zcv:Fd:=⟨3,8,[.asg 3 (.lst []),
  .loop [4] .plain [.var 0] [.loop [5] .plain [.idx (.var 4) (.cst (.int 3))] [.ite (.land (.cmp .eq (.idx (.var 5) (.cst (.int 0))) (.cst (.str "refers"))) (.cmp .eq (.idx (.var 5) (.cst (.int 3))) (.var 2))) [.loop [6] .plain [.call "_law_rows" [.var 0,.var 1,.idx (.var 4) (.cst (.int 0))]] [.asg 7 (.call "_law_worths" [.var 4,.var 6,.idx (.var 5) (.cst (.int 1))]),
  .app 3 (.tup [.tup [.idx (.var 4) (.cst (.int 0)),.call "_law_key" [.var 4,.var 6]],.idx (.var 5) (.cst (.int 1)),.tup [.idx (.var 5) (.cst (.int 2)),.var 7]])]] []]],
  .ret (.var 3)]⟩
noncomputable def zcw:Fd:=⟨4,12,[.asg 4 (.call "_law_table" [.var 0,.var 2]),
  .ite (.cmp .notin (.var 3) (.comp (.call "_law_key" [.var 5,.var 0]) 1 .plain [.call "_law_rows" [.var 0,.var 1,.var 2]] none)) [.ret (.cst (.int 1))] [],
  .asg 5 (.lst [.tup [.var 2,.var 3]]),
  .asg 6 (.lst [.tup [.var 2,.var 3]]),
  .wloop (.cmp .ne (.var 6) (.lst [])) [.lpop 7 6,
  .loop [8,9,10] .plain [.call "_law_links" [.var 0,.var 1,.cst (.str "along")]] [.ite (.land (.cmp .eq (.var 10) (.var 7)) (.cmp .notin (.var 8) (.var 5))) [.app 5 (.var 8),
  .app 6 (.var 8)] []]],
  .loop [8,9,10] .plain [.call "_law_links" [.var 0,.var 1,.cst (.str "stop")]] [.ite (.land (.cmp .isin (.var 10) (.var 5)) (.cmp .notin (.var 8) (.var 5))) [.ret (.cst (.int 5))] []],
  .asg 11 (.comp (.var 0) 1 .plain [.call "_law_links" [.var 0,.var 1,.cst (.str "gap")]] (some (.land (.cmp .isin (.idx (.var 0) (.cst (.int 2))) (.var 6)) (.cmp .notin (.idx (.var 0) (.cst (.int 0))) (.var 6))))),
  .ret (.tup [.var 5,.var 11])]⟩
noncomputable def zep:Fd:=⟨4,7,[.asg 4 (.call "_law_table" [.var 0,.var 2]),
  .asg 5 (.blt .dict (.comp (.tup [.call "_law_key" [.var 5,.var 0],.var 0]) 1 .plain [.var 3] none)),
  .asg 6 (.blt .toTuple (.comp (.idx (.var 6) (.var 0)) 1 .plain [.blt .sorted (.var 5)] none)),
  .ret (.blt .toTuple (.comp (.idx (.lst [.var 1,.var 8]) (.blt .toInt (.cmp .eq (.idx (.var 0) (.cst (.int 0))) (.var 4)))) 2 .zip [.var 0,.var 1] none))]⟩
noncomputable def zdh:Fd:=⟨3,6,[.nw 3 (.blt .toList (.var 1)),
  .loop [4,5] .plain [.var 2] [.put 3 (.mth .index (.call "_law_names" [.var 0]) (.var 4)) (.var 5)],
  .ret (.blt .toTuple (.var 3))]⟩
noncomputable def zb6:Fd:=⟨4,11,[.loop [4] .plain [.var 0] [.asg 5 (.lst []),
  .loop [6] .plain [.call "_law_rows" [.var 0,.var 1,.idx (.var 4) (.cst (.int 0))]] [.asg 7 (.tup [.idx (.var 4) (.cst (.int 0)),.call "_law_key" [.var 4,.var 6]]),
  .loop [8,9,10] .plain [.var 3] [.ite (.cmp .eq (.var 8) (.var 7)) [.asg 6 (.call "_law_with" [.var 4,.var 6,.comp (.tup [.var 0,.cst .non]) 1 .plain [.var 9] none])] []],
  .asg 5 (.bin .add (.var 5) (.bin .mul (.lst [.var 6]) (.blt .toInt (.cmp .notin (.var 7) (.var 2)))))],
  .asg 1 (.call "_law_put" [.var 0,.var 1,.idx (.var 4) (.cst (.int 0)),.var 5])],
  .ret (.var 1)]⟩
noncomputable def zeo:Fd:=⟨3,9,[.asg 3 (.idx (.var 2) (.cst (.int 1))),
  .asg 4 (.call "_law_table" [.var 0,.var 3]),
  .asg 5 (.call "_law_rows" [.var 0,.var 1,.var 3]),
  .asg 6 (.comp (.call "_law_key" [.var 5,.var 0]) 1 .plain [.var 5] none),
  .ite (.cmp .eq (.idx (.var 2) (.cst (.int 0))) (.cst (.str "add"))) [.ite (.cmp .isin (.call "_law_key" [.var 4,.idx (.var 2) (.cst (.int 2))]) (.var 6)) [.ret (.cst (.int 2))] [],
  .ret (.call "_law_put" [.var 0,.var 1,.var 3,.bin .add (.blt .toList (.var 5)) (.lst [.idx (.var 2) (.cst (.int 2))])])] [],
  .ite (.cmp .eq (.idx (.var 2) (.cst (.int 0))) (.cst (.str "drop"))) [.asg 7 (.call "_law_going" [.var 0,.var 1,.var 3,.idx (.var 2) (.cst (.int 2))]),
  .ite (.tru (.isi (.var 7) .tint)) [.ret (.var 7)] [],
  .ret (.call "_law_dropped" [.var 0,.var 1,.idx (.var 7) (.cst (.int 0)),.idx (.var 7) (.cst (.int 1))])] [],
  .ite (.cmp .notin (.idx (.var 2) (.cst (.int 2))) (.var 6)) [.ret (.cst (.int 1))] [],
  .asg 8 (.mth .index (.var 6) (.idx (.var 2) (.cst (.int 2)))),
  .ret (.call "_law_put" [.var 0,.var 1,.var 3,.bin .add (.bin .add (.sli (.var 5) none (some (.var 8))) (.tup [.call "_law_with" [.var 4,.idx (.var 5) (.var 8),.idx (.var 2) (.cst (.int 3))]])) (.sli (.var 5) (some (.bin .add (.var 8) (.cst (.int 1)))) none)])]⟩
noncomputable def zdk:Fd:=⟨3,9,[.asg 3 (.call "_law_raw" [.var 0,.var 1,.var 2]),
  .ite (.tru (.isi (.var 3) .tint)) [.ret (.var 3)] [],
  .dnew 4,
  .loop [5] .plain [.var 0] [.loop [6] .plain [.idx (.var 5) (.cst (.int 3))] [.ite (.land (.cmp .ne (.idx (.var 6) (.neg (.cst (.int 1)))) (.cst (.str "late"))) (.cmp .ne (.call "_law_broken" [.var 0,.var 3,.var 5,.var 6]) (.lst []))) [.put 4 (.idx (.var 6) (.cst (.int 0))) (.cst (.bl true))] []]],
  .loop [7,8] .plain [.tup [.tup [.cst (.int 2),.cst (.str "unlike")],.tup [.cst (.int 3),.cst (.str "check")],.tup [.cst (.int 4),.cst (.str "refers")]]] [.ite (.cmp .isin (.var 8) (.var 4)) [.ret (.var 7)] []],
  .ret (.var 3)]⟩
noncomputable def zdj:Fd:=⟨2,4,[.loop [2] .plain [.var 0] [.loop [3] .plain [.idx (.var 2) (.cst (.int 3))] [.ite (.cmp .ne (.call "_law_broken" [.var 0,.var 1,.var 2,.var 3]) (.lst [])) [.ret (.cst (.bl true))] []]],
  .ret (.cst (.bl false))]⟩
noncomputable def zdl:Fd:=⟨3,14,[.asg 3 (.idx (.var 0) (.bin .mod (.var 2) (.blt .len (.var 0)))),
  .asg 4 (.call "_law_rows" [.var 0,.var 1,.idx (.var 3) (.cst (.int 0))]),
  .asg 5 (.bin .add (.comp (.call "_law_key" [.var 4,.var 0]) 1 .plain [.var 4] none) (.lst [.call "_law_key" [.var 3,.call "_law_row" [.var 3,.bin .fdiv (.var 2) (.cst (.int 64))]]])),
  .asg 6 (.bin .sub (.blt .len (.var 5)) (.blt .toInt (.land (.cmp .gt (.blt .len (.var 5)) (.cst (.int 1))) (.cmp .gt (.bin .mod (.bin .fdiv (.var 2) (.cst (.int 4096))) (.cst (.int 8))) (.cst (.int 0)))))),
  .asg 7 (.idx (.var 5) (.bin .mod (.bin .fdiv (.var 2) (.cst (.int 4))) (.var 6))),
  .asg 8 (.bin .mod (.bin .fdiv (.var 2) (.cst (.int 65536))) (.cst (.int 8))),
  .asg 10 (.comp (.var 0) 1 .plain [.idx (.var 3) (.cst (.int 1))] (some (.cmp .notin (.idx (.var 0) (.cst (.int 0))) (.idx (.var 4) (.cst (.int 2)))))),
  .ite (.lor (.cmp .lt (.var 8) (.cst (.int 4))) (.land (.cmp .eq (.var 8) (.cst (.int 7))) (.cmp .eq (.var 10) (.lst [])))) [.ret (.tup [.cst (.str "add"),.idx (.var 3) (.cst (.int 0)),.call "_law_row" [.var 3,.bin .fdiv (.call "_law_drawn" [.var 2,.cst (.int 7)]) (.cst (.int 4))]])] [],
  .ite (.lor (.cmp .lt (.var 8) (.cst (.int 6))) (.cmp .eq (.var 10) (.lst []))) [.ret (.tup [.cst (.str "drop"),.idx (.var 3) (.cst (.int 0)),.var 7])] [],
  .asg 11 (.lst []),
  .loop [12,9] .enum [.sli (.var 10) none (some (.cst (.int 3)))] [.asg 13 (.bin .fdiv (.call "_law_drawn" [.var 2,.bin .add (.cst (.int 30)) (.var 12)]) (.cst (.int 4))),
  .ite (.lor (.cmp .eq (.bin .mod (.var 13) (.cst (.int 2))) (.cst (.int 0))) (.cmp .eq (.var 12) (.cst (.int 0)))) [.app 11 (.tup [.idx (.var 9) (.cst (.int 0)),.call "_law_worth" [.var 9,.bin .fdiv (.var 13) (.cst (.int 4))]])] []],
  .ret (.tup [.cst (.str "set"),.idx (.var 3) (.cst (.int 0)),.var 7,.blt .toTuple (.var 11)])]⟩
noncomputable def zct:Fd:=⟨3,6,[.asg 3 (.blt .toTuple (.comp (.tup []) 1 .plain [.var 0] none)),
  .loop [4] .range [.var 2] [.asg 5 (.call "_law_done" [.var 0,.var 3,.call "_law_deed" [.var 0,.var 3,.bin .fdiv (.call "_law_drawn" [.var 1,.bin .add (.cst (.int 100)) (.var 4)]) (.cst (.int 4))]]),
  .ite (.land (.lnot (.tru (.isi (.var 5) .tint))) (.lnot (.tru (.call "_law_late" [.var 0,.var 5])))) [.asg 3 (.var 5)] []],
  .ret (.var 3)]⟩
def Rws(b:Tb)(R:List Row):Prop:=(∀ps∈R,RowOk b ps)/\(R.map (yai b)).Nodup
structure Stn(B:List Tb)(m:Nat)(Z:List Zt):Prop where
 tb:Z.map (·.1)=B
 rw:∀z∈Z,z.2.length<=m/\Rws z.1 z.2
theorem Stn.len(h:Stn B m Z):Z.length=B.length:=by rw[<-h.tb,zxt]
theorem Stn.nms(h:Stn B m Z):Z.map (·.1.nm)=B.map (·.nm):=by rw[<-h.tb,zyi];rfl
theorem Stn.mem(h:Stn B m Z)(hz:z∈Z):z.1∈B:=by rw[<-h.tb];exact ua0.mpr ⟨z,hz,rfl⟩
theorem Stn.of(h:Stn B m Z)(hb:b∈B):∃R,(b,R)∈Z:=by rw[<-h.tb]at hb;obtain⟨z,hz,rfl⟩:=omm hb;exact⟨z.2,hz⟩
theorem Stn.sch(h:Stn B m Z):yak Z=.tup (B.map Tb.t):=by rw[yak,<-h.tb,zyi];rfl
theorem Stn.up(h:Stn B m Z)(hk:m<=k):Stn B k Z:=⟨h.tb,fun z hz=>⟨zyc (h.rw z hz).1 hk,(h.rw z hz).2⟩⟩
theorem zig:∀{B:List Tb},(B.map (·.nm)).Nodup->∀{a b:Tb},a∈B->b∈B->a.nm=b.nm->a=b
 |[],_,_,_,h,_,_=>by cases h
 |c::B,nd,a,b,ha,hb,e=>by
  rw[zxz]at nd;obtain⟨n1,n2⟩:=ua7.mp nd;rcases omc ha with e1|ha1
  .rcases omc hb with e2|hb1
   .exact e1.trans e2.symm
   .exact(n1 (ua0.mpr ⟨b,hb1,by rw[<-e,e1]⟩)).elim
  .rcases omc hb with e2|hb1
   .exact(n1 (ua0.mpr ⟨a,ha1,by rw[e,e2]⟩)).elim
   .exact zig n2 ha1 hb1 e
theorem zls{Z:List Zt}(nd:(Z.map (·.1.nm)).Nodup){a b:Zt}(ha:a∈Z)(hb:b∈Z)(e:a.1.nm=b.1.nm):a=b:=by have h1:=zlr ha nd;have h2:=zlr hb nd;rw[e,h2]at h1;exact(List.cons.inj h1).1.symm
noncomputable def ycq(Z:List Zt)(x:Str)(R:List Row):List Zt:=Z.map fun z=>if z.1.nm==x then(z.1,R)else z
theorem zrk(Z:List Zt)(x:Str)(R:List Row):(ycq Z x R).map (·.1)=Z.map (·.1):=by unfold ycq;rw[zyi];exact ua8 fun z _=>by show(if z.1.nm==x then(z.1,R)else z).1=z.1;split<;>rfl
theorem zk3(h:Stn B m Z)(nd:(B.map (·.nm)).Nodup)(hb:b∈B)(hk:m<=k)(hl:R.length<=k)(hR:Rws b R):Stn B k (ycq Z b.nm R):=by
 refine⟨(zrk Z b.nm R).trans h.tb,fun z hz=>?_⟩;obtain⟨y,hy,rfl⟩:=omm hz;by_cases e:y.1.nm=b.nm
 .rw[if_pos (ue3.mpr e)];have:y.1=b:=zig nd (h.mem hy) hb e;exact⟨hl,by rw[this];exact hR⟩
 .rw[if_neg (by simpa using e)];exact⟨zyc (h.rw y hy).1 hk,(h.rw y hy).2⟩
theorem zqu(Z:List Zt)(x:Str)(R:List Row):(Z.map fun z=>if z.1.nm==x then T.tup (R.map yag)else rwT z)=(ycq Z x R).map rwT:=by unfold ycq;rw[zyi];exact ua8 fun z _=>by show _=rwT (if z.1.nm==x then(z.1,R)else z);split<;>rfl
def Prs(b:Tb)(L:List (Str×T)):Prop:=∀p∈L,∃c∈b.cs,c.n=p.1/\Wok c p.2/\(c.g=false->p.2≠.non)
noncomputable def prT(p:Str×T):T:=.tup [.str p.1,p.2]
theorem zvq(h:j<n):ixI n (j:Int)=some j:=by unfold ixI;rw[if_pos (by lia),if_pos (by lia)];simp
theorem RowOk.set(h:RowOk b qs)(hj:b.cs[j]?=some c)(h1:Wok c w)(h2:c.g=false->w≠.non):RowOk b (qs.set j (c,w))/\(qs.set j (c,w)).map (·.2)=(qs.map (·.2)).set j w:=by
 refine⟨⟨?_,fun p hp=>?_,fun p hp=>?_⟩,by rw[List.map_set]⟩
 .rw[List.map_set,h.cs];exact List.ext_getElem? fun i=>by
   rw[List.getElem?_set];split
   .rename_i e;subst e;rw[hj];split
    .rfl
    .rename_i hn;exact absurd (ome hj).1 hn
   .rfl
 .rcases List.mem_or_eq_of_mem_set hp with hp|rfl
  .exact h.wk p hp
  .exact h1
 .rcases List.mem_or_eq_of_mem_set hp with hp|rfl
  .exact h.ng p hp
  .exact h2
def lkT(b:Tb)(qa:List Str)(g:Str)(ps:Row):T:=.tup [.tup [.str b.nm,kyT b ps],ya0 qa,.tup [.str g,woT qa ps]]
structure Lk where
 b:Tb
 lc:List Str
 g:Str
 ps:Row
def Lk.t(l:Lk):T:=lkT l.b l.lc l.g l.ps
noncomputable def lkR(way:Str)(z:Zt):Rl->List Lk
 |.ref qa g w=>if w==way then z.2.map fun ps=>⟨z.1,qa,g,ps⟩else[]
 |_=>[]
def lks(way:Str)(Z:List Zt):List Lk:=Z.flatMap fun z=>z.1.rs.flatMap (lkR way z)
structure Lk.ok(B:List Tb)(way:Str)(l:Lk):Prop where
 b:l.b∈B
 r:Rl.ref l.lc l.g way∈l.b.rs
 p:RowOk l.b l.ps
theorem zgp(h:Stn B m Z)(hl:l∈lks way Z):l.ok B way/\∃z∈Z,z.1=l.b/\l.ps∈z.2:=by
 obtain⟨z,hz,hl⟩:=ue2.mp hl;obtain⟨r,hr,hl⟩:=ue2.mp hl;cases r with
 |ref qa g w=>
  have hl':l∈(if w==way then z.2.map (fun ps=>(⟨z.1,qa,g,ps⟩:Lk))else[]):=hl;clear hl;split at hl'
  .rename_i hw;obtain⟨ps,hps,rfl⟩:=omm hl';have hw:=ua2 hw;subst hw;exact⟨⟨h.mem hz,hr,(h.rw z hz).2.1 ps hps⟩,z,hz,rfl,hps⟩
  .cases hl'
 |unl _=>cases hl
 |chk _=>cases hl
theorem zeh{α β:Type}{f:α->List β}:∀{l:List α},(∀a∈l,(f a).length<=k)->(l.flatMap f).length<=l.length*k
 |[],_=>by simp
 |a::l,h=>by rw[ua6,zxy,zya,Nat.add_mul,Nat.one_mul];have h1:=h a zyo;have h2:=zeh (l:=l) fun x hx=>h x (zyh _ hx);lia
theorem zsf(h:z.2.length<=m)(r:Rl):(lkR way z r).length<=m:=by
 cases r with
 |ref qa g w=>
  show(if w==way then z.2.map (fun ps=>(⟨z.1,qa,g,ps⟩:Lk))else[]).length<=m;split
  .rw[zxt];exact h
  .exact zyg _
 |_=>simp[lkR]
theorem zse{way:Str}{z:Zt}{m:Nat}(hb:z.1.ok)(h:z.2.length<=m):(z.1.rs.flatMap (lkR way z)).length<=4*m :=
 zyc (zeh fun r _=>zsf h r) (Nat.mul_le_mul_right _ hb.rl)
theorem zhf(H:Sch B)(h:Stn B m Z)(way:Str):(lks way Z).length<=16*m:=by
 have h1:=zeh (l:=Z) (f:=fun z=>z.1.rs.flatMap (lkR way z)) (k:=4*m) fun z hz=>zse (H.ok _ (h.mem hz)) (h.rw z hz).1;have h2:=Nat.mul_le_mul_right (4*m) (show Z.length<=4 by rw[h.len];exact H.l4);have:4*(4*m)=16*m:=by lia
 unfold lks;lia
structure Cls(G:Glo)(B:List Tb)(Z:List Zt):Prop where
 tb:∀b∈B,G.call "_law_table" [yak Z,.str b.nm]=some b.t
 ky:∀b∈B,∀ps,RowOk b ps->G.call "_law_key" [b.t,yag ps]=some (kyT b ps)
 nm:∀b∈B,G.call "_law_names" [b.t]=some (.lst (b.cs.map fun c=>T.str c.n))
 rw:∀z∈Z,G.call "_law_rows" [yak Z,stT Z,.str z.1.nm]=some (rwT z)
 wo:∀b∈B,∀ps,RowOk b ps->∀qa:List Str,(∀x∈qa,∃c∈b.cs,c.n=x)->qa.length<=4->G.call "_law_worths" [b.t,yag ps,ya0 qa]=some (woT qa ps)
noncomputable def yew:Rl->Bool
 |.ref _ _ _=>true
 |_=>false
theorem r0(r:Rl):∃w:Str,ya6 r.t (.int 0)=some (.str w)/\(w==("refers":Str))=yew r:=by
 cases r with
 |ref cs t w=>exact⟨"refers",by rw[Rl.t,ya6,ybz],show(("refers":Str)=="refers")=true by decide +kernel⟩
 |unl cs=>exact⟨"unlike",by rw[Rl.t,ya6,ybz],show(("unlike":Str)=="refers")=false by decide +kernel⟩
 |chk t=>exact⟨"check",by rw[Rl.t,ya6,ybz],show(("check":Str)=="refers")=false by decide +kernel⟩
theorem rf1(cs:List Str)(t w:Str):ya6 (Rl.ref cs t w).t (.int 1)=some (ya0 cs):=by rw[Rl.t,ya6,yd2]
theorem rf2(cs:List Str)(t w:Str):ya6 (Rl.ref cs t w).t (.int 2)=some (.str t):=by rw[Rl.t,ya6,yga]
theorem rf3(cs:List Str)(t w:Str):ya6 (Rl.ref cs t w).t (.int 3)=some (.str w):=by rw[Rl.t,ya6,yfs]
theorem zei(h:(Rl.ref ks t w).fits ns cs):∀x∈ks,∃c∈cs,c.n=x:=fun x hx=>by obtain⟨c,hc,e,_⟩:=h.1 x hx;exact⟨c,hc,e⟩
abbrev Pl:=Str×List Kt
noncomputable def plT(p:Pl):T:=.tup [.str p.1,tkT p.2]
def Lk.pl(l:Lk):Pl:=(l.b.nm,yai l.b l.ps)
def Lk.gl(l:Lk):T:=.tup [.str l.g,woT l.lc l.ps]
theorem zo5(a b:Pl):eqT (plT a) (plT b)=decide (a=b):=by show(eqT (.str a.1) (.str b.1)&&(eqT (tkT a.2) (tkT b.2)&&true))=_;rw[zfi,Bool.and_true];show((a.1==b.1)&&_)=_;rcases a with⟨a1,a2⟩;rcases b with⟨b1,b2⟩;by_cases e1:a1=b1<;>by_cases e2:a2=b2<;>simp[e1,e2]
theorem zv9(a b:Pl):dpP (plT a) (plT b)=2:=by show max 0 (max (dpP (tkT a.2) (tkT b.2)) 0)+1=2;rw[zna];rfl
theorem zoy(a:Pl)(g:List Pl):inC (plT a) (.lst (g.map plT))=some (g.any fun x=>decide (x=a)):=by
 show(if dpI (plT a) (g.map plT)=true then some ((g.map plT).any fun z=>eqT z (plT a))else none)=_;rw[if_pos,List.any_map]
 .congr 2;funext x;exact zo5 x a
 .unfold dpI;rw[List.all_map];exact uc1.mpr fun x _=>zx8 (by show dpP (plT x) (plT a)<=30;rw[zv9];decide)
theorem zfv(b:Tb)(R:List Row)(k:List Kt):inC (tkT k) (.lst (R.map (kyT b)))=some (R.any fun ps=>decide (yai b ps=k)):=by
 show(if dpI (tkT k) (R.map (kyT b))then some ((R.map (kyT b)).any fun z=>eqT z (tkT k))else none)=_;rw[if_pos,List.any_map]
 .congr 2;funext ps;exact zfi _ _
 .unfold dpI;rw[List.all_map];exact uc1.mpr fun ps _=>zx8 (by show dpP (tkT _) (tkT k)<=30;rw[zna];decide)
def pls(Z:List Zt):List Pl:=Z.flatMap fun z=>z.2.map fun ps=>(z.1.nm,yai z.1 ps)
theorem zfm(H:Sch B)(h:Stn B m Z):(pls Z).length<=4*m:=by
 have h1:=zeh (l:=Z) (f:=fun z=>z.2.map fun ps=>(z.1.nm,yai z.1 ps)) (k:=m) fun z hz=>by rw[zxt];exact(h.rw z hz).1
 exact zyc h1 (Nat.mul_le_mul_right _ (by rw[h.len];exact H.l4))
theorem zqb(h:Stn B m Z)(hl:l∈lks way Z):l.pl∈pls Z:=by obtain⟨_,z,hz,e,hp⟩:=zgp h hl;exact ue2.mpr ⟨z,hz,ua0.mpr ⟨l.ps,hp,by rw[e];rfl⟩⟩
theorem zca{α:Type}[DecidableEq α]:∀{l u:List α},l.Nodup->(∀x∈l,x∈u)->l.length<=u.length
 |[],_,_,_=>zyg _
 |x::l,u,nd,h=>by obtain⟨n1,n2⟩:=ua7.mp nd;have hx:=h x zyo;have:=zca (u:=u.erase x) n2 fun y hy=>(List.mem_erase_of_ne fun e=>n1 (by rw[<-e];exact hy)).mpr (h y (zyh _ hy));rw[List.length_erase_of_mem hx]at this;have:=List.length_pos_of_mem hx;rw[zya];lia
structure Gst{α:Type}(U gone todo:List α):Prop where
 nd:gone.Nodup
 su:∀p∈gone,p∈U
 le:todo.length<=gone.length
theorem zv7(a b:Pl):yaw .eq (plT a) (plT b)=some (.bl (decide (a=b))):=by show eqC _ _=_;unfold eqC;rw[if_pos (by rw[zv9];decide),zo5]
theorem zhg{way qa g w}{z:Zt}:lkR way z (.ref qa g w)=if w==way then z.2.map fun ps=>⟨z.1,qa,g,ps⟩else[]:=rfl
section
variable {G:Glo}{B:List Tb}{m:Nat}{Z:List Zt}(H:Sch B)(h:Stn B m Z)(C:Cls G B Z)(hm:m<=60)(way:Str)
include H h C hm
theorem zsg:W G zcv.body (st0 [yak Z,stT Z,T.str way] 5) fun o=>o=.rt (.lst ((lks way Z).map Lk.t)):=by
 have hsz:=zar;have hL:=zhf H h way;refine zad (t:=.lst []) rfl ?_;refine zbd [3,4,5,6,7] (enc:=fun z:Zt=>z.1.t) Z (fun D zs=>∃(L:List T)(a b c d:Sl),zs=[.own L,a,b,c,d]/\L=(lks way D).map Lk.t) [.own [],.no,.no,.no,.no] rfl (zaj _) rfl ⟨_,_,_,_,_,rfl,rfl⟩ (fun D z D2 e zs hI=>?_) fun zs hI=>?_
 .obtain⟨_,a,b,c,d,rfl,rfl⟩:=hI;have hz:z∈Z:=by rw[e];simp
  refine⟨_,rfl,?_⟩;refine w_nz ?_;refine zbd [3,5,6,7] (enc:=Rl.t) z.1.rs (fun D' zs=>∃(L:List T)(b c d:Sl),zs=[.own L,b,c,d]/\L=(lks way D++D'.flatMap (lkR way z)).map Lk.t) [.own ((lks way D).map Lk.t),b,c,d] (yaa (zae rfl rfl (t3 _)) rfl) (zaj _) rfl ⟨_,b,c,d,rfl,by simp⟩ (fun D' r D2' e' zs hI=>?_) fun zs hI=>?_
  .obtain⟨_,b,c,d,rfl,rfl⟩:=hI;obtain⟨w0,i0,hw⟩:=r0 r;have hr:r∈z.1.rs:=by rw[e'];simp
   refine⟨_,rfl,?_⟩;refine w_nz ?_;have no:lkR way z r=[]->(lks way D++D'.flatMap (lkR way z)).map Lk.t=(lks way D++(D'++[r]).flatMap (lkR way z)).map Lk.t:=fun q=>by simp[q]
   cases r with
   |ref qa g w=>
    refine yay (q:=true&&(w==way)) (zaq (zag (zae rfl rfl i0) rfl (sw hw)) fun _=>zag (zae rfl rfl (rf3 _ _ _)) rfl rfl) (fun q=>?_) fun q=>zaf ⟨_,rfl,_,_,_,_,rfl,no (by rw[zhg,if_neg (by rw[show(w==way)=false from q];decide)])⟩;have q:(w==way)=true:=q;have hlk:lkR way z (.ref qa g w)=z.2.map fun ps=>⟨z.1,qa,g,ps⟩:=by rw[zhg,if_pos q]
    have hfit:=H.fit _ (h.mem hz) _ hr;have hc4:qa.length<=4:=((H.ok _ (h.mem hz)).rs _ hr);rw[e,lks,List.flatMap_append,ua6,e',List.flatMap_append,ua6,hlk]at hL;refine zbd [3,6,7] (enc:=yag) z.2 (fun E zs=>∃(L:List T)(c d:Sl),zs=[.own L,c,d]/\L=(lks way D++D'.flatMap (lkR way z)++E.map fun ps=>(⟨z.1,qa,g,ps⟩:Lk)).map Lk.t) [.own ((lks way D++D'.flatMap (lkR way z)).map Lk.t),c,d] (yaa (zab (C.rw z hz) (yaa rfl (yaa rfl (yaa (zae rfl rfl (t0 _)) rfl)))) rfl) (zaj _) rfl ⟨_,c,d,rfl,by simp⟩ (fun E ps E2 e2 zs hI=>?_) fun zs hI=>?_
    .obtain⟨_,c,d,rfl,rfl⟩:=hI;have hp:=(h.rw z hz).2.1 ps (by rw[e2];simp);refine⟨_,rfl,?_⟩;refine w_nz ?_;refine zad (zab (C.wo _ (h.mem hz) ps hp qa (zei hfit) hc4) (yaa rfl (yaa rfl (yaa (zae rfl rfl (rf1 _ _ _)) rfl)))) ?_;refine zfh (t:=Lk.t ⟨z.1,qa,g,ps⟩) (zau (yaa (zau (yaa (zae rfl rfl (t0 _)) (yaa (zab (C.ky _ (h.mem hz) ps hp) rfl) rfl))) (yaa (zae rfl rfl (rf1 _ _ _)) (yaa (zau (yaa (zae rfl rfl (rf2 _ _ _)) (yaa rfl rfl))) rfl)))) rfl (by rw[e2]at hL;simp[lks]at hL ⊢;lia) ?_;exact zaf ⟨_,rfl,_,_,_,rfl,by simp⟩
    .obtain⟨_,c,d,rfl,rfl⟩:=hI;exact zaf (zaf ⟨_,rfl,_,_,_,_,rfl,by simp[hlk]⟩)
   |_=>exact za4 (zaq (p:=false) (q:=false) (zag (zae rfl rfl i0) rfl (sw hw)) fun h=>by cases h) (zaf ⟨_,rfl,_,_,_,_,rfl,no rfl⟩)
  .obtain⟨_,b,c,d,rfl,rfl⟩:=hI;exact zaf ⟨_,rfl,_,_,_,_,_,rfl,by simp[lks]⟩
 .obtain⟨_,a,b,c,d,rfl,rfl⟩:=hI;exact zah rfl rfl
end
structure Cal(G:Glo)(B:List Tb)(m:Nat):Prop where
 cl:∀Z,Stn B m Z->Cls G B Z
 wi:∀b∈B,∀ps,RowOk b ps->∀(L:List (Str×T))(A:T),Prs b L->items .plain [A]=some (L.map prT)->∃qs,G.call "_law_with" [b.t,yag ps,A]=some (yag qs)/\RowOk b qs
 pu:∀Z,Stn B m Z->∀z∈Z,∀(R:List Row)(A:T),(∀ps∈R,RowOk z.1 ps)->R.length<=60->items .plain [A]=some (R.map yag)->∃R',G.call "_law_put" [yak Z,stT Z,.str z.1.nm,A]=some (stT (ycq Z z.1.nm R'))/\R'.length<=R.length/\Rws z.1 R'
theorem zrj{j:Nat}(h:j<ts.length):yek (some (.own ts)) (.int (j:Int)) w=some (.own (ts.set j w)):=by show Option.map _ (ixI ts.length (j:Int))=_;rw[zvq h];rfl
theorem ztq{G:Glo}{b:Tb}(hb:b.ok){ps:Row}(hp:RowOk b ps){L:List (Str×T)}(hL:Prs b L){A:T}(hA:items .plain [A]=some (L.map prT))(cn:G.call "_law_names" [b.t]=some (.lst (b.cs.map fun c=>T.str c.n))):W G zdh.body (st0 [b.t,yag ps,A] 3) fun o=>∃qs,o=.rt (yag qs)/\RowOk b qs:=by
 refine w_nw (ts:=ps.map (·.2)) rfl ?_;refine zbd [3,4,5] (enc:=prT) L (fun _ zs=>∃(qs:Row)(x y:Sl),zs=[.own (qs.map (·.2)),x,y]/\RowOk b qs) [.own (ps.map (·.2)),.no,.no] rfl hA rfl ⟨ps,_,_,rfl,hp⟩ (fun D p D2 e zs hI=>?_) fun zs hI=>?_
 .obtain⟨qs,x,y,rfl,hq⟩:=hI;obtain⟨c,hc,e1,h1,h2⟩:=hL p (by rw[e];simp);obtain⟨j,g1,g2⟩:=zst (·.n) hc hb.nd;obtain⟨q1,q2⟩:=hq.set g2 h1 h2;refine⟨_,rfl,?_⟩;refine w_nz ?_;refine zqw (u:=p.2) rfl (zgm (zab cn rfl) rfl (by rw[<-e1];exact g1)) (zrj (by rw[zxt,<-zxt (f:=(·.1)),hq.cs];exact(ome g2).1)) ?_;exact zaf ⟨_,rfl,qs.set j (c,p.2),_,_,zx2 (fun l=>[Sl.own l,_,_]) q2.symm,q1⟩
 .obtain⟨qs,x,y,rfl,hq⟩:=hI;exact zah rfl ⟨qs,rfl,hq⟩
theorem zw1{G:Glo}{Z:List Zt}{z:Zt}{R:List Row}{A:T}(hb:z.1.ok)(l4:Z.length<=4)(hR:∀ps∈R,RowOk z.1 ps)(hl:R.length<=60)(hA:items .plain [A]=some (R.map yag))(ct:G.call "_law_table" [yak Z,.str z.1.nm]=some z.1.t)(ck:∀ps∈R,G.call "_law_key" [z.1.t,yag ps]=some (kyT z.1 ps)):W G zep.body (st0 [yak Z,stT Z,T.str z.1.nm,A] 3) fun o=>∃R',o=.rt (stT (ycq Z z.1.nm R'))/\R'.length<=R.length/\Rws z.1 R':=by
 have hsz:=zar;obtain⟨M,e5,hM,nd,hl'⟩:=ze8 hb R [] (fun _ h=>nomatch h) hR .nil;rw[List.length_nil,Nat.zero_add]at hl';obtain⟨R',pm,es⟩:=zkn hb hM nd (by lia);have pl:=pm.length_eq;refine zad (zab ct rfl) ?_;refine zad (t:=.dic (M.map (kyT z.1)) (M.map yag)) (za1 (zb1 (enc:=yag) (R:=R) (fun ps=>T.tup [kyT z.1 ps,yag ps]) rfl (by unfold yas;rw[hA,zxv,if_pos (by rw[zxt];lia)]) fun ps hp=>zau (yaa (zab (ck ps hp) rfl) rfl)) (by show(if _<=1000 then _ else none)=_;rw[if_pos (by rw[zxt];lia)];exact e5)) ?_;refine zad (t:=.tup (R'.map yag)) (za1 (zb1 (enc:=kyT z.1) (R:=R') yag (yaa (za1 rfl es) rfl) (zec (by rw[zxt];lia)) fun ps hp=>zae rfl rfl (by have hp:=pm.mem_iff.mp hp;show(if yac (M.map (kyT z.1)) (kyT z.1 ps)=true then yae (M.map (kyT z.1)) (M.map yag) (kyT z.1 ps)else none)=_;rw[if_pos (zme hb hM (hM ps hp))];exact zgo nd ps hp)) rfl) ?_;refine zah (t:=stT (ycq Z z.1.nm R')) (za1 (t:=stT (ycq Z z.1.nm R')) (zs9 (enc:=fun z:Zt=>T.tup [z.1.t,rwT z]) (R:=Z) (fun y=>if y.1.nm==z.1.nm then T.tup (R'.map yag)else rwT y) (ts:=[yak Z,stT Z]) rfl (by show(some (ybj (Z.map fun z=>z.1.t) (Z.map rwT))).bind _=_;rw[zj3,zxv,if_pos (by rw[zxt];lia)]) fun y _=>⟨_,rfl,?_⟩) (by rw[zqu];rfl)) ⟨R',rfl,by lia,fun ps hp=>hM ps (pm.mem_iff.mp hp),(pm.map _).nodup_iff.mpr nd⟩;refine zae (zhe rfl) (za1 (zag (zae rfl rfl (t0 _)) rfl (sw rfl)) rfl) ?_;cases y.1.nm==z.1.nm<;>rfl
section
variable {G:Glo}{B:List Tb}{m:Nat}(H:Sch B)(C:Cal G B m)(hm:m<=60){gone:List Pl}{gaps:List Lk}(hg:∀l∈gaps,l.ok B "gap"){Z:List Zt}(h:Stn B m Z)
include H C hm hg h
theorem zm8:W G zb6.body (st0 [yak Z,stT Z,T.lst (gone.map plT),T.lst (gaps.map Lk.t)] 7) fun o=>∃Z',o=.rt (stT Z')/\Stn B m Z':=by
 have hsz:=zar;refine zbd [1,4,5,6,7,8,9,10] (enc:=Tb.t) B (fun _ zs=>∃(Y:List Zt)(a b c d e f g:Sl),zs=[.val (stT Y),a,b,c,d,e,f,g]/\Stn B m Y) [.val (stT Z),.no,.no,.no,.no,.no,.no,.no] rfl (by rw[h.sch];rfl) rfl ⟨Z,_,_,_,_,_,_,_,rfl,h⟩ (fun D b D2 e zs hI=>?_) fun zs hI=>?_
 .obtain⟨Y,s4,s5,s6,s7,s8,s9,s10,rfl,hY⟩:=hI;have hb:b∈B:=by rw[e];simp
  have hs:yak Z=yak Y:=h.sch.trans hY.sch.symm;obtain⟨R0,hz⟩:=hY.of hb;have cl:=C.cl Y hY;have hlen:=(hY.rw _ hz).1;refine⟨_,rfl,?_⟩;refine w_nz ?_;refine zad (t:=.lst []) rfl ?_;rw[hs];refine zbd [5,6,7,8,9,10] (enc:=yag) R0 (fun D zs=>∃(R:List Row)(b1 c d e f:Sl),zs=[.own (R.map yag),b1,c,d,e,f]/\R.length<=D.length/\∀ps∈R,RowOk b ps) [.own [],s6,s7,s8,s9,s10] (yaa (zab (cl.rw _ hz) (yaa rfl (yaa rfl (yaa (zae rfl rfl (t0 _)) rfl)))) rfl) (zaj _) rfl ⟨[],_,_,_,_,_,rfl,Nat.le_refl _,fun _ h=>absurd h (by simp)⟩ (fun D ps D2 e1 zs hI=>?_) fun zs hI=>?_
  .obtain⟨R,s6,s7,s8,s9,s10,rfl,h1,h2⟩:=hI;have hp:=(hY.rw _ hz).2.1 ps (by rw[e1];simp);have hl1:D.length<=60:=by have hlen:R0.length<=m:=hlen;rw[e1,zxy]at hlen;lia
   refine⟨_,rfl,?_⟩;refine w_nz ?_;refine zad (js:=[]) (t:=plT (b.nm,yai b ps)) (zau (yaa (zae rfl rfl (t0 _)) (yaa (zab (cl.ky _ hb ps hp) rfl) rfl))) ?_;refine zbd [6,8,9,10] (enc:=Lk.t) gaps (fun _ zs=>∃(qs:Row)(a b1 c:Sl),zs=[.val (yag qs),a,b1,c]/\RowOk b qs) [.val (yag ps),s8,s9,s10] rfl (zav _) rfl ⟨ps,_,_,_,rfl,hp⟩ (fun E l E2 e2 zs hI=>?_) fun zs hI=>?_
   .obtain⟨qs,a,b1,c,rfl,hq⟩:=hI;have hl:=hg l (by rw[e2];simp);refine⟨_,rfl,?_⟩;refine w_nz ?_;refine yay (q:=decide (l.pl=(b.nm,yai b ps))) (zag rfl rfl (zv7 l.pl _)) (fun q=>?_) fun _=>zaf ⟨_,rfl,qs,_,_,_,rfl,hq⟩;have eb:l.b=b:=zig H.nd hl.b hb (zx2 Prod.fst (zyk q));have hr:=hl.r;rw[eb]at hr;have hf:=(H.fit b hb _ hr).1;have hc4:l.lc.length<=4:=((H.ok b hb).rs _ hr);obtain⟨qs',cw,hq'⟩:=C.wi b hb qs hq (l.lc.map fun x=>(x,.non)) (.lst ((l.lc.map fun x=>(x,T.non)).map prT)) (fun p hp=>by obtain⟨x,hx,rfl⟩:=omm hp;obtain⟨c,hc,e1,e2⟩:=hf x hx;exact⟨c,hc,e1,.inl rfl,fun z=>by rw[e2 rfl]at z;cases z⟩) rfl;rw[zyi]at cw;refine zad (zab cw (yaa rfl (yaa rfl (yaa (zb1 (enc:=T.str) (R:=l.lc) (fun x=>prT (x,.non)) rfl (zaw (by rw[zxt];lia)) fun _ _=>rfl) rfl)))) ?_;exact zaf (zaf ⟨_,rfl,qs',_,_,_,rfl,hq'⟩)
   .obtain⟨qs,a,b1,c,rfl,hq⟩:=hI;refine w_nz ?_;have em:yc5 .mul (.lst [yag qs]) (.int (if(!gone.any fun x=>decide (x=(b.nm,yai b ps)))=true then 1 else 0))=some (.lst ((if(gone.any fun x=>decide (x=(b.nm,yai b ps)))=true then[]else[qs]:List Row).map yag)):=by cases(gone.any fun x=>decide (x=(b.nm,yai b ps)))<;>rfl
    refine zad (t:=.lst ((R++if(gone.any fun x=>decide (x=(b.nm,yai b ps)))=true then[]else[qs]).map yag)) (js:=[5]) (zak rfl (zak (zhe (yaa rfl rfl)) (za1 (zag rfl rfl (by rw[yaw,zoy];rfl)) rfl) em) ((ye0 (by rw[List.length_map,List.length_map];split<;>simp<;>lia)).trans (by rw[List.map_append]))) ?_;refine zaf ⟨_,rfl,_,_,_,_,_,_,rfl,?_,fun q hq'=>?_⟩
    .rw[zxy,zxy,zyu];split<;>simp<;>lia
    .rcases oma hq' with hq'|hq'
     .exact h2 q hq'
     .split at hq'
      .cases hq'
      .rw[omg hq'];exact hq
  .obtain⟨R,s6,s7,s8,s9,s10,rfl,h1,h2⟩:=hI;have hlen:R0.length<=m:=hlen;obtain⟨R',cp,h3,h4⟩:=C.pu Y hY _ hz R (.lst (R.map yag)) h2 (by lia) (zav _);refine w_nz ?_;refine zad (js:=[5]) (t:=stT (ycq Y b.nm R')) (zab cp (yaa rfl (yaa rfl (yaa (zae rfl rfl (t0 _)) rfl)))) ?_;exact zaf ⟨_,rfl,_,_,_,_,_,_,_,_,rfl,zk3 hY H.nd hb (zx3 _) (by show R'.length<=m;lia) h4⟩
 .obtain⟨Y,s4,s5,s6,s7,s8,s9,s10,rfl,hY⟩:=hI;exact zah rfl ⟨Y,rfl,hY⟩
end
section
def Lk.go(l:Lk):a7 Pl:=if ybe (wK l.lc l.ps)=true then none else some (l.g,wK l.lc l.ps)
theorem zvy(l:Lk):(∃q,l.go=some q/\l.gl=plT q)\/l.go=none/\l.gl=.tup [.str l.g,.non]:=by
 unfold Lk.go Lk.gl woT;cases ybe (wK l.lc l.ps)with
 |true=>exact .inr ⟨rfl,rfl⟩
 |false=>exact .inl ⟨_,rfl,rfl⟩
theorem zxm(l:Lk)(p:Pl):yaw .eq l.gl (plT p)=some (.bl (decide (l.go=some p))):=by
 rcases zvy l with⟨q,e1,e2⟩|⟨e1,e2⟩<;>rw[e1,e2]
 .rw[zv7];simp
 .show eqC _ _=_;unfold eqC;rw[if_pos (show dpP _ (plT p)<=30 from by simp[plT,tkT,dpP,ya9]),show eqT _ (plT p)=((l.g==p.1)&&false)from rfl];simp
theorem zxl(l:Lk)(g:List Pl):inC l.gl (.lst (g.map plT))=some (g.any fun x=>decide (l.go=some x)):=by
 rcases zvy l with⟨q,e1,e2⟩|⟨e1,e2⟩<;>rw[e1,e2]
 .rw[zoy];simp[eq_comm]
 .show(if dpI _ _=true then some ((g.map plT).any fun z=>eqT z _)else none)=_;rw[if_pos (by unfold dpI;rw[List.all_map];exact uc1.mpr fun x _=>decide_eq_true (show dpP (plT x) (.tup [.str l.g,.non])<=30 from by simp[plT,tkT,dpP,ya9])),List.any_map];refine zx2 some ?_;rw[List.any_eq_false.mpr fun x _=>by show ¬((x.1==l.g)&&(false&&true))=true;simp];simp
section
variable {α:Type}[DecidableEq α]
def vis(fs g t:List α):List α×List α:=fs.foldl (fun a x=>if(a.1.any fun y=>decide (y=x))=true then a else(a.1++[x],a.2++[x])) (g,t)
inductive Wk(f:α->List α):List α->List α->List α->Prop
 |nil {g t}:t=[]->Wk f g t g
 |step {g t t1 p r}:t=t1++[p]->Wk f (vis (f p) g t1).1 (vis (f p) g t1).2 r->Wk f g t r
theorem Wk.det{f:α->List α}{g t r:List α}(h:Wk f g t r):∀{r'},Wk f g t r'->r=r':=by
 induction h with
 |nil e=>intro r' h';cases h' with
  |nil=>rfl
  |step e'=>rw[e]at e';simp at e'
 |step e _ ih=>intro r' h';cases h' with
  |nil e'=>rw[e]at e';simp at e'
  |step e' h2=>rw[e]at e';obtain⟨e1,e2⟩:=List.append_inj' e' rfl;cases e2;subst e1;exact ih h2
theorem zdz(a b g t:List α):vis (a++b) g t=vis b (vis a g t).1 (vis a g t).2:=by unfold vis;rw[List.foldl_append]
theorem zdy(x:α)(g t:List α):vis [x] g t=if(g.any fun y=>decide (y=x))=true then(g,t)else(g++[x],t++[x]):=rfl
theorem zdb:∀(fs g t:List α),(∀x,x∈(vis fs g t).1↔x∈g\/x∈fs)/\(∀x∈(vis fs g t).2,x∈t\/x∈fs)/\(∀x∈t,x∈(vis fs g t).2)/\∀x∈fs,x∈g\/x∈(vis fs g t).2
 |[],g,t=>⟨fun x=>by simp[vis],fun x h=>.inl h,fun x h=>h,fun x h=>nomatch h⟩
 |a::fs,g,t=>by
  rw[show a::fs=[a]++fs from rfl,zdz,zdy];by_cases e:a∈g
  .rw[if_pos (List.any_eq_true.mpr ⟨a,e,zx8 rfl⟩)];obtain⟨h1,h2,h3,h4⟩:=zdb fs g t;refine⟨fun x=>?_,fun x h=>(h2 x h).imp id (.tail _),h3,fun x h=>(omc h).elim (fun q=>.inl (q▸e)) (h4 x)⟩;rw[h1,ud9,ue1];exact⟨fun w=>w.imp id .inr,fun w=>w.elim .inl fun w=>w.elim (fun w=>.inl (w▸e)) .inr⟩
  .rw[if_neg (by simpa using e)];obtain⟨h1,h2,h3,h4⟩:=zdb fs (g++[a]) (t++[a]);refine⟨fun x=>?_,fun x h=>?_,fun x h=>h3 x (List.mem_append_left _ h),fun x h=>?_⟩
   .rw[h1,ud9,ud9,or_assoc]
   .rcases h2 x h with h|h
    .exact(oma h).imp id fun h=>by rw[omg h];exact .head _
    .exact .inr (.tail _ h)
   .rcases omc h with rfl|h
    .exact .inr (h3 _ (by simp))
    .rcases h4 x h with h|h
     .exact(oma h).imp id fun h=>h3 x (by simpa using .inr (omg h))
     .exact .inr h
section
variable {f:α->List α}{g t r:List α}(h:Wk f g t r)
include h
theorem Wk.up:∀x∈g,x∈r:=by
 induction h with
 |nil _=>exact fun _ h=>h
 |step e _ ih=>exact fun x hx=>ih x (((zdb _ _ _).1 x).mpr (.inl hx))
theorem Wk.stay{P:α->Prop}(hf:∀x,P x->∀y∈f x,P y):(∀x∈g,P x)->(∀x∈t,P x)->∀x∈r,P x:=by
 induction h with
 |nil _=>exact fun h _=>h
 | @step g t t1 p r e _ ih=>subst e;intro hg ht;have hp:=hf p (ht p (by simp));exact ih (fun x hx=>(((zdb _ _ _).1 x).mp hx).elim (hg x) (hp x)) fun x hx=>((zdb _ _ _).2.1 x hx).elim (fun hx=>ht x (List.mem_append_left _ hx)) (hp x)
theorem Wk.shut:(∀x∈g,x∈t\/∀y∈f x,y∈g)->∀x∈r,∀y∈f x,y∈r:=by
 induction h with
 |nil e=>subst e;exact fun h x hx=>(h x hx).resolve_left (fun h=>nomatch h)
 | @step g t t1 p r e _ ih=>
  subst e;intro hI;refine ih fun x hx=>?_;obtain⟨h1,_,h3,h4⟩:=zdb (f p) g t1;have hg:x∈g->x∈(vis (f p) g t1).2\/∀y∈f x,y∈(vis (f p) g t1).1:=fun hx=>by
   rcases hI x hx with q|q
   .rcases oma q with q|q
    .exact .inl (h3 x q)
    .rw[omg q];exact .inr fun y hy=>(h1 y).mpr (.inr hy)
   .exact .inr fun y hy=>(h1 y).mpr (.inl (q y hy))
  exact((h1 x).mp hx).elim hg fun hx=>(h4 x hx).elim hg .inl
end
end
noncomputable def yc4(es:List Lk)(p:Pl):List Pl:=(es.filter fun l=>decide (l.go=some p)).map Lk.pl
theorem zm1(es:List Lk)(l:Lk)(p:Pl):yc4 (es++[l]) p=yc4 es p++if l.go=some p then[l.pl]else[]:=by unfold yc4;rw[List.filter_append,zx7,ub0];by_cases e:l.go=some p<;>simp[e]
noncomputable def hit(gone:List Pl)(l:Lk):Bool:=(gone.any fun x=>decide (l.go=some x))&&!(gone.any fun x=>decide (x=l.pl))
structure Gone(Z:List Zt)(p:Pl)(gone:List Pl):Prop where
 wk:Wk (yc4 (lks "along" Z)) [p] [p] gone
 nd:gone.Nodup
 su:∀q∈gone,q∈pls Z
def goT(Z:List Zt)(gone:List Pl):T:=if(lks "stop" Z).any (hit gone)=true then .int 5 else .tup [.lst (gone.map plT),.lst (((lks "gap" Z).filter (hit gone)).map Lk.t)]
variable {G:Glo}{B:List Tb}{m:Nat}{Z:List Zt}(H:Sch B)(h:Stn B m Z)(hm:m<=60)(cl:∀way:Str,G.call "_law_links" [yak Z,stT Z,.str way]=some (.lst ((lks way Z).map Lk.t)))
include H h hm in
theorem zc2{e:E}{ρ:Env}(C:Cls G B Z)(hz:(b,R)∈Z)(i:Nat)(he:yal G [e] ρ=some [rwT (b,R)])(hi:((ρ)[i]?).join=some b.t):evE G (.comp (.call "_law_key" [.var (i+1),.var 0]) 1 .plain [e] none) ρ=some (.lst (R.map (kyT b))):=by have hR:=h.rw _ hz;have hsz:=zar;exact zb1 (enc:=yag) (kyT b) he (zaw (by rw[zxt];show R.length<=SZ;have h1:R.length<=m:=hR.1;lia)) fun ps hp=>zab (C.ky _ (h.mem hz) ps (hR.2.1 ps hp)) (yaa hi rfl)
include H h hm cl
theorem zsx(C:Cls G B Z)(hz:(b,R)∈Z)(k:List Kt):W G zcw.body (st0 [yak Z,stT Z,.str b.nm,tkT k] 8) fun o=>
  ((R.any fun ps=>decide (yai b ps=k))=false/\o=.rt (.int 1))\/(R.any fun ps=>decide (yai b ps=k))=true/\∃gone,Gone Z (b.nm,k) gone/\o=.rt (goT Z gone):=by
 have hU:=zfm H h;have hsz:=zar;have np:∀(l:Lk)(g:List Pl),yaw .notin (plT l.pl) (.lst (g.map plT))=some (.bl (!(g.any fun x=>decide (x=l.pl)))):=fun l g=>by rw[yaw,zoy];rfl
 have ng:∀(l:Lk)(g:List Pl),yaw .isin l.gl (.lst (g.map plT))=some (.bl (g.any fun x=>decide (l.go=some x))):=fun l g=>by rw[yaw,zxl];rfl
 refine zad (zab (C.tb _ (h.mem hz)) rfl) ?_;refine yay (q:=!(R.any fun ps=>decide (yai b ps=k))) (zag rfl (zc2 H h hm C hz 4 (yaa (zab (C.rw _ hz) rfl) rfl) rfl) (by rw[yaw,zfv];rfl)) (fun q=>zah rfl (.inl ⟨by simpa using q,rfl⟩)) fun q=>?_;have q:(R.any fun ps=>decide (yai b ps=k))=true:=by simpa using q
 have hmem:(b.nm,k)∈pls Z:=by obtain⟨ps,hps,e⟩:=List.any_eq_true.mp q;exact ue2.mpr ⟨_,hz,ua0.mpr ⟨ps,hps,by rw[zyk e]⟩⟩
 refine zad (t:=.lst [plT (b.nm,k)]) rfl ?_;refine zad (t:=.lst [plT (b.nm,k)]) rfl ?_;refine zj8 [5,6,7,8,9,10] (fun n zs=>∃(gone todo:List Pl)(x y z w:Sl),zs=[.own (gone.map plT),.own (todo.map plT),x,y,z,w]/\Gst (pls Z) gone todo/\(pls Z).length+todo.length=gone.length+n/\∀r,Wk (yc4 (lks "along" Z)) gone todo r->Wk (yc4 (lks "along" Z)) [(b.nm,k)] [(b.nm,k)] r) (pls Z).length [.own [plT (b.nm,k)],.own [plT (b.nm,k)],.no,.no,.no,.no] (by lia) rfl ⟨[_],[_],_,_,_,_,rfl,⟨by simp,fun p hp=>by rw[omg hp];exact hmem,Nat.le_refl _⟩,by simp;lia,fun _ h=>h⟩ fun n zs hI=>?_;obtain⟨gone,todo,x,y,z,w,rfl,g,e,hW⟩:=hI;have hgl:=zca g.nd g.su;refine⟨!todo.isEmpty,zag rfl rfl ((zfa (todo.map plT)).trans (by rw[List.isEmpty_map])),fun q=>?_,fun q=>?_⟩
 .rcases List.eq_nil_or_concat todo with rfl|⟨t1,p,rfl⟩
  .cases q
  rw[List.concat_eq_append]at *;have hle:=g.le;rw[zxy,zyu]at e hle;refine w_nz ?_;refine zps (ts:=t1.map plT) (t:=plT p) (zx2 (fun l=>some (Sl.own l)) zx7) (by decide) ?_;refine zbd [5,6,8,9,10] (enc:=Lk.t) (lks "along" Z) (fun D zs=>∃(go to:List Pl)(x y z:Sl),zs=[.own (go.map plT),.own (to.map plT),x,y,z]/\Gst (pls Z) go to/\go.length+t1.length=gone.length+to.length/\vis (yc4 D p) gone t1=(go,to)) [.own (gone.map plT),.own (t1.map plT),y,z,w] (yaa (zab (cl "along") rfl) rfl) (zav _) rfl ⟨gone,t1,_,_,_,rfl,⟨g.nd,g.su,by lia⟩,rfl,rfl⟩ (fun D l D2 e zs hI=>?_) fun zs hI=>?_
  .obtain⟨go,to,x,y,z,rfl,g',e',ev⟩:=hI;have hl:l∈lks "along" Z:=by rw[e];simp
   have hgl:=zca g'.nd g'.su;have hle:=g'.le;refine⟨_,rfl,?_⟩;refine w_nz ?_;refine yay (q:=decide (l.go=some p)&&!(go.any fun x=>decide (x=l.pl))) (zaq (zag rfl rfl (zxm l p)) fun _=>zag rfl rfl (np l go)) (fun q=>?_) fun q=>zaf ⟨_,rfl,go,to,_,_,_,rfl,g',e',?_⟩
   .rw[zxw,zyn,Bool.not_eq_true']at q;refine zfh (t:=plT l.pl) rfl rfl (by rw[zxt];lia) ?_;refine zfh (t:=plT l.pl) rfl rfl (by rw[zxt];lia) ?_;refine zaf (zaf ⟨_,rfl,go++[l.pl],to++[l.pl],_,_,_,by rw[zx7,zx7],⟨?_,fun p hp=>?_,?_⟩,?_,?_⟩)
    .rw[List.nodup_append];exact⟨g'.nd,by simp,fun a ha b hb e=>List.any_eq_false.mp q.2 a ha (decide_eq_true (e.trans (omg hb)))⟩
    .rcases oma hp with hp|hp
     .exact g'.su p hp
     .rw[omg hp];exact zqb h hl
    .simp;lia
    .simp;lia
    .rw[zm1,if_pos q.1,zdz,ev,zdy,if_neg (by rw[q.2];decide)]
   .rw[zm1];by_cases e1:l.go=some p
    .rw[if_pos e1,zdz,ev,zdy,if_pos (by simpa[e1]using q)]
    .rw[if_neg e1,zy0,ev]
  .obtain⟨go,to,x,y,z,rfl,g',e',ev⟩:=hI;have:=zca g'.nd g'.su;exact zaf ⟨n-1,_,rfl,by lia,go,to,_,_,_,_,rfl,g',by lia,fun r hr=>hW r (.step rfl (by rw[ev];exact hr))⟩
 have q:todo=[]:=by simpa using q
 have hG:Gone Z (b.nm,k) gone:=⟨hW gone (.nil q),g.nd,g.su⟩;refine w_nz ?_;refine zcn [8,9,10] (enc:=Lk.t) (lks "stop" Z) (fun D zs=>∃x y z:Sl,zs=[x,y,z]/\D.any (hit gone)=false) [y,z,w] (yaa (zab (cl "stop") rfl) rfl) (zav _) rfl ⟨_,_,_,rfl,rfl⟩ (fun D l D2 e zs hI=>?_) fun zs hI=>?_
 .obtain⟨x,y,z,rfl,hD⟩:=hI;refine⟨_,rfl,?_⟩;refine w_nz ?_;exact yay (q:=hit gone l) (zaq (zag rfl rfl (ng l gone)) fun _=>zag rfl rfl (np l gone)) (fun q=>zah rfl (.inl ⟨_,rfl,.inr ⟨‹_›,gone,hG,by rw[goT,if_pos (by rw[e];simp[q])]⟩⟩)) fun q=>zaf (.inr ⟨_,rfl,_,_,_,rfl,by rw[List.any_append,hD];simp[q]⟩)
 .obtain⟨x,y,z,rfl,hD⟩:=hI;refine zad (js:=[5]) (zba (enc:=Lk.t) (R:=lks "gap" Z) (hit gone) Lk.t (yaa (zab (cl "gap") rfl) rfl) (zec (by rw[zxt];have:=zhf H h "gap";lia)) fun l hl=>⟨_,rfl,zaq (zag rfl rfl (ng l gone)) fun _=>zag rfl rfl (np l gone),fun _=>rfl⟩) ?_;exact zah rfl (.inr ⟨‹_›,gone,hG,by rw[goT,if_neg (by rw[hD];decide)]⟩)
end
def Gng(Z:List Zt)(t:T):Prop:=(∃i:Int,t=.int i)\/∃(gone:List Pl)(gaps:List Lk),t=.tup [.lst (gone.map plT),.lst (gaps.map Lk.t)]/\∀l∈gaps,l∈lks "gap" Z
inductive Dd where
 |add (b:Tb) (ps:Row)|drp (b:Tb) (k:List Kt)|set (b:Tb) (k:List Kt) (L:List (Str×T))
noncomputable def Dd.b:Dd->Tb
 |.add b _=>b
 |.drp b _=>b
 |.set b _ _=>b
def Dd.t:Dd->T
 |.add b ps=>.tup [.str "add",.str b.nm,yag ps]
 |.drp b k=>.tup [.str "drop",.str b.nm,tkT k]
 |.set b k L=>.tup [.str "set",.str b.nm,tkT k,.tup (L.map prT)]
noncomputable def kS(k:List Kt):Prop:=k.length<=2
theorem zsj(hb:b.ok)(hp:RowOk b ps):kS (yai b ps):=by unfold yai wK kS;rw[zxt];exact hb.k1
structure Dd.ok(B:List Tb)(d:Dd):Prop where
 b:d.b∈B
 p:match d with
  |.add b ps=>RowOk b ps
  |.drp _ k=>kS k
  |.set b k L=>kS k/\Prs b L/\L.length<=4
theorem zh7(k:List Kt):∀{b:Tb}{R:List Row},(R.any fun ps=>decide (yai b ps=k))=true->∃j:Nat,zbv (tkT k) (R.map (kyT b))=some j/\j<R.length
 |b,[],h=>by cases h
 |b,ps::R,h=>by
  rw[zxz,zbv];by_cases e:yai b ps=k
  .exact⟨0,by rw[if_pos (by show eqT (tkT _) (tkT k)=true;rw[zfi];exact decide_eq_true e)],by simp⟩
  .rw[ub7,zy4 e,Bool.false_or]at h;obtain⟨j,h1,h2⟩:=zh7 k h;refine⟨j+1,?_,by simpa using h2⟩;rw[if_neg (by show ¬eqT (tkT _) (tkT k)=true;rw[zfi];simpa using e),h1];rfl
theorem zoz(b:Tb)(R:List Row)(k:List Kt)(h:zbv (tkT k) (R.map (kyT b))=some j):yb7 .index (.lst (R.map (kyT b))) (tkT k)=some (.int (j:Int)):=by
 simp only[yb7];rw[if_pos,h]
 .rfl
 .rw[Bool.or_eq_true];right;unfold dpI;rw[List.all_map];exact uc1.mpr fun ps _=>zx8 (by show dpP (tkT _) (tkT k)<=30;rw[zna];decide)
def Tld(B:List Tb)(m:Nat)(t:T):Prop:=(∃i:Int,t=.int i)\/∃Z,t=stT Z/\Stn B m Z
structure Cal2(G:Glo)(B:List Tb)(m:Nat):Prop extends Cal G B m where
 go:∀Z,Stn B m Z->∀z∈Z,∀k:List Kt,∃t,G.call "_law_going" [yak Z,stT Z,.str z.1.nm,tkT k]=some t/\Gng Z t
 dr:∀Z,Stn B m Z->∀(gone:List Pl)(gaps:List Lk),(∀l∈gaps,l.ok B "gap")->∃Z',G.call "_law_dropped" [yak Z,stT Z,.lst (gone.map plT),.lst (gaps.map Lk.t)]=some (stT Z')/\Stn B m Z'
theorem dd_1(d:Dd):ya6 d.t (.int 1)=some (.str d.b.nm):=by cases d<;>rw[Dd.t,ya6,yd2]<;>rfl
theorem zq3:(("add":Str)=="add")=true/\(("drop":Str)=="add")=false/\(("set":Str)=="add")=false/\(("drop":Str)=="drop")=true/\(("set":Str)=="drop")=false:=by decide +kernel
theorem zpp(qa:List Str):∀R:List Row,ybj (R.map yag) (R.map (woT qa))=R.map fun ps=>.tup [yag ps,woT qa ps]
 |[]=>rfl
 |ps::R=>by rw[zxz,zxz,zxz,ybj,zpp qa R]
theorem zlq(qa:List Str)(ps:Row):yaw .notN (woT qa ps) .non=some (.bl (!ybe (wK qa ps))):=by unfold woT;cases ybe (wK qa ps)<;>rfl
theorem zwa(qa:List Str)(R:List Row)(ps:Row):dpI (woT qa ps) (R.map (woT qa))=true:=by unfold dpI;rw[List.all_map];refine uc1.mpr fun q _=>zx8 ?_;show dpP (woT qa q) (woT qa ps)<=30;unfold woT;split<;>split<;>first|(rw[zna];decide)|exact zyg _
theorem zre(r:Rl)(h:∀t,r≠.chk t):∃qa,ya6 r.t (.int 1)=some (ya0 qa)/\(r=.unl qa\/∃g w,r=.ref qa g w):=by
 cases r with
 |ref cs t w=>exact⟨cs,rf1 cs t w,.inr ⟨t,w,rfl⟩⟩
 |unl cs=>exact⟨cs,by rw[Rl.t,ya6,yd2],.inl rfl⟩
 |chk t=>exact absurd rfl (h t)
noncomputable def isCk:Rl->Bool
 |.chk _=>true
 |_=>false
theorem r0c(r:Rl):∃w:Str,ya6 r.t (.int 0)=some (.str w)/\(w==("check":Str))=isCk r/\(w==("refers":Str))=yew r:=by
 cases r with
 |ref cs t w=>exact⟨"refers",by rw[Rl.t,ya6,ybz],show(("refers":Str)=="check")=false by decide +kernel,show(("refers":Str)=="refers")=true by decide +kernel⟩
 |unl cs=>exact⟨"unlike",by rw[Rl.t,ya6,ybz],show(("unlike":Str)=="check")=false by decide +kernel,show(("unlike":Str)=="refers")=false by decide +kernel⟩
 |chk t=>exact⟨"check",by rw[Rl.t,ya6,ybz],show(("check":Str)=="check")=true by decide +kernel,show(("check":Str)=="refers")=false by decide +kernel⟩
theorem zvl(r:Rl):∃x,ya6 r.t (.int (-1))=some x/\dpP x (.str "late")<=30:=by
 cases r with
 |ref cs t w=>exact⟨.str w,rfl,zyg _⟩
 |unl cs=>exact⟨ya0 cs,rfl,zyg _⟩
 |chk t=>exact⟨t.t,rfl,by cases t<;>exact zyg _⟩
structure Dk where
 ks:List T
 vs:List T
 ok:ks.all isS=true
abbrev Dk.s(d:Dk):Sl:=.dic d.ks d.vs
noncomputable def Dk.nil:Dk:=⟨[],[],rfl⟩
def Dk.put(d:Dk)(x:Str)(w:T):Dk:=⟨yad d.ks (.str x),yap d.ks d.vs (.str x) w,by
 unfold yad;split
 .exact d.ok
 .rw[List.all_append,d.ok];rfl⟩
theorem Dk.kd(d:Dk)(x:Str):yac d.ks (.str x)=true:=by unfold yac;rw[d.ok];rfl
theorem Dk.len{d:Dk}{x:Str}{w:T}:(d.put x w).ks.length<=d.ks.length+1:=by
 show(yad d.ks (.str x)).length<=_;unfold yad;split
 .lia
 .rw[zxy];exact zx3 _
noncomputable def dnK:List (Int×Str):=[(2, "unlike"),(3, "check"),(4, "refers")]
noncomputable def dkT(p:Int×Str):T:=.tup [.int p.1,.str p.2]
section
variable {G:Glo}{B:List Tb}{m:Nat}(H:Sch B)(C:Cal2 G B m)(hm:m<=50){Z:List Zt}(h:Stn B m Z)
include H C hm h
theorem zw0{d:Dd}(hd:d.ok B):W G zeo.body (st0 [yak Z,stT Z,d.t] 6) fun o=>∃t,o=.rt t/\Tld B (m+1) t:=by
 obtain⟨R,hz⟩:=h.of hd.b;have hb:=hd.b;have c:=C.cl Z h;obtain⟨hl,hR,_⟩:R.length<=m/\(∀ps∈R,RowOk d.b ps)/\_:=h.rw _ hz;have hsz:=zar;refine zad (zae rfl rfl (dd_1 d)) ?_;refine zad (zab (c.tb _ hb) rfl) ?_;refine zad (zab (c.rw _ hz) rfl) ?_;refine zad (zc2 H h (by lia) c hz 4 rfl rfl) ?_;have put:∀(R1:List Row)(A:T),(∀ps∈R1,RowOk d.b ps)->R1.length<=m+1->items .plain [A]=some (R1.map yag)->∃t,G.call "_law_put" [yak Z,stT Z,.str d.b.nm,A]=some t/\Tld B (m+1) t:=fun R1 A h1 h2 h3=>by obtain⟨R',e,h4,h5⟩:=C.pu Z h _ hz R1 A h1 (by lia) h3;exact⟨_,e,.inr ⟨_,rfl,zk3 h H.nd hb (by lia) (by lia) h5⟩⟩
 obtain⟨n1,n2,n3,n4,n5⟩:=zq3;cases d with
 |add b ps=>
  have hp:RowOk b ps:=hd.p;refine zdx (zag rfl rfl (sw n1)) (yay (q:=R.any fun q=>decide (yai b q=yai b ps)) (zag (zab (c.ky b hb ps hp) rfl) rfl (by rw[yaw,kyT,zfv];rfl)) (fun _=>zah rfl ⟨_,rfl,.inl ⟨2,rfl⟩⟩) fun _=>?_);obtain⟨t,e,ht⟩:=put (R++[ps]) (.lst ((R++[ps]).map yag)) (fun q hq=>by
   rcases oma hq with hq|hq
   .exact hR q hq
   .rw[omg hq];exact hp) (by simp;exact hl) (zav _)
  rw[zx7]at e;exact zah (zab e (yaa rfl (yaa rfl (yaa rfl (yaa (zak rfl rfl (ye0 (by rw[zxt];show R.length+1<=SZ;lia))) rfl))))) ⟨t,rfl,ht⟩
 |drp b k=>
  obtain⟨t,eg,hg⟩:=C.go Z h _ hz k;refine za4 (zag rfl rfl (sw n2)) (zdx (zag rfl rfl (sw n4)) (zad (zab eg rfl) ?_));rcases hg with⟨i,rfl⟩|⟨gone,gaps,rfl,hgp⟩
  .exact zdx rfl (zah rfl ⟨_,rfl,.inl ⟨i,rfl⟩⟩)
  .obtain⟨Z',ed,hZ'⟩:=C.dr Z h gone gaps fun l hl=>(zgp h (hgp l hl)).1;exact za4 rfl (zah (zab ed rfl) ⟨_,rfl,.inr ⟨Z',rfl,hZ'.up (by lia)⟩⟩)
 |set b k L=>
  refine za4 (zag rfl rfl (sw n3)) (za4 (zag rfl rfl (sw n5)) (yay (q:=!(R.any fun q=>decide (yai b q=k))) (zag rfl rfl (by rw[yaw,zfv];rfl)) (fun _=>zah rfl ⟨_,rfl,.inl ⟨1,rfl⟩⟩) fun q=>?_));obtain⟨j,hj,hjl⟩:=zh7 k (by simpa using q);obtain⟨qs,ew,hq⟩:=C.wi b hb R[j] (hR _ (ua5 hjl)) L (.tup (L.map prT)) hd.p.2.1 (zaj _);obtain⟨t,e,ht⟩:=put (R.take j++[qs]++R.drop (j+1)) (.tup ((R.take j++[qs]++R.drop (j+1)).map yag)) (fun p hp=>by
   rcases oma hp with hp|hp
   .rcases oma hp with hp|hp
    .exact hR p (ub6 hp)
    .rw[omg hp];exact hq
   .exact hR p (List.mem_of_mem_drop hp)) (by simp;lia) (zaj _)
  have x1:=zgx (R.map yag) j;have x2:=zjb (R.map yag) (j+1) (by rw[zxt];lia);rw[zx7,zx7,List.map_take,List.map_drop]at e;refine zad (zgm rfl rfl (zoz b R k hj)) ?_;exact zah (zab e (yaa rfl (yaa rfl (yaa rfl (yaa (zak (zak (congrArg (fun l=>some (T.tup l)) x1) (zau (yaa (zab ew (yaa rfl (yaa (zae rfl rfl (za6 (by rw[List.getElem?_map,List.getElem?_eq_getElem hjl];rfl))) (yaa rfl rfl)))) rfl)) (yen (by simp;lia))) (congrArg (fun l=>some (T.tup l)) x2) (yen (by simp;lia))) rfl))))) ⟨t,rfl,ht⟩
end
section
variable {G:Glo}{B:List Tb}{m:Nat}(H:Sch B){Z:List Zt}(h:Stn B m Z)(C:Cls G B Z)(hm:m<=60)
include H h C hm
theorem zpj(hz:(b,R)∈Z)(hr:r∈b.rs)(lv:∀t:Tst,r=.chk t->∀ps,RowOk b ps->∃i:Int,G.call "_law_level" [b.t,t.t,yag ps]=some (.int i)):W G zcj.body (st0 [yak Z,stT Z,b.t,r.t] 7) fun o=>∃L,o=.rt (.lst L):=by
 have hb:=h.mem hz;obtain⟨hl,hR,_⟩:R.length<=m/\(∀ps∈R,RowOk b ps)/\_:=h.rw _ hz;have hsz:=zar;have hfit:=H.fit b hb r hr;have hok:=(H.ok _ hb).rs r hr;obtain⟨w0,i0,hw1,hw2⟩:=r0c r;have iR:yas .plain [rwT (b,R)]=some (R.map yag):=by unfold yas;rw[rwT,zaj,zxv,if_pos (by rw[zxt];show R.length<=SZ;lia)]
 refine zad (zab (C.rw _ hz) rfl) ?_;refine yay (zag (zae rfl rfl i0) rfl (sw hw1)) (fun q=>?_) fun q=>?_
 .obtain⟨t,rfl⟩:∃t,r=.chk t:=by cases r<;>first|exact⟨_,rfl⟩|cases q
  obtain⟨f,hf⟩:=Classical.axiomOfChoice (r:=fun ps(i:Int)=>RowOk b ps->G.call "_law_level" [b.t,t.t,yag ps]=some (.int i)) fun ps=>by
   by_cases hp:RowOk b ps
   .obtain⟨i,e⟩:=lv t rfl ps hp;exact⟨i,fun _=>e⟩
   .exact⟨0,fun z=>absurd z hp⟩
  exact zah (zba (enc:=yag) (R:=R) (fun ps=>f ps==0) (kyT b) rfl iR fun ps hp=>⟨_,rfl,zag (zab (hf ps (hR ps hp)) rfl) rfl rfl,fun _=>zab (C.ky b hb ps (hR ps hp)) rfl⟩) ⟨_,rfl⟩
 obtain⟨qa,i1,hcase⟩:=zre r fun t e=>by rw[e]at q;cases q
 obtain⟨hcols,hc4⟩:(∀x∈qa,∃c∈b.cs,c.n=x)/\qa.length<=4:=by
  rcases hcase with rfl|⟨g,w,rfl⟩
  .exact⟨hfit,hok⟩
  .exact⟨zei hfit,hok⟩
 refine zad (zb1 (enc:=yag) (woT qa) rfl iR fun ps hp=>zab (C.wo b hb ps (hR ps hp) qa hcols hc4) (yaa rfl (yaa rfl (yaa (zae rfl rfl i1) rfl)))) ?_;refine zad (t:=.lst []) rfl ?_;refine zbd [5,7,8,9,10] (enc:=fun ps:Row=>T.tup [yag ps,woT qa ps]) R (fun D zs=>∃L x y z w,zs=[x,.own L,y,z,w]/\L.length<=D.length) [.no,.own [],.no,.no,.no] rfl (by show some (ybj (R.map yag) (R.map (woT qa)))=_;rw[zpp]) rfl ⟨[],_,_,_,_,rfl,zx3 _⟩ (fun D ps D2 e zs hI=>?_) fun zs hI=>?_
 .obtain⟨L,x,y,z,w,rfl,hLl⟩:=hI;have hp:=hR ps (by rw[e];simp);have hl1:D.length<=60:=by rw[e,zxy]at hl;lia
  have cN:=zlq qa ps;refine⟨_,rfl,?_⟩;refine w_nz ?_;refine zad (zaq (zag rfl rfl cN) fun _=>zag (zgm rfl rfl (by simp only[yb7];exact if_pos (zwa qa R ps))) rfl rfl) ?_;refine zww [9,10] (fun zs=>∃(q:Bool)(w:Sl),zs=[.val (.bl q),w]) ?_ fun zs hI=>?_
  .refine yay (zaq (zag (zae rfl rfl i0) rfl (sw hw2)) fun _=>zag rfl rfl cN) (fun q=>?_) fun _=>zaf ⟨_,rfl,_,_,rfl⟩;rcases hcase with rfl|⟨g,w,rfl⟩
   .cases q
   .have hN:ybe (wK qa ps)=false:=by simpa using(Bool.and_eq_true_iff.mp q).2
    obtain⟨b',hb',hg⟩:=omm hfit.2;obtain⟨R',hz'⟩:=h.of hb';have ew:woT qa ps=tkT (wK qa ps):=by unfold woT;rw[hN];rfl
    subst hg;refine zad (zab (C.tb b' hb') rfl) ?_;refine zad (zag rfl (zc2 H h hm C hz' 10 (yaa (zab (C.rw _ hz') rfl) rfl) rfl) (by rw[yaw,ew,zfv];rfl)) ?_;exact zaf (zaf ⟨_,rfl,_,_,rfl⟩)
  .obtain⟨q,w,rfl⟩:=hI;refine yay (q:=q) rfl (fun _=>?_) fun _=>zaf ⟨_,rfl,_,_,_,_,_,rfl,by rw[zxy];lia⟩;refine zfh (zab (C.ky b hb ps hp) rfl) rfl (by lia) ?_;exact zaf (zaf ⟨_,rfl,L++[_],_,_,_,_,rfl,by rw[zxy,zxy];exact Nat.add_le_add_right hLl 1⟩)
 .obtain⟨L,x,y,z,w,rfl,_⟩:=hI;exact zah rfl ⟨_,rfl⟩
end
section
theorem zug(d:Dk)(h:d.ks.length<SZ):yek (some d.s) (.str x) w=some (d.put x w).s:=if_pos ⟨d.kd x,h⟩
variable {G:Glo}{B:List Tb}{m:Nat}(H:Sch B){Z:List Zt}(h:Stn B m Z)(cb:∀b R,(b,R)∈Z->∀r∈b.rs,∃L,G.call "_law_broken" [yak Z,stT Z,b.t,r.t]=some (.lst L))
include H h cb
theorem zvk:W G zdj.body (st0 [yak Z,stT Z] 2) fun o=>∃q,o=.rt (.bl q):=by
 refine zcn [2,3] (enc:=fun z:Zt=>z.1.t) Z (fun _ zs=>∃x y,zs=[x,y]) [.no,.no] rfl (zaj _) rfl ⟨_,_,rfl⟩ (fun D z D2 e zs hI=>?_) fun zs hI=>?_
 .obtain⟨x,y,rfl⟩:=hI;obtain⟨b,R⟩:=z;refine⟨_,rfl,?_⟩;refine w_nz ?_;refine zcn [3] (enc:=Rl.t) b.rs (fun _ zs=>∃y,zs=[y]) [y] (yaa (zae rfl rfl (t3 b)) rfl) (zaj _) rfl ⟨_,rfl⟩ (fun D' r D2' e' zs hI=>?_) fun zs hI=>?_
  .obtain⟨y,rfl⟩:=hI;obtain⟨L,eL⟩:=cb b R (by rw[e];simp) r (by rw[e'];simp);refine⟨_,rfl,?_⟩;refine w_nz ?_;exact yay (zag (zab eL rfl) rfl (zfa L)) (fun _=>zah rfl (.inl ⟨_,rfl,.inl ⟨_,rfl,_,rfl⟩⟩)) fun _=>zaf (.inr ⟨_,rfl,_,rfl⟩)
  .obtain⟨y,rfl⟩:=hI;exact zaf (.inr ⟨_,rfl,_,_,rfl⟩)
 .obtain⟨x,y,rfl⟩:=hI;exact zah rfl ⟨_,rfl⟩
theorem zwb(X1 X2 t:T)(er:G.call "_law_raw" [yak Z,X1,X2]=some (stT Z)):W G zdk.body (st0 [yak Z,X1,X2] 6) fun o=>∃t,o=.rt t/\((∃i:Int,t=.int i)\/t=stT Z):=by
 have hsz:=zar;have h4:Z.length<=4:=by rw[h.len];exact H.l4
 refine zad (zab er rfl) ?_;refine za4 rfl (zka ?_);refine zbd [4,5,6] (enc:=fun z:Zt=>z.1.t) Z (fun D zs=>∃(d:Dk)(x y:Sl),zs=[d.s,x,y]/\d.ks.length<=4*D.length) [Dk.nil.s,.no,.no] rfl (zaj _) rfl ⟨_,_,_,rfl,zx3 _⟩ (fun D z D2 e zs hI=>?_) fun zs hI=>?_
 .obtain⟨d0,x,y,rfl,hd0⟩:=hI;obtain⟨b,R⟩:=z;have hz:(b,R)∈Z:=by rw[e];simp
  have hrl:=(H.ok b (h.mem hz)).rl;have hD:D.length<=4:=by rw[e,zxy]at h4;lia
  refine⟨_,rfl,?_⟩;refine w_nz ?_;refine zbd [4,6] (enc:=Rl.t) b.rs (fun D' zs=>∃(d:Dk)(y:Sl),zs=[d.s,y]/\d.ks.length<=d0.ks.length+D'.length) [d0.s,y] (yaa (zae rfl rfl (t3 b)) rfl) (zaj _) rfl ⟨_,_,rfl,zx3 _⟩ (fun D' r D2' e' zs hI=>?_) fun zs hI=>?_
  .obtain⟨d,y,rfl,hd⟩:=hI;have hD':D'.length<=4:=by rw[e',zxy]at hrl;lia
   obtain⟨L,eL⟩:=cb b R hz r (by rw[e'];simp);obtain⟨x,ex,dx⟩:=zvl r;obtain⟨w0,i0,_⟩:=r0 r;refine⟨_,rfl,?_⟩;refine w_nz ?_;refine yay (zaq (zag (zae rfl rfl ex) rfl (if_pos dx)) fun _=>zag (zab eL rfl) rfl (zfa L)) (fun _=>?_) fun _=>zaf ⟨_,rfl,d,_,rfl,by rw[zxy];lia⟩;refine zqw (u:=.bl true) rfl (zae rfl rfl i0) (zug d (by lia)) ?_;have:=Dk.len (d:=d) (x:=w0) (w:=T.bl true);exact zaf (zaf ⟨_,rfl,d.put w0 (.bl true),_,rfl,by rw[zxy,zyu];lia⟩)
  .obtain⟨d,y,rfl,hd⟩:=hI;exact zaf ⟨_,rfl,d,_,_,rfl,by rw[zxy,zyu];lia⟩
 .obtain⟨d,x,y,rfl,_⟩:=hI;refine w_nz ?_;refine zcn [7,8] (enc:=dkT) dnK (fun _ zs=>∃x y,zs=[x,y]) [.no,.no] rfl (zaj _) rfl ⟨_,_,rfl⟩ (fun D p D2 e zs hI=>?_) fun zs hI=>?_
  .obtain⟨x,y,rfl⟩:=hI;refine⟨_,rfl,?_⟩;refine w_nz ?_;exact yay (q:=ybv d.ks (.str p.2)) (zag rfl rfl (by show(if yac d.ks (.str p.2)=true then some (ybv d.ks (.str p.2))else none).map T.bl=_;rw[if_pos (d.kd p.2)];rfl)) (fun _=>zah rfl (.inl ⟨_,rfl,_,rfl,.inl ⟨_,rfl⟩⟩)) fun _=>zaf (.inr ⟨_,rfl,_,_,rfl⟩)
  .obtain⟨x,y,rfl⟩:=hI;exact zah rfl ⟨_,rfl,.inr rfl⟩
end
section
structure Cal3(G:Glo)(B:List Tb)(Z:List Zt):Prop extends Cls G B Z where
 dr:∀a k:Int,G.call "_law_drawn" [.int a,.int k]=some (.int (yan a k))
 ro:∀b∈B,∀k:Int,∃ps,G.call "_law_row" [b.t,.int k]=some (yag ps)/\RowOk b ps
 wt:∀(c:Col)(k:Int),∃w,G.call "_law_worth" [c.t,.int k]=some w/\Wok c w/\(c.g=false->w≠.non)
def plC(b:Tb):List Col:=b.cs.filter fun c=>!(b.key.any fun y=>y==c.n)
theorem c0(c:Col):ya6 c.t (.int 0)=some (.str c.n):=by rw[Col.t,ya6,ybz]
theorem zs0(h:0<m/\m<=xs.length)(i:Int):∃t∈xs,yb3 xs (i%(m:Nat))=some t:=by
 have b1:0<=i%(m:Int):=uc5 _ (by lia);have b2:i%(m:Int)<(m:Int):=uc0 _ (by lia);obtain⟨j,hj⟩:∃j:Nat,i%(m:Int)=(j:Int):=⟨(i%(m:Int)).toNat,by lia⟩;have hlt:j<xs.length:=by lia
 exact⟨xs[j],ua5 hlt,by rw[hj];exact za6 (zxu hlt)⟩
variable {G:Glo}{B:List Tb}{m:Nat}(H:Sch B){Z:List Zt}(h:Stn B m Z)(C:Cal3 G B Z)(hm:m<=60)
include H h C hm
theorem zwd(N:Int):W G zdl.body (st0 [yak Z,stT Z,.int N] 11) fun o=>∃d:Dd,o=.rt d.t/\d.ok B:=by
 have hsz:=zar;have hZ:Z≠[]:=by intro e;have h1:=h.len;have:=H.ps;rw[e]at h1;simp at h1;lia
 obtain⟨⟨b,R⟩,hz,ez⟩:=ziz (enc:=fun z:Zt=>z.1.t) hZ N;have hb:=h.mem hz;have hbo:=H.ok _ hb;obtain⟨hl,hR,_⟩:R.length<=m/\_:=h.rw _ hz;have hl0:=List.length_pos_iff.mpr hZ;obtain⟨p0,cp0,hp0⟩:=C.ro b hb (N/64);refine zad (zae rfl (zak rfl (za1 (t:=.int Z.length) rfl (zx2 (fun n:Nat=>some (T.int n)) (zxt _))) (zam (by lia))) ez) ?_;refine zad (zab (C.rw _ hz) rfl) ?_;refine zad (zak (zc2 H h hm C.toCls hz 3 rfl rfl) (zhe (yaa (zab (C.ky b hb p0 hp0) (yaa rfl (yaa (zab cp0 rfl) rfl))) rfl)) (ye0 (by rw[zxt];show R.length+1<=SZ;lia))) ?_;have hK:∀t∈R.map (kyT b)++[kyT b p0],∃k,t=tkT k/\kS k:=fun t ht=>by
  have:∃ps,RowOk b ps/\kyT b ps=t:=by
   rcases oma ht with ht|ht
   .obtain⟨ps,hp,e⟩:=omm ht;exact⟨ps,hR ps hp,e⟩
   .exact⟨p0,hp0,(omg ht).symm⟩
  obtain⟨ps,hp,rfl⟩:=this;exact⟨yai b ps,rfl,zsj hbo hp⟩
 have hKl:0<(R.map (kyT b)++[kyT b p0]).length:=by simp
 generalize R.map (kyT b)++[kyT b p0]=KS at *;obtain⟨sm,em,hs⟩:∃sm:Nat,(KS.length:Int)-(if(decide ((1:Int)<KS.length)&&decide ((0:Int)<N/4096%8))=true then 1 else 0)=sm/\0<sm/\sm<=KS.length:=by
  split
  .rename_i q;have:=zyk (Bool.and_eq_true_iff.mp q).1;exact⟨KS.length-1,by lia,by lia,by lia⟩
  .exact⟨KS.length,by lia,hKl,zx3 _⟩
 refine zad (js:=[5]) (t:=.int sm) (zak rfl (za1 (zaq rfl fun _=>rfl) rfl) (zx2 (fun i=>some (T.int i)) em)) ?_;obtain⟨kt,hkt,e7⟩:=zs0 hs (N/4);obtain⟨k,rfl,hk⟩:=hK kt hkt;refine zad (zae rfl (zak rfl rfl (zam (by lia))) e7) ?_;refine zad (t:=.int (N/65536%8)) rfl ?_;have hcl:b.cs.length<=4:=hbo.cl;refine zad (zba (enc:=Col.t) (R:=b.cs) (fun c=>!(b.key.any fun y=>y==c.n)) Col.t (xs:=[.tup (b.cs.map Col.t)]) rfl (by unfold yas;rw[zaj,zxv,if_pos (by rw[zxt];lia)]) fun c _=>⟨_,rfl,zag (zae rfl rfl (c0 c)) (zae rfl rfl (t2 b)) (by rw[yaw,ya0,zhk];rfl),fun _=>rfl⟩) ?_;have cE:yaw .eq (.lst ((plC b).map Col.t)) (.lst [])=some (.bl (plC b).isEmpty):=by cases plC b<;>rfl
 refine yay (zgn (p:=decide (N/65536%8<4)) rfl fun _=>zaq (p:=N/65536%8==7) rfl fun _=>zag rfl rfl cE) (fun _=>?_) fun _=>yay (zgn (p:=decide (N/65536%8<6)) rfl fun _=>zag rfl rfl cE) (fun _=>zah (t:=(Dd.drp b k).t) rfl ⟨.drp b k,rfl,hb,hk⟩) fun _=>zad (t:=.lst []) rfl ?_
 .obtain⟨p1,cp1,hp1⟩:=C.ro b hb (yan N 7/4);exact zah (zau (yaa rfl (yaa (zae rfl rfl (t0 b)) (yaa (zab cp1 (yaa rfl (yaa (zak (zab (C.dr N 7) rfl) rfl rfl) rfl))) rfl)))) ⟨.add b p1,rfl,hb,hp1⟩
 .refine zbd [9,11,12,13] (enc:=fun p:Col×Nat=>T.tup [.int (p.2:Int),p.1.t]) (((plC b).take 3).zipIdx 0) (fun D zs=>∃(L:List (Str×T))(x y z:Sl),zs=[x,.own (L.map prT),y,z]/\Prs b L/\L.length<=D.length) [.no,.own [],.no,.no] (ts:=[.lst (((plC b).take 3).map Col.t)])
   (by show some [T.lst (cut ((plC b).map Col.t) none (some ((3:Nat):Int)))]=_;rw[zgx,List.map_take]) (by show some (ya3 _ 0)=_;rw[zc4]) rfl ⟨[],_,_,_,rfl,fun _ h=>absurd h (by simp),Nat.le_refl _⟩ (fun D p D2 e zs hI=>?_) fun zs hI=>?_
  .obtain⟨L,x9,x12,x13,rfl,h1,h2⟩:=hI;obtain⟨c,i⟩:=p;have hc:c∈b.cs:=by have:=List.mem_map_of_mem (f:=Prod.fst) (show(c,i)∈((plC b).take 3).zipIdx 0 by rw[e];simp);rw[List.zipIdx_map_fst]at this;exact(ub9.mp (ub6 this)).1
   have hl1:D.length<=3:=by have:=zx2 List.length e;rw[List.length_zipIdx,zxy,zy3]at this;lia
   obtain⟨w,cw,hw⟩:=C.wt c (yan N (30+(i:Int))/4/4);refine⟨_,rfl,?_⟩;refine w_nz ?_;refine zad (t:=.int (yan N (30+(i:Int))/4)) (zak (zab (C.dr N (30+(i:Int))) rfl) rfl rfl) ?_;generalize yan N (30+(i:Int))/4=K at *;refine yay (zgn (p:=K%2==0) rfl fun _=>rfl) (fun _=>?_) fun _=>zaf ⟨_,rfl,L,_,_,_,rfl,h1,by rw[zxy];lia⟩;refine zfh (zau (yaa (zae rfl rfl (c0 c)) (yaa (zab cw rfl) rfl))) rfl (by rw[zxt];lia) (zaf (zaf ?_));refine⟨_,rfl,L++[(c.n,w)],_,_,_,zx2 (fun l=>[_,Sl.own l,_,_]) zx7.symm,fun x hx=>?_,by rw[zxy,zxy];exact Nat.add_le_add_right h2 1⟩;rcases oma hx with hx|hx
   .exact h1 x hx
   .rw[omg hx];exact⟨c,hc,rfl,hw⟩
  .obtain⟨L,x9,x12,x13,rfl,h1,h2⟩:=hI;rw[List.length_zipIdx,zy3]at h2;exact zah (t:=(Dd.set b k L).t) (zau (yaa rfl (yaa (zae rfl rfl (t0 b)) (yaa rfl (yaa rfl rfl))))) ⟨.set b k L,rfl,hb,hk,h1,by lia⟩
end
structure Cal4(G:Glo)(B:List Tb):Prop where
 dn:∀m,m<=50->∀Z,Stn B m Z->∀d:Dd,d.ok B->∃t,G.call "_law_done" [yak Z,stT Z,d.t]=some t/\Tld B (m+1) t
 dd:∀m,m<=50->∀Z,Stn B m Z->∀N:Int,∃d:Dd,G.call "_law_deed" [yak Z,stT Z,.int N]=some d.t/\d.ok B
 lt:∀m,m<=60->∀Z,Stn B m Z->∃b,G.call "_law_late" [yak Z,stT Z]=some (.bl b)
 dr:∀a k:Int,G.call "_law_drawn" [.int a,.int k]=some (.int (yan a k))
theorem zmh(q:Nat)(h:q<=1000):items .range [.int (q:Int)]=some ((List.range q).map fun(i:Nat)=>T.int (i:Int)) :=
 by
 show(if -4611686018427387904<=(q:Int)/\(q:Int)<4611686018427387904 then some (rangeT (q:Int).toNat)else none)=_;rw[if_pos (by lia)];rfl
theorem zq5{G:Glo}(H:Sch B)(C:Cal4 G B)(N:Int)(M:Nat)(hM:M<=20):W G zct.body (st0 [.tup (B.map Tb.t),.int N,.int (M:Int)] 3) fun o=>∃Z,o=.rt (stT Z)/\Stn B M Z:=by
 have h4:=H.l4;have hsz:=zar;refine zad (za1 (zb1 (enc:=Tb.t) (R:=B) (fun _=>T.tup []) rfl (by unfold yas;rw[zaj,zxv,if_pos (by rw[zxt];lia)]) fun _ _=>rfl) rfl) ?_;refine zbd [3,4,5] (enc:=fun i:Nat=>T.int (i:Int)) (List.range M) (fun D zs=>∃(Z:List Zt)(x y:Sl),zs=[.val (stT Z),x,y]/\Stn B D.length Z) [.val (.tup (B.map fun _=>T.tup [])),.no,.no] rfl (zmh M (by lia)) rfl ⟨B.map fun b=>(b,[]),_,_,by rw[stT,zyi];rfl,⟨by rw[zyi];exact List.map_id'' (fun _=>rfl) _,fun z hz=>by obtain⟨b,_,rfl⟩:=omm hz;exact⟨Nat.le_refl _,fun _ h=>absurd h (by simp),ud1⟩⟩⟩ (fun D i D2 e zs hI=>?_) fun zs hI=>?_
 .obtain⟨Z,x,y,rfl,hZ⟩:=hI;have hl1:D.length<=20:=by have:=zx2 List.length e;rw[zy2,zxy]at this;lia
  obtain⟨d,ed,hd⟩:=C.dd D.length (by lia) Z hZ (yan N (100+(i:Int))/4);obtain⟨t,et,ht⟩:=C.dn D.length (by lia) Z hZ d hd;have up:Stn B (D++[i]).length Z:=hZ.up (by rw[zxy];lia);rw[hZ.sch]at ed et;refine⟨_,rfl,?_⟩;refine w_nz ?_;refine zad (zab et (yaa rfl (yaa rfl (yaa (zab ed (yaa rfl (yaa rfl (yaa (zak (zab (C.dr N (100+(i:Int))) rfl) rfl rfl) rfl)))) rfl)))) ?_;rcases ht with⟨j,rfl⟩|⟨Z',rfl,h'⟩
  .exact za4 (zaq (p:=false) (q:=false) rfl fun h=>by cases h) (zaf ⟨_,rfl,Z,_,_,rfl,up⟩)
  .obtain⟨b,eb⟩:=C.lt _ (by lia) Z' h';rw[h'.sch]at eb;refine yay (q:=true&&!b) (zaq rfl fun _=>by rw[evE,evE,zab eb rfl];rfl) (fun _=>?_) fun _=>zaf ⟨_,rfl,Z,_,_,rfl,up⟩;refine zad (t:=stT Z') rfl ?_;exact zaf (zaf ⟨_,rfl,Z',_,_,rfl,by rw[zxy];exact h'⟩)
 .obtain⟨Z,x,y,rfl,hZ⟩:=hI;rw[zy2]at hZ;exact zah rfl ⟨_,rfl,hZ⟩
structure Mk(P:Pr):Prop where
 dr:P.fn "_law_drawn"=some za8
 nm:P.fn "_law_names"=some za7
 tb:P.fn "_law_table"=some zcs
 ky:P.fn "_law_key"=some zeq
 wo:P.fn "_law_worths"=some zci
 rw:P.fn "_law_rows"=some zdi
 wt:P.fn "_law_worth"=some zb4
 ro:P.fn "_law_row"=some zen
 br:P.fn "_law_broken"=some zcj
 ln:P.fn "_law_links"=some zcv
 go:P.fn "_law_going"=some zcw
 pu:P.fn "_law_put"=some zep
 wi:P.fn "_law_with"=some zdh
 dp:P.fn "_law_dropped"=some zb6
 ra:P.fn "_law_raw"=some zeo
 dn:P.fn "_law_done"=some zdk
 lt:P.fn "_law_late"=some zdj
 dd:P.fn "_law_deed"=some zdl
 st:P.fn "_law_store"=some zct
 lv:P.fn "_law_level"=some zbp
section
variable {P:Pr}(p:Mk P){B:List Tb}(H:Sch B)
include p
theorem zlx(n:Nat){b:Tb}(hb:b.ok):run P (n+1) "_law_names" [b.t]=some (.lst (b.cs.map fun c=>T.str c.n)):=zc1 p.nm n hb
include H
theorem zcy(n:Nat)(h:Stn B m Z):Cls (glo P (n+2)) B Z where
 tb b hb:=by obtain⟨R,hz⟩:=h.of hb;exact zvh p.tb (n+1) (by rw[h.len];exact H.l4) (by rw[h.nms];exact H.nd) hz
 ky b hb ps hp:=zoq p.nm p.ky n (H.ok b hb) hp
 nm b hb:=zlx p (n+1) (H.ok b hb)
 rw z hz:=zl3 p.rw (n+1) (by rw[h.len];exact H.l4) hz (by rw[h.nms];exact H.nd)
 wo b hb ps hp qa hc h4:=zvg p.nm p.wo n (H.ok b hb) hp hc h4
theorem zl6(n:Nat)(h:Stn B m Z)(hm:m<=60)(way:Str):run P (n+3) "_law_links" [yak Z,stT Z,.str way]=some (.lst ((lks way Z).map Lk.t)):=ybr p.ln (zsg H h (zcy p H n h) hm way)
theorem zmv(n:Nat)(h:Stn B m Z)(hm:m<=60)(hz:(b,R)∈Z)(k:List Kt):∃t,run P (n+4) "_law_going" [yak Z,stT Z,.str b.nm,tkT k]=some t/\(((R.any fun ps=>decide (yai b ps=k))=false/\t=.int 1)\/(R.any fun ps=>decide (yai b ps=k))=true/\∃gone,Gone Z (b.nm,k) gone/\t=goT Z gone) :=
 yes p.go (zsx H h hm (fun way=>zl6 p H n h hm way) (zcy p H (n+1) h) hz k) fun o h=>by
  rcases h with⟨h,rfl⟩|⟨h,g,hg,rfl⟩
  .exact⟨_,rfl,.inl ⟨h,rfl⟩⟩
  .exact⟨_,rfl,.inr ⟨h,g,hg,rfl⟩⟩
theorem znl(n m:Nat):Cal (glo P (n+3)) B m where
 cl Z h:=zcy p H (n+1) h
 wi b hb ps hp L A hL hA:=yct yag p.wi (n:=n+2) (ztq (H.ok b hb) hp hL hA (zlx p (n+1) (H.ok b hb)))
 pu Z h z hz R A hR hl hA :=
  have c:=zcy p H n h
  yct (fun R'=>stT (ycq Z z.1.nm R')) p.pu (n:=n+2) (zw1 (H.ok _ (h.mem hz)) (by rw[h.len];exact H.l4) hR hl hA (c.tb _ (h.mem hz)) fun ps hp=>c.ky _ (h.mem hz) ps (hR ps hp))
theorem zpi(n:Nat)(hm:m<=60):Cal2 (glo P (n+4)) B m where
 toCal:=znl p H (n+1) m
 go Z h z hz k:=by
  obtain⟨t,e,ht⟩:=zmv p H n h hm hz k;refine⟨t,e,?_⟩;rcases ht with⟨_,rfl⟩|⟨_,g,_,rfl⟩
  .exact .inl ⟨_,rfl⟩
  .unfold goT;split
   .exact .inl ⟨_,rfl⟩
   .exact .inr ⟨g,_,rfl,fun l hl=>(ub9.mp hl).1⟩
 dr Z h gone gaps hg:=yct stT p.dp (n:=n+3) (zm8 (gone:=gone) H (znl p H n m) hm hg h)
theorem zri(n:Nat){m:Nat}(hm:m<=50){Z:List Zt}(h:Stn B m Z){d:Dd}(hd:d.ok B):∃t,run P (n+5) "_law_raw" [yak Z,stT Z,d.t]=some t/\Tld B (m+1) t :=
 yes p.ra (zw0 H (zpi p H n (by lia)) hm h hd) fun o h=>h
theorem zfe(n:Nat)(hm:m<=60)(h:Stn B m Z)(b:Tb)(R:List Row)(hz:(b,R)∈Z)(r:Rl)(hr:r∈b.rs):∃L,run P (n+5) "_law_broken" [yak Z,stT Z,b.t,r.t]=some (.lst L) :=
 have hb:=h.mem hz
 w_1 T.lst p.br (n:=n+4) (zpj H h (zcy p H (n+2) h) hm hz hr fun t et ps hp=>by subst et;exact zgr p.nm p.lv (H.ok _ hb) hp 3 n t (H.fit b hb _ hr))
theorem zo9(n:Nat){m:Nat}(hm:m<=50){Z:List Zt}(h:Stn B m Z){d:Dd}(hd:d.ok B):∃t,run P (n+6) "_law_done" [yak Z,stT Z,d.t]=some t/\Tld B (m+1) t:=by
 obtain⟨t,e,ht⟩:=zri p H n hm h hd;rcases ht with⟨i,rfl⟩|⟨Z',rfl,h'⟩
 .exact yes p.dn (Q:=fun o=>o=.rt (.int i)) (zad (zab e rfl) (zdx rfl (zah rfl rfl))) fun o e=>⟨_,e,.inl ⟨i,rfl⟩⟩
 .rw[h.sch.trans h'.sch.symm]at e ⊢;refine yes p.dn (zwb H h' (fun b R hz r hr=>zfe p H n (by lia) h' b R hz r hr) (stT Z) d.t (stT Z') e) fun o ⟨t,e,ht⟩=>⟨t,e,?_⟩;rcases ht with⟨i,rfl⟩|rfl
  .exact .inl ⟨i,rfl⟩
  .exact .inr ⟨Z',rfl,h'⟩
theorem zom(n:Nat)(hm:m<=60)(h:Stn B m Z):∃b,run P (n+6) "_law_late" [yak Z,stT Z]=some (.bl b):=w_1 T.bl p.lt (n:=n+5) (zvk H h fun b R hz r hr=>zfe p H n hm h b R hz r hr)
theorem zpa(n:Nat)(hm:m<=60)(h:Stn B m Z)(N:Int):∃d:Dd,run P (n+3) "_law_deed" [yak Z,stT Z,.int N]=some d.t/\d.ok B :=
 yct Dd.t p.dd (n:=n+2) (zwd H h {toCls:=zcy p H n h,dr:=fun a k=>zbz p.dr (n+1) a k,ro:=fun b hb k=>zky p.dr p.wt p.ro n (H.ok b hb) k,wt:=fun c k=>zgb p.wt (n+1) c k} hm N)
theorem zkj(n:Nat)(N:Int)(M:Nat)(hM:M<=20):∃Z,run P (n+7) "_law_store" [.tup (B.map Tb.t),.int N,.int (M:Int)]=some (stT Z)/\Stn B M Z :=
 yct stT p.st (n:=n+6) (zq5 H ⟨fun m hm Z h d hd=>zo9 p H n hm h hd,fun m hm Z h N=>zpa p H (n+3) (by lia) h N,fun m hm Z h=>zom p H n hm h,fun a k=>zbz p.dr (n+5) a k⟩ N M hM)
end
abbrev e0(x:Str):a7 (Str×Int):=some (x,0)
section
variable {G:Glo}{ss a b:List S}{τ τ':List Sl}{Q:Out->Prop}{t u v:T}{ts us:List T}{i j n:Nat}{e c x y z:E}{es:List E}{ρ:Env}{p q:Bool}{f:Str}
theorem zpt(h:yal G es (fv τ)=some ts)(h2:ycw ts=some m)(k:Q (.rs f m)):W G (.fail f es::ss) τ Q:=w_s (o:=.rs f m) (by rw[evS,zmz h,zxv,h2];rfl) k
theorem zpu(h:yal G es (fv τ)=some ts)(h1:G.call f ts=some t)(k:W G ss τ' Q)(js:List Nat:=[])(h0:frzAt (yah es) τ=frzAt js τ:=by rfl)(h2:(frzAt js τ).set i (.val t)=τ':=by(try dsimp only[st0,frzAt,ya2,ybs,yat,List.modify_zero_cons,List.modify_succ_cons,xsz,xss,List.cons_append,List.nil_append,yau,fresh,Sl.frz,List.map,List.replicate_succ,List.replicate_zero]);first|done|exact rfl):W G (.asgx i f es::ss) τ Q :=
 w_s (o:=.nx τ') (by rw[evS,zmz h,zxv,ycs,h1,<-h2,<-h0]) k
theorem zkb(h:yal G es (fv τ)=some ts)(h1:G.call f ts=none)(h2:G.exc f ts=some (x',m))(k:Q (.rs x' m)):W G (.asgx i f es::ss) τ Q :=
 w_s (o:=.rs x' m) (by rw[evS,zmz h,Option.bind_some,ycs,h1];dsimp only;rw[h2];rfl) k
theorem zts(h:evE G e (fv τ)=some (.lst us))(h2:τ[i]?=some (.own ts))(h3:ts.length+us.length<=SZ)(k:W G ss τ' Q)(js:List Nat:=[])(h0:frzAt (yab e) τ=frzAt js τ:=by rfl)(h1:(frzAt js τ)[i]?=τ[i]?:=by rfl)(h4:(frzAt js τ).set i (.own (ts++us))=τ':=by(try dsimp only[st0,frzAt,ya2,ybs,yat,List.modify_zero_cons,List.modify_succ_cons,xsz,xss,List.cons_append,List.nil_append,yau,fresh,Sl.frz,List.map,List.replicate_succ,List.replicate_zero]);first|done|exact rfl):W G (.ext i e::ss) τ Q :=
 w_s (o:=.nx τ') (by rw[evS,ydl h,Option.bind_some,h0,h1,h2];dsimp only;rw[if_pos h3,h4]) k
theorem ztt{s':Sl}(h:evE G x (fv τ)=some t)(h':evE G y (fv τ)=some u)(h3:ycv τ[i]? t u=some s')(k:W G ss τ' Q)(js:List Nat:=[])(h0:frzAt (yab x++yab y) τ=frzAt js τ:=by rfl)(h1:(frzAt js τ)[i]?=τ[i]?:=by rfl)(h4:(frzAt js τ).set i s'=τ':=by(try dsimp only[st0,frzAt,ya2,ybs,yat,List.modify_zero_cons,List.modify_succ_cons,xsz,xss,List.cons_append,List.nil_append,yau,fresh,Sl.frz,List.map,List.replicate_succ,List.replicate_zero]);first|done|exact rfl):W G (.dapp i x y::ss) τ Q :=
 w_s (o:=.nx τ') (by rw[evS,(zan G x (zfw _ τ).l).trans h,zxv,(zan G y (zfw _ τ).r).trans h',zxv,h0,h1,h3,<-h4];rfl) k
theorem zqy(h:evE G x (fv τ)=some t)(h':evE G y (fv τ)=some u)(h3:yac [] t=true)(k:W G ss τ' Q)(js:List Nat:=[])(h0:frzAt (yab x++yab y) τ=frzAt js τ:=by rfl)(h4:(frzAt js τ).set i (.dic [t] [u])=τ':=by(try dsimp only[st0,frzAt,ya2,ybs,yat,List.modify_zero_cons,List.modify_succ_cons,xsz,xss,List.cons_append,List.nil_append,yau,fresh,Sl.frz,List.map,List.replicate_succ,List.replicate_zero]);first|done|exact rfl):W G (.dnew1 i x y::ss) τ Q :=
 w_s (o:=.nx τ') (by rw[evS,(zan G x (zfw _ τ).l).trans h,zxv,(zan G y (zfw _ τ).r).trans h',zxv,if_pos h3,h0,h4]) k
theorem zqz{s:Sl}(h:evE G x (fv τ)=some t)(h1:evE G e (fv (τ.set j .no))=some u)(h2:items .plain [u]=some us)(h3:τ[i]?=some s)(h4:ddS (some s)=some (ks,ds))(h5:yac ks t=true/\ks.length<1000/\i≠j/\i≠n/\j≠n)(h6:ybh us ((yae ks ds t).getD ([],[]))=some d)(k:W G ss τ' Q)(js:List Nat:=[])(h0:frzAt (yab x++yab e) τ=frzAt js τ:=by rfl)(h7:(frzAt js τ)[i]?=τ[i]?:=by rfl)(h8:evE G e (ygg ((frzAt js τ).set j .no))=evE G e (fv (τ.set j .no)):=by rfl)(h9:((((frzAt js τ).set i (.dd (yad ks t) (yap ks ds t d))).set j .no).set n .no)=τ':=by(try dsimp only[st0,frzAt,ya2,ybs,yat,List.modify_zero_cons,List.modify_succ_cons,xsz,xss,List.cons_append,List.nil_append,yau,fresh,Sl.frz,List.map,List.replicate_succ,List.replicate_zero]);first|done|exact rfl):W G (.dfill j i x n e::ss) τ Q :=
 w_s (o:=.nx τ') (by rw[evS,(zan G x (zfw _ τ).l).trans h,zxv,h0,h8,h1,zxv,h2,zxv,h7,h3,h4,zxv,if_pos h5,h6,<-h9];rfl) k
theorem ztr{α:Type}{enc:α->T}{is:List Nat}{k:Ik}{τ0:List Sl}(ix:List Nat)(l:List α)(I:List α->List Sl->Prop)(zs:List Sl)(h:yal G es (fv τ)=some ts)(h2:items k ts=some (l.map enc))(h0:ya2 ix zs τ0=τ0)(h1:I [] zs)(hs:∀l1 x l2,l=l1++x::l2->∀zs,I l1 zs->∃τ',ybs is (enc x) (ya2 ix zs τ0)=some τ'/\W G b τ' fun o=>(∃x n,o=.rs x n/\Q o)\/∃zs,o=.nx (ya2 ix zs τ0)/\I (l1++[x]) zs)(hk:∀zs,I l zs->W G ss (ya2 ix zs τ0) Q)(js:List Nat:=[])(h4:frzAt (yah es) τ=frzAt js τ:=by rfl)(h3:frzAt js τ=τ0:=by(try dsimp only[st0,frzAt,ya2,ybs,yat,List.modify_zero_cons,List.modify_succ_cons,xsz,xss,List.cons_append,List.nil_append,yau,fresh,Sl.frz,List.map,List.replicate_succ,List.replicate_zero]);first|done|exact rfl):W G (.loop is k es b::ss) τ Q:=by
 rw[<-h4]at h3;subst h3;have aux:∀l2 l1,l=l1++l2->∀zs,I l1 zs->∃o,ybk (fun x τ=>(ybs is x τ).bind fun τ'=>yav G b τ') (l2.map enc) (ya2 ix zs (frzAt (yah es) τ))=some o/\Kn G ss Q o:=by
  intro l2
  induction l2 with
  |nil=>intro l1 e zs hI;exact⟨_,rfl,hk zs (by rw[e,zy0];exact hI)⟩
  |cons x l2 ih=>
   intro l1 e zs hI;obtain⟨τ1,b1,o,b2,b3⟩:=hs l1 x l2 e zs hI;rw[zxz,ybk,b1,zxv,b2,zxv];rcases b3 with⟨x,n,rfl,hq⟩|⟨zs',rfl,hI'⟩
   .exact⟨_,rfl,hq⟩
   .exact ih (l1++[x]) (by rw[e,zyz];rfl) zs' hI'
 obtain⟨o,e,k⟩:=aux l [] rfl zs h1;rw[h0]at e;exact w_s (by rw[evS,zmz h,zxv,h2];exact e) k
theorem zwc(h:evE G x ρ=some (.dic ts us))(h1:evE G y ρ=some u)(h2:evE G z ρ=some v)(h3:yac ts u=true):evE G (.dget x y z) ρ=some ((yae ts us u).getD v):=by rw[evE,h,h1,h2];exact if_pos h3
theorem zj9{P:Pr}{D:Fd}(hf:P.fn f=some D)(h:W (glo P n) D.body (st0 ts i) Q)(hl:ts.length=D.np:=by rfl)(hk:D.ns-ts.length=i:=by rfl):∃o,Q o/\(∀t,o=.rt t->run P (n+1) f ts=some t)/\∀x m,o=.rs x m->run P (n+1) f ts=none/\ybn P (n+1) f ts=some (x,m):=by
 obtain⟨o,h1,h2⟩:=h;subst hk;refine⟨o,h2,fun t e=>?_,fun x m e=>?_⟩
 .rw[run,hf,zxv,if_pos hl];exact zx2 zbb (h1.trans (zx2 some e))
 .rw[run,ybn,hf,zxv,zxv,if_pos hl,if_pos hl];exact⟨zx2 zbb (h1.trans (zx2 some e)),zx2 yce (h1.trans (zx2 some e))⟩
end
theorem zqg{p:Pl}(h:ybi p.2):isK (plT p)=true:=by
 show([T.str p.1,tkT p.2].all (yao 3))=true;rw[List.all_cons,List.all_cons];have:yao 3 (tkT p.2)=true:=by
  refine uc1.mpr fun x hx=>?_;obtain⟨k,hk,rfl⟩:=omm hx;rcases k with _|_|_
  .rfl
  .exact absurd rfl (h _ hk)
  .rfl
 rw[this];rfl
theorem zor{K:List Pl}{p:Pl}(h:∀q∈K,ybi q.2)(hp:ybi p.2):yac (K.map plT) (plT p)=true:=by
 have:(K.map plT).all isK=true:=by rw[List.all_map];exact uc1.mpr fun q hq=>zqg (h q hq)
 show(_||(isK (plT p)&&(K.map plT).all isK))=true;rw[zqg hp,this];simp
structure Plc{α:Type}[DecidableEq α](enc:α->T)(ok:α->Prop):Prop where
 eq:∀a b,eqT (enc a) (enc b)=decide (a=b)
 kd:∀{K:List α}{p:α},(∀q∈K,ok q)->ok p->yac (K.map enc) (enc p)=true
theorem zd4:Plc plT fun p=>ybi p.2:=⟨zo5,zor⟩
theorem zd3:Plc T.str fun _=>True:=⟨fun a b=>by show(a==b)=_;by_cases e:a=b<;>simp[e],fun{K p}_ _=>by
 have:(K.map T.str).all isS=true:=by rw[List.all_map];exact uc1.mpr fun _ _=>rfl
 show((true&&(K.map T.str).all isS)||_)=true;rw[this];rfl⟩
section
variable {α:Type}[DecidableEq α]{enc:α->T}{ok:α->Prop}(P:Plc enc ok)
include P in
theorem zgt(K:List α)(p:α):ybv (K.map enc) (enc p)=K.any fun x=>decide (x=p):=by unfold ybv;rw[List.any_map];congr;funext x;exact P.eq x p
noncomputable def pk(K:List α)(p:α):List α:=if(K.any fun x=>decide (x=p))=true then K else K++[p]
include P in
theorem ze4(K:List α)(p:α):yad (K.map enc) (enc p)=(pk K p).map enc:=by
 unfold yad pk;rw[zgt P];split
 .rfl
 .rw[zx7];rfl
include P in
theorem zim{β:Type}(p q:α)(v:β):∀(K:List α)(V:List β),K.length=V.length->yae (yad (K.map enc) (enc p)) (yap (K.map enc) V (enc p) v) (enc q)=if p=q then some v else yae (K.map enc) V (enc q)
 |[],[],_=>by show(if eqT (enc p) (enc q)=true then some v else none)=_;rw[P.eq];by_cases e:p=q<;>simp[e,yae]
 |a::K,w::V,h=>by
  have ih:=zim p q v K V (by simpa using h);rw[ze4 P]at ih ⊢;rw[zxz,yap,P.eq];by_cases e:a=p
  .subst e;rw[if_pos (decide_eq_true rfl),pk,if_pos (by simp),List.map_cons,yae,yae,P.eq];by_cases f:a=q<;>simp[f]
  .rw[if_neg (by simpa using e)];have:pk (a::K) p=a::pk K p:=by unfold pk;rw[ub7,zy4 e,Bool.false_or];split<;>rfl
   rw[this,zxz,yae,ih,yae,P.eq];by_cases f:a=q
   .subst f;rw[if_pos (zx8 rfl),if_neg (Ne.symm e),if_pos (zx8 rfl)]
   .simp[f]
include P in
theorem zg8{β:Type}(p:α)(v:β):∀(K:List α)(V:List β),K.length=V.length->(pk K p).length=(yap (K.map enc) V (enc p) v).length
 |[],[],_=>rfl
 |a::K,w::V,h=>by
  have ih:=zg8 p v K V (by simpa using h);rw[zxz,yap,P.eq];by_cases e:a=p
  .subst e;rw[if_pos (decide_eq_true rfl),pk,if_pos (by simp)];simpa using h
  .rw[if_neg (by simpa using e)];have:pk (a::K) p=a::pk K p:=by unfold pk;rw[ub7,zy4 e,Bool.false_or];split<;>rfl
   rw[this,zya,zya,ih]
theorem zdr{β γ:Type}(f:β->γ)(t:T):∀(ks:List T)(V:List β),yae ks (V.map f) t=(yae ks V t).map f
 |[],_=>rfl
 |_::_,[]=>rfl
 |k::ks,v::V=>by rw[zxz,yae,yae,zdr f t ks V];split<;>rfl
theorem zk8{K:List α}{p q:α}(h:q∈pk K p):q∈K\/q=p:=by
 unfold pk at h;split at h
 .exact .inl h
 .simpa using h
theorem zup{K:List α}{p:α}(h:K.Nodup):(pk K p).Nodup:=by
 unfold pk;split
 .exact h
 .rename_i n;rw[List.nodup_append];exact⟨h,by simp,fun a ha b hb e=>n (List.any_eq_true.mpr ⟨a,ha,decide_eq_true (e.trans (omg hb))⟩)⟩
theorem zp0(K:List α)(p:α):(pk K p).length<=K.length+1:=by unfold pk;split<;>simp
end
noncomputable def zdg:Fd:=⟨2,3,[.loop [2] .plain [.var 0] [.ite (.cmp .eq (.idx (.var 2) (.cst (.int 0))) (.var 1)) [.ret (.var 2)] []],
  .ret (.cst .non)]⟩
noncomputable def zf1:Fd:=⟨2,2,[.ret (.call "worths_of" [.var 0,.var 1,.idx (.var 0) (.cst (.int 2))])]⟩
noncomputable def zem:Fd:=⟨3,5,[.loop [3,4] .zip [.var 0,.var 1] [.ite (.cmp .eq (.idx (.var 3) (.cst (.int 0))) (.var 2)) [.ret (.var 4)] []],
  .ret (.tup [])]⟩
noncomputable def zf0:Fd:=⟨4,6,[.asg 4 (.call "table_of" [.var 0,.var 2]),
  .loop [5] .plain [.call "rows_of" [.var 0,.var 1,.var 2]] [.ite (.tru (.call "is_same_key" [.call "key_of" [.var 4,.var 5],.var 3])) [.ret (.var 5)] []],
  .fail "NoRow" [.cst (.str "the table has no row with this key")]]⟩
noncomputable def zb7:Fd:=⟨2,2,[.ret (.land (.cmp .eq (.var 0) (.var 1)) (.lnot (.blt .any (.comp (.isi (.var 0) .tbool) 1 .plain [.var 1] none))))]⟩
noncomputable def za9:Fd:=⟨3,4,[.asg 3 (.call "worths_of" [.var 0,.var 2,.idx (.var 1) (.cst (.int 1))]),
  .ite (.cmp .isin (.cst .non) (.var 3)) [.ret (.cst .non)] [],
  .ret (.var 3)]⟩
noncomputable def zbn:Fd:=⟨2,6,[.asg 2 (.lst []),
  .loop [3,4] .zip [.var 0,.var 1] [.loop [5] .plain [.idx (.var 3) (.cst (.int 3))] [.ite (.cmp .eq (.idx (.var 5) (.cst (.int 0))) (.cst (.str "refers"))) [.ext 2 (.call "references_by" [.var 3,.var 5,.var 4])] []]],
  .ret (.var 2)]⟩
noncomputable def zbo:Fd:=⟨3,6,[.asg 3 (.lst []),
  .loop [4] .plain [.var 2] [.asg 5 (.call "key_referred_to" [.var 0,.var 1,.var 4]),
  .ite (.cmp .notN (.var 5) (.cst .non)) [.app 3 (.tup [.tup [.idx (.var 0) (.cst (.int 0)),.call "key_of" [.var 0,.var 4]],.var 1,.tup [.idx (.var 1) (.cst (.int 2)),.var 5]])] []],
  .ret (.var 3)]⟩
noncomputable def zhr:Fd:=⟨4,6,[.asg 4 (.call "references_of" [.var 0,.var 1]),
  .asgx 5 "gone_with" [.var 0,.var 1,.var 4,.var 2,.var 3],
  .ret (.tup [.blt .toTuple (.blt .sorted (.var 5)),.blt .toTuple (.blt .sorted (.call "gaps_by" [.var 4,.var 5]))])]⟩
noncomputable def zcx:Fd:=⟨5,10,[.asgx 5 "row_of" [.var 0,.var 1,.var 3,.var 4],
  .asg 6 (.call "along_with" [.var 2,.tup [.var 3,.call "key_of" [.call "table_of" [.var 0,.var 3],.var 5]]]),
  .loop [7,8,9] .plain [.var 2] [.ite (.land (.cmp .eq (.idx (.var 8) (.cst (.int 3))) (.cst (.str "stop"))) (.land (.cmp .isin (.var 9) (.var 6)) (.cmp .notin (.var 7) (.var 6)))) [.fail "Held" [.cst (.str "a row that stays refers to one that would go")]] []],
  .ret (.var 6)]⟩
noncomputable def zbe:Fd:=⟨2,8,[.dnew 2,
  .loop [3,4,5] .plain [.var 0] [.ite (.cmp .eq (.idx (.var 4) (.cst (.int 3))) (.cst (.str "along"))) [.dapp 2 (.var 5) (.var 3)] []],
  .dnew1 6 (.var 1) (.cst (.bl true)),
  .asg 7 (.lst [.var 1]),
  .wloop (.tru (.var 7)) [.lpop 5 7,
  .loop [3] .plain [.dget (.var 2) (.var 5) (.lst [])] [.ite (.cmp .notin (.var 3) (.var 6)) [.put 6 (.var 3) (.cst (.bl true)),
  .app 7 (.var 3)] []]],
  .ret (.var 6)]⟩
noncomputable def zer:Fd:=⟨2,8,[.dnew 2,
  .loop [3,4,5] .plain [.var 0] [.ite (.land (.cmp .eq (.idx (.var 4) (.cst (.int 3))) (.cst (.str "gap"))) (.land (.cmp .isin (.var 5) (.var 1)) (.cmp .notin (.var 3) (.var 1)))) [.dfill 6 2 (.var 3) 7 (.idx (.var 4) (.cst (.int 1)))] []],
  .ret (.var 2)]⟩
def Lk.gp(l:Lk):Pl:=(l.g,wK l.lc l.ps)
abbrev Rf:=Lk×Str
def Rf.t(x:Rf):T:=.tup [plT x.1.pl,(Rl.ref x.1.lc x.1.g x.2).t,plT x.1.gp]
def rfR(z:Zt):Rl->List Rf
 |.ref qa g w=>(z.2.filter fun ps=>!ybe (wK qa ps)).map fun ps=>(⟨z.1,qa,g,ps⟩,w)
 |_=>[]
def rfs(Z:List Zt):List Rf:=Z.flatMap fun z=>z.1.rs.flatMap (rfR z)
theorem zvx(l:Lk):l.go=if ybe (wK l.lc l.ps)=true then none else some l.gp:=rfl
theorem zm2{α:Type}{f:α->List Rf}{g:α->List Lk}{p:Rf->Bool}{c:Lk->Bool}:∀{l:List α},(∀a∈l,((f a).filter p).map (·.1)=(g a).filter c)->((l.flatMap f).filter p).map (·.1)=(l.flatMap g).filter c
 |[],_=>rfl
 |a::l,h=>by rw[ua6,ua6,List.filter_append,List.filter_append,zx7,h a (.head _),zm2 fun b hb=>h b (.tail _ hb)]
theorem zkz(Z:List Zt)(way:Str)(c d:Lk->Bool)(hc:∀l,d l=if ybe (wK l.lc l.ps)=true then false else c l):((rfs Z).filter fun x=>x.2==way&&c x.1).map (·.1)=(lks way Z).filter d:=by
 refine zm2 fun z _=>zm2 fun r _=>?_;cases r with
 |ref qa g w=>
  rw[zhg,rfR];by_cases e:(w==way)=true
  .rw[if_pos e,List.filter_map,List.filter_map,List.filter_filter,zyi];refine zx2 (List.map fun ps=>(⟨z.1,qa,g,ps⟩:Lk)) (List.filter_congr fun ps _=>?_);simp only[Function.comp_apply,e,hc,Bool.true_and];cases ybe (wK qa ps)<;>simp
  .rw[if_neg e,List.filter_map];have:(z.2.filter fun ps=>!ybe (wK qa ps)).filter ((fun x:Rf=>x.2==way&&c x.1)∘fun ps=>((⟨z.1,qa,g,ps⟩:Lk),w))=[]:=List.filter_eq_nil_iff.mpr fun ps _ h=>e (Bool.and_eq_true_iff.mp h).1;rw[this];rfl
 |_=>rfl
theorem zk0(h:Stn B m Z)(hx:x∈rfs Z):x.1.ok B x.2/\ybi x.1.gp.2/\x.1.pl∈pls Z:=by
 obtain⟨z,hz,hx⟩:=ue2.mp hx;obtain⟨r,hr,hx⟩:=ue2.mp hx;cases r with
 |ref qa g w=>obtain⟨ps,hps,rfl⟩:=omm (show x∈(z.2.filter fun ps=>!ybe (wK qa ps)).map fun ps=>((⟨z.1,qa,g,ps⟩:Lk),w)from hx);obtain⟨h1,h2⟩:=ub9.mp hps;refine⟨⟨h.mem hz,hr,(h.rw z hz).2.1 ps h1⟩,fun k hk e=>?_,ue2.mpr ⟨z,hz,ua0.mpr ⟨ps,h1,rfl⟩⟩⟩;have:ybe (wK qa ps)=true:=List.any_eq_true.mpr ⟨k,hk,zx8 e⟩;rw[this]at h2;cases h2
 |_=>cases hx
theorem zk1(H:Sch B)(h:Stn B m Z):(rfs Z).length<=16*m:=by
 have h1:=zeh (l:=Z) (f:=fun z=>z.1.rs.flatMap (rfR z)) (k:=4*m) fun z hz=>by
  have h2:=zeh (l:=z.1.rs) (f:=rfR z) (k:=m) fun r _=>by
   cases r with
   |ref qa g w=>rw[rfR,zxt];exact zyc (ud6 _ _) (h.rw z hz).1
   |_=>exact zyg _
  exact zyc h2 (Nat.mul_le_mul_right _ (H.ok _ (h.mem hz)).rl)
 have h3:=Nat.mul_le_mul_right (4*m) (show Z.length<=4 by rw[h.len];exact H.l4);unfold rfs;lia
theorem zfl(H:Sch B)(h:Stn B m Z){p:Pl}(hp:p∈pls Z):ybi p.2:=by obtain⟨z,hz,hp⟩:=ue2.mp hp;obtain⟨ps,hps,rfl⟩:=omm hp;exact zch (H.ok _ (h.mem hz)) ((h.rw z hz).2.1 ps hps)
structure Pc(G:Glo)(B:List Tb)(Z:List Zt):Prop where
 tb:∀b∈B,G.call "table_of" [yak Z,.str b.nm]=some b.t
 rw:∀z∈Z,G.call "rows_of" [yak Z,stT Z,.str z.1.nm]=some (rwT z)
 wo:∀b∈B,∀ps,RowOk b ps->∀qa:List Str,(∀x∈qa,∃c∈b.cs,c.n=x)->qa.length<=4->G.call "worths_of" [b.t,yag ps,ya0 qa]=some (tkT (wK qa ps))
section
variable {G:Glo}{B:List Tb}{m:Nat}{Z:List Zt}(H:Sch B)(h:Stn B m Z)
include H h
theorem zq1(hb:b∈B):W G zdg.body (st0 [yak Z,.str b.nm] 1) fun o=>o=.rt b.t:=by
 obtain⟨R,hz⟩:=h.of hb;refine zcn [2] (enc:=fun z:Zt=>z.1.t) Z (fun D zs=>∃x,zs=[x]/\∀y∈D,y.1.nm≠b.nm) [.no] rfl (zaj _) rfl ⟨_,rfl,fun _ h=>absurd h (by simp)⟩ (fun D z D2 e zs hI=>?_) fun zs hI=>?_
 .obtain⟨x,rfl,hD⟩:=hI;refine⟨_,rfl,?_⟩;refine w_nz ?_;refine yay (zag (zae rfl rfl (t0 _)) rfl (sw rfl)) (fun q=>zah rfl (.inl ⟨_,rfl,?_⟩)) fun q=>zaf (.inr ⟨_,rfl,_,rfl,fun y hy=>?_⟩)
  .rw[zig H.nd (h.mem (by rw[e];simp)) hb (ua2 q)]
  .rcases oma hy with hy|hy
   .exact hD y hy
   .rw[omg hy];exact ne_of_beq_false q
 .obtain⟨x,rfl,hD⟩:=hI;exact absurd rfl (hD _ hz)
theorem zua(hz:(b,R)∈Z):W G zem.body (st0 [yak Z,stT Z,.str b.nm] 2) fun o=>o=.rt (rwT (b,R)):=by
 refine zcn [3,4] (enc:=fun z:Zt=>T.tup [z.1.t,rwT z]) Z (fun D zs=>∃x y,zs=[x,y]/\∀y∈D,y.1.nm≠b.nm) [.no,.no] rfl (congrArg some (zj3 Z)) rfl ⟨_,_,rfl,fun _ h=>absurd h (by simp)⟩ (fun D z D2 e zs hI=>?_) fun zs hI=>?_
 .obtain⟨x,x',rfl,hD⟩:=hI;refine⟨_,rfl,?_⟩;refine w_nz ?_;refine yay (zag (zae rfl rfl (t0 _)) rfl (sw rfl)) (fun q=>zah rfl (.inl ⟨_,rfl,?_⟩)) fun q=>zaf (.inr ⟨_,rfl,_,_,rfl,fun y hy=>?_⟩)
  .have:z=(b,R):=zls (by rw[h.nms];exact H.nd) (by rw[e];simp) hz (ua2 q);rw[this]
  .rcases oma hy with hy|hy
   .exact hD y hy
   .rw[omg hy];exact ne_of_beq_false q
 .obtain⟨x,x',rfl,hD⟩:=hI;exact absurd rfl (hD _ hz)
end
theorem zt7{G:Glo}(k k':List Kt)(hl:k.length<=1000):W G zb7.body (st0 [tkT k',tkT k] 0) fun o=>o=.rt (.bl (decide (k'=k))):=by
 have hsz:=zar;have hB:∀k:List Kt,zdm (k.map fun _=>T.bl false)=some (k.map fun _=>false):=fun k=>by
  induction k with
  |nil=>rfl
  |cons x k ih=>rw[zxz,zdm,ih];rfl
 refine zah (t:=.bl (decide (k'=k))) ?_ rfl;have e:=zaq (G:=G) (x:=.cmp .eq (.var 0) (.var 1)) (y:=.lnot (.blt .any (.comp (.isi (.var 0) .tbool) 1 .plain [.var 1] none))) (ρ:=fv (st0 [tkT k',tkT k] 0)) (p:=decide (k'=k)) (q:=true) (zag rfl rfl (by show eqC _ _=_;unfold eqC;rw[if_pos (by rw[zna];decide),zfi])) fun _=>by
  rw[evE,za1 (t:=.bl false) (zb1 (enc:=kT) (R:=k) (fun _=>T.bl false) rfl (zaw (by rw[zxt];lia)) fun x _=>by rcases x with _|_|_<;>rfl) (by show(zdm _).map _=_;rw[hB];simp)];rfl
 rwa[Bool.and_true]at e
section
variable {G:Glo}{B:List Tb}{m:Nat}{Z:List Zt}(H:Sch B)(h:Stn B m Z)(hm:m<=60)(C:Pc G B Z)(ck:∀b∈B,∀ps,RowOk b ps->G.call "key_of" [b.t,yag ps]=some (kyT b ps))
include C
theorem zxk(hb:b∈B)(ho:b.ok)(hp:RowOk b ps):W G zf1.body (st0 [b.t,yag ps] 0) fun o=>o=.rt (kyT b ps) :=
 zah (zab (C.wo b hb ps hp b.key ho.inn (zyc ho.k1 (by decide))) (yaa rfl (yaa rfl (yaa (zae rfl rfl (t2 b)) rfl)))) rfl
theorem zjn(hb:b∈B)(hp:RowOk b ps)(hc:∀x∈qa,∃c∈b.cs,c.n=x)(h4:qa.length<=4):W G za9.body (st0 [b.t,(Rl.ref qa g w).t,yag ps] 1) fun o=>o=.rt (woT qa ps):=by refine zad (zab (C.wo b hb ps hp qa hc h4) (yaa rfl (yaa rfl (yaa (zae rfl rfl (rf1 _ _ _)) rfl)))) ?_;refine yay (q:=ybe (wK qa ps)) (zag rfl rfl (by rw[yaw,zqi];rfl)) (fun q=>zah rfl (show Out.rt _=.rt (woT qa ps) by unfold woT;rw[if_pos q])) fun q=>zah rfl (by unfold woT;rw[q];rfl)
include H h hm ck
theorem zrc(cs:∀k k':List Kt,k.length<=1000->G.call "is_same_key" [tkT k',tkT k]=some (.bl (decide (k'=k))))(hz:(b,R)∈Z)(k:List Kt)(hk:k.length<=1000):W G zf0.body (st0 [yak Z,stT Z,.str b.nm,tkT k] 2) fun o=>
  ((R.any fun ps=>decide (yai b ps=k))=false/\o=.rs "NoRow" 0)\/∃ps∈R,yai b ps=k/\o=.rt (yag ps):=by
 have hb:=h.mem hz;refine zad (zab (C.tb _ hb) rfl) ?_;refine zcn [5] (enc:=yag) R (fun D zs=>∃x,zs=[x]/\(D.any fun ps=>decide (yai b ps=k))=false) [.no] (yaa (zab (C.rw _ hz) rfl) rfl) (zaj _) rfl ⟨_,rfl,rfl⟩ (fun D ps D2 e zs hI=>?_) fun zs hI=>?_
 .obtain⟨x,rfl,hD⟩:=hI;have hps:ps∈R:=by rw[e];simp
  have hp:=(h.rw _ hz).2.1 ps hps;refine⟨_,rfl,?_⟩;refine w_nz ?_;exact yay (q:=decide (yai b ps=k)) (by rw[evE,zab (cs k (yai b ps) hk) (yaa (zab (ck b hb ps hp) rfl) rfl)];rfl) (fun q=>zah rfl (.inl ⟨_,rfl,.inr ⟨ps,hps,of_decide_eq_true q,rfl⟩⟩)) fun q=>zaf (.inr ⟨_,rfl,_,rfl,by rw[List.any_append,hD];simpa using q⟩)
 .obtain⟨x,rfl,hD⟩:=hI;exact zpt rfl rfl (.inl ⟨hD,rfl⟩)
theorem zrg(cr:∀b∈B,∀qa g w,(Rl.ref qa g w)∈b.rs->∀ps,RowOk b ps->G.call "key_referred_to" [b.t,(Rl.ref qa g w).t,yag ps]=some (woT qa ps))(hz:z∈Z)(hr:Rl.ref qa g w∈z.1.rs):W G zbo.body (st0 [z.1.t,(Rl.ref qa g w).t,rwT z] 3) fun o=>o=.rt (.lst ((rfR z (.ref qa g w)).map Rf.t)):=by
 have hsz:=zar;have hb:=h.mem hz;have hlen:z.2.length<=60:=zyc (h.rw z hz).1 hm;have hfit:=H.fit _ hb _ hr;have hc4:qa.length<=4:=((H.ok _ hb).rs _ hr);have e0:∀D:List Row,rfR (z.1,D) (.ref qa g w)=(D.filter fun ps=>!ybe (wK qa ps)).map fun ps=>(⟨z.1,qa,g,ps⟩,w):=fun _=>rfl;refine zad (t:=.lst []) rfl ?_;refine zbd [3,4,5] (enc:=yag) z.2 (fun D zs=>∃(L:List T)(a b:Sl),zs=[.own L,a,b]/\L=(rfR (z.1,D) (.ref qa g w)).map Rf.t) [.own [],.no,.no] rfl (zaj _) rfl ⟨_,_,_,rfl,rfl⟩ (fun D ps D2 e zs hI=>?_) fun zs hI=>?_
 .obtain⟨_,a,b,rfl,rfl⟩:=hI;have hp:=(h.rw z hz).2.1 ps (by rw[e];simp);have hl:D.length<=60:=by rw[e,zxy]at hlen;lia
  refine⟨_,rfl,?_⟩;refine w_nz ?_;refine zad (zab (cr _ hb qa g w hr ps hp) rfl) ?_;refine yay (q:=!ybe (wK qa ps)) (zag rfl rfl (zlq qa ps)) (fun q=>?_) fun q=>zaf ⟨_,rfl,_,_,_,rfl,by rw[e0,e0,List.filter_append,ub0,q];simp⟩;have ew:woT qa ps=tkT (wK qa ps):=by unfold woT;rw[if_neg (by simpa using q)]
  rw[ew];refine zfh (t:=Rf.t (⟨z.1,qa,g,ps⟩,w)) (zau (yaa (zau (yaa (zae rfl rfl (t0 _)) (yaa (zab (ck _ hb ps hp) rfl) rfl))) (yaa rfl (yaa (zau (yaa (zae rfl rfl (rf2 _ _ _)) (yaa rfl rfl))) rfl)))) rfl (by rw[e0,zxt,zxt];have:=ud6 (fun ps=>!ybe (wK qa ps)) D;lia) ?_;exact zaf (zaf ⟨_,rfl,_,_,_,rfl,by rw[e0,e0,List.filter_append,ub0,q];simp⟩)
 .obtain⟨_,a,b,rfl,rfl⟩:=hI;exact zah rfl rfl
omit ck in
theorem zuc(cb:∀z∈Z,∀qa g w,(Rl.ref qa g w)∈z.1.rs->G.call "references_by" [z.1.t,(Rl.ref qa g w).t,rwT z]=some (.lst ((rfR z (.ref qa g w)).map Rf.t))):W G zbn.body (st0 [yak Z,stT Z] 4) fun o=>o=.rt (.lst ((rfs Z).map Rf.t)):=by
 have hsz:=zar;have hL:=zk1 H h;refine zad (t:=.lst []) rfl ?_;refine zbd [2,3,4,5] (enc:=fun z:Zt=>T.tup [z.1.t,rwT z]) Z (fun D zs=>∃(L:List T)(a b c:Sl),zs=[.own L,a,b,c]/\L=(rfs D).map Rf.t) [.own [],.no,.no,.no] rfl (zx2 some (zj3 Z)) rfl ⟨_,_,_,_,rfl,rfl⟩ (fun D z D2 e zs hI=>?_) fun zs hI=>?_
 .obtain⟨_,a,b,c,rfl,rfl⟩:=hI;have hz:z∈Z:=by rw[e];simp
  refine⟨_,rfl,?_⟩;refine w_nz ?_;refine zbd [2,5] (enc:=Rl.t) z.1.rs (fun D' zs=>∃(L:List T)(b:Sl),zs=[.own L,b]/\L=(rfs D++D'.flatMap (rfR z)).map Rf.t) [.own ((rfs D).map Rf.t),c] (yaa (zae rfl rfl (t3 _)) rfl) (zaj _) rfl ⟨_,c,rfl,by simp⟩ (fun D' r D2' e' zs hI=>?_) fun zs hI=>?_
  .obtain⟨_,b,rfl,rfl⟩:=hI;obtain⟨w0,i0,hw⟩:=r0 r;have hr:r∈z.1.rs:=by rw[e'];simp
   refine⟨_,rfl,?_⟩;refine w_nz ?_;cases r with
   |ref qa g w=>rw[e,rfs,List.flatMap_append,ua6,e',List.flatMap_append,ua6]at hL;refine zdx (zag (zae rfl rfl i0) rfl (sw hw)) ?_;refine zts (us:=(rfR z (.ref qa g w)).map Rf.t) (zab (cb z hz qa g w hr) rfl) rfl (by simp[rfs]at hL ⊢;lia) ?_;exact zaf (zaf ⟨_,rfl,_,_,rfl,by simp⟩)
   |_=>exact za4 (zag (zae rfl rfl i0) rfl (sw hw)) (zaf ⟨_,rfl,_,_,rfl,by simp[rfR]⟩)
  .obtain⟨_,b,rfl,rfl⟩:=hI;exact zaf ⟨_,rfl,_,_,_,_,rfl,by simp[rfs]⟩
 .obtain⟨_,a,b,c,rfl,rfl⟩:=hI;exact zah rfl rfl
end
theorem zkr{β γ:Type}(f:β->γ)(t:T)(v:β):∀(ks:List T)(V:List β),yap ks (V.map f) t (f v)=(yap ks V t v).map f
 |[],_=>rfl
 |_::_,[]=>rfl
 |k::ks,w::V=>by rw[zxz,yap,yap,zkr f t v ks V];split<;>rfl
section
variable {α:Type}[DecidableEq α]{enc:α->T}{ok:α->Prop}
structure Dl(enc:α->T)(ok:α->Prop)(s:Sl)(n:Nat)(f:α->List α):Prop where
 ex:∃(K:List α)(V:List (List α)),(s=.dl (K.map enc) (V.map (·.map enc))\/s=.dic [] []/\K=[])/\K.length=V.length/\(∀q∈K,ok q)/\K.length<=n/\∀p,(yae (K.map enc) V (enc p)).getD []=f p
 le:∀p,(f p).length<=n
variable (P:Plc enc ok)
include P
theorem Dl.app{s:Sl}{n:Nat}{f:α->List α}{a b:α}(h:Dl enc ok s n f)(hn:n<1000)(ha:ok a):∃s',ycv (some s) (enc a) (enc b)=some s'/\Dl enc ok s' (n+1) fun p=>f p++if a=p then[b]else[]:=by
 obtain⟨⟨K,V,hs,hl,hk,hK,hf⟩,hle⟩:=h;have e1:((yae (K.map enc) (V.map (·.map enc)) (enc a)).getD [])=(f a).map enc:=by rw[zdr,<-hf a];cases yae (K.map enc) V (enc a)<;>rfl
 have e2:(f a).map enc++[enc b]=(f a++[b]).map enc:=by rw[zx7];rfl
 have hd:(if yac (K.map enc) (enc a)=true/\(K.map enc).length<1000/\((yae (K.map enc) (V.map (·.map enc)) (enc a)).getD []).length<1000 then some (Sl.dl (yad (K.map enc) (enc a)) (yap (K.map enc) (V.map (·.map enc)) (enc a) ((yae (K.map enc) (V.map (·.map enc)) (enc a)).getD []++[enc b])))else none)=some (.dl ((pk K a).map enc) ((yap (K.map enc) V (enc a) (f a++[b])).map (·.map enc))):=by rw[if_pos ⟨P.kd hk ha,by rw[zxt];lia,by rw[e1,zxt];have:=hle a;lia⟩,e1,e2,ze4 P,zkr]
 refine⟨_,?_,⟨_,_,.inl rfl,zg8 P a (f a++[b]) K V hl,fun q hq=>?_,?_,fun p=>?_⟩,fun p=>?_⟩
 .rcases hs with rfl|⟨rfl,rfl⟩
  .exact hd
  .cases V with
   |nil=>exact hd
   |cons _ _=>cases hl
 .rcases zk8 hq with hq|rfl
  .exact hk q hq
  .exact ha
 .have:=zp0 K a;lia
 .rw[<-ze4 P,zim P a p (f a++[b]) K V hl];by_cases e:a=p
  .subst e;rw[if_pos rfl,if_pos rfl];rfl
  .rw[if_neg e,if_neg e,hf,zy0]
 .have:=hle p;rw[zxy];split<;>simp<;>lia
theorem Dl.get{s:Sl}{n:Nat}{f:α->List α}{p:α}(h:Dl enc ok s n f)(hp:ok p):∃ks us,s.frz.get=some (.dic ks us)/\yac ks (enc p)=true/\(yae ks us (enc p)).getD (.lst [])=.lst ((f p).map enc):=by
 obtain⟨⟨K,V,hs,hl,hk,hK,hf⟩,hle⟩:=h;refine⟨K.map enc,(V.map (·.map enc)).map .lst,?_,P.kd hk hp,?_⟩
 .rcases hs with rfl|⟨rfl,rfl⟩
  .rfl
  .cases V with
   |nil=>rfl
   |cons _ _=>cases hl
 .rw[zdr,zdr,<-hf p];cases yae (K.map enc) V (enc p)<;>rfl
omit P
structure Rk(ρ α:Type) where
 sr:ρ->α
 ga:ρ->α
 wy:ρ->Str
 ru:ρ->T
 r3:∀x,ya6 (ru x) (.int 3)=some (.str (wy x))
noncomputable def rkR:Rk Rf Pl:=⟨fun x=>x.1.pl,fun x=>x.1.gp,fun x=>x.2,fun x=>(Rl.ref x.1.lc x.1.g x.2).t,fun _=>rf3 _ _ _⟩
variable {ρ:Type}(k:Rk ρ α)
noncomputable def ybl(rs:List ρ)(p:α):List α:=(rs.filter fun x=>k.wy x==("along":Str)&&decide (k.ga x=p)).map k.sr
theorem zi1(rs:List ρ)(x:ρ)(p:α):ybl k (rs++[x]) p=ybl k rs p++if(k.wy x==("along":Str)&&decide (k.ga x=p))=true then[k.sr x]else[]:=by unfold ybl;rw[List.filter_append,zx7,ub0];split<;>rfl
include P
theorem znr{G:Glo}{rs:List ρ}{U:List α}{p0:α}(h0:p0∈U)(hU:U.length<=900)(hn:∀q∈U,ok q)(hr:∀x∈rs,k.sr x∈U/\ok (k.ga x))(hl:rs.length<1000):W G zbe.body (st0 [.lst (rs.map fun x=>T.tup [enc (k.sr x),k.ru x,enc (k.ga x)]),enc p0] 6) fun o=>
  ∃gone vs,o=.rt (.dic (gone.map enc) vs)/\Wk (ybl k rs) [p0] [p0] gone/\gone.Nodup/\∀q∈gone,q∈U:=by
 have hsz:=zar;refine zka ?_;refine zbd [2,3,4,5] (enc:=fun x=>T.tup [enc (k.sr x),k.ru x,enc (k.ga x)]) rs (fun D zs=>∃(s a b c:Sl),zs=[s,a,b,c]/\Dl enc ok s D.length (ybl k D)) [.dic [] [],.no,.no,.no] rfl (zav _) rfl ⟨_,_,_,_,rfl,⟨[],[],.inr ⟨rfl,rfl⟩,rfl,fun _ h=>absurd h (by simp),Nat.le_refl _,fun _=>rfl⟩,fun _=>Nat.le_refl _⟩ (fun D x D2 e zs hI=>?_) fun zs hI=>?_
 .obtain⟨s,a,b,c,rfl,hs⟩:=hI;have hx:=hr x (by rw[e];simp);have hD:D.length<1000:=by rw[e,zxy]at hl;lia
  refine⟨_,rfl,?_⟩;refine w_nz ?_;refine yay (q:=k.wy x==("along":Str)) (zag (zae rfl rfl (k.r3 _)) rfl (sw rfl)) (fun q=>?_) fun q=>zaf ⟨_,rfl,s,_,_,_,rfl,?_⟩
  .obtain⟨s',e1,h1⟩:=Dl.app P hs (a:=k.ga x) (b:=k.sr x) hD hx.2;refine ztt (t:=enc (k.ga x)) (u:=enc (k.sr x)) rfl rfl e1 ?_;refine zaf (zaf ⟨_,rfl,s',_,_,_,rfl,?_⟩);rw[List.length_append,show ybl k (D++[x])=fun p=>ybl k D p++if k.ga x=p then[k.sr x]else[]from funext fun p=>by rw[zi1,q];simp];exact h1
  .have:ybl k (D++[x])=ybl k D:=funext fun p=>by rw[zi1,q];simp
   rw[this,zxy];obtain⟨⟨K,V,h1,h2,h3,h4,h5⟩,h6⟩:=hs;exact⟨⟨K,V,h1,h2,h3,by lia,h5⟩,fun p=>Nat.le_succ_of_le (h6 p)⟩
 obtain⟨s,a,b,c,rfl,hs⟩:=hI;refine w_nz ?_;refine zqy (t:=enc p0) (u:=.bl true) rfl rfl (P.kd (K:=[]) (fun _ h=>absurd h (by simp)) (hn p0 h0)) ?_;refine zad (t:=.lst [enc p0]) (zhe rfl) ?_;refine zj8 [2,3,5,6,7] (fun n zs=>∃(s2 x y:Sl)(gone todo:List α)(vs:List T),zs=[s2,x,y,.dic (gone.map enc) vs,.own (todo.map enc)]/\s2.frz=s.frz/\Gst U gone todo/\U.length+todo.length=gone.length+n/\(∀q∈todo,q∈U)/\∀r,Wk (ybl k rs) gone todo r->Wk (ybl k rs) [p0] [p0] r) U.length [s,a,c,.dic [enc p0] [.bl true],.own [enc p0]] (by lia) rfl ⟨_,_,_,[_],[_],_,rfl,rfl,⟨by simp,fun p hp=>by rw[omg hp];exact h0,Nat.le_refl _⟩,by simp;lia,fun p hp=>by rw[omg hp];exact h0,fun _ h=>h⟩ fun n zs hI=>?_;obtain⟨s2,x,y,gone,todo,vs,rfl,h2,g,e,hT,hW⟩:=hI;have hgl:=zca g.nd g.su;refine⟨!todo.isEmpty,by show some (T.bl (!(todo.map enc).isEmpty))=_;rw[List.isEmpty_map],fun q=>?_,fun q=>?_⟩
 .rcases List.eq_nil_or_concat todo with rfl|⟨t1,p,rfl⟩
  .cases q
  rw[List.concat_eq_append]at *;have hle:=g.le;rw[zxy,zyu]at e hle;obtain⟨ks,us,e1,e2,e3⟩:=Dl.get P hs (p:=p) (hn p (hT p (by simp)));refine w_nz ?_;refine zps (ts:=t1.map enc) (t:=enc p) (zx2 (fun l=>some (Sl.own l)) zx7) (by decide) ?_;refine zbd (js:=[2]) [3,6,7] (enc:=enc) (ybl k rs p) (fun D zs=>∃(z:Sl)(go to:List α)(vs:List T),zs=[z,.dic (go.map enc) vs,.own (to.map enc)]/\Gst U go to/\go.length+t1.length=gone.length+to.length/\(∀q∈to,q∈U)/\vis D gone t1=(go,to)) [x,.dic (gone.map enc) vs,.own (t1.map enc)] (ts:=[.lst ((ybl k rs p).map enc)]) (yaa (by rw[zwc (ts:=ks) (us:=us) (u:=enc p) (v:=.lst []) (by rw[evE];exact(zx2 Sl.get h2).trans e1) rfl rfl e2,e3]) rfl) (zav _) rfl ⟨_,gone,t1,_,rfl,⟨g.nd,g.su,by lia⟩,rfl,fun q hq=>hT q (List.mem_append_left _ hq),rfl⟩ (fun D l D2 e zs hI=>?_) fun zs hI=>?_
  .obtain⟨z,go,to,vs,rfl,g',e',hT',ev⟩:=hI;have hlU:l∈U:=by
    have:l∈ybl k rs p:=by rw[e];simp
    obtain⟨y,hy,rfl⟩:=omm this;exact(hr y (ub9.mp hy).1).1
   have hgl:=zca g'.nd g'.su;have hle:=g'.le;have hk:yac (go.map enc) (enc l)=true:=P.kd (fun q hq=>hn q (g'.su q hq)) (hn l hlU);refine⟨_,rfl,?_⟩;refine w_nz ?_;refine yay (q:=!(go.any fun x=>decide (x=l))) (zag rfl rfl (by show(if yac (go.map enc) (enc l)=true then _ else none).map _=_;rw[if_pos hk,zgt P];rfl)) (fun q=>?_) fun q=>zaf ⟨_,rfl,_,go,to,_,rfl,g',e',hT',?_⟩
   .have q:(go.any fun x=>decide (x=l))=false:=by simpa using q
    refine zqw (u:=.bl true) (t:=enc l) (s':=.dic ((go++[l]).map enc) (yap (go.map enc) vs (enc l) (.bl true))) rfl rfl (by show(if _ then _ else none)=_;rw[if_pos ⟨hk,by rw[zxt];lia⟩,ze4 P,pk,q];rfl) ?_;refine zfh (t:=enc l) rfl rfl (by rw[zxt];lia) ?_;refine zaf (zaf ⟨_,rfl,_,go++[l],to++[l],_,by rw[zx7 (l₁:=to)],⟨?_,fun p hp=>?_,?_⟩,?_,fun p hp=>?_,?_⟩)
    .rw[List.nodup_append];exact⟨g'.nd,by simp,fun a ha b hb e=>List.any_eq_false.mp q a ha (decide_eq_true (e.trans (omg hb)))⟩
    .rcases oma hp with hp|hp
     .exact g'.su p hp
     .rw[omg hp];exact hlU
    .simp;lia
    .simp;lia
    .rcases oma hp with hp|hp
     .exact hT' p hp
     .rw[omg hp];exact hlU
    .rw[zdz,ev,zdy,if_neg (by rw[q];decide)]
   .rw[zdz,ev,zdy,if_pos (by simpa using q)]
  .obtain⟨z,go,to,vs,rfl,g',e',hT',ev⟩:=hI;have:=zca g'.nd g'.su;exact zaf ⟨n-1,_,rfl,by lia,s2.frz,_,_,go,to,_,rfl,by rw[frz2,h2],g',by lia,hT',fun r hr=>hW r (.step rfl (by rw[ev];exact hr))⟩
 .have q:todo=[]:=by simpa using q
  exact zah rfl ⟨gone,vs,rfl,hW gone (.nil q),g.nd,g.su⟩
end
noncomputable def ybw(w:Str)(gone:List Pl)(x:Rf):Bool:=x.2==w&&((gone.any fun y=>decide (y=x.1.gp))&&!(gone.any fun y=>decide (y=x.1.pl)))
theorem zvv{G:Glo}{w:Str}{gone:List Pl}{vs:List T}{x:Rf}{ρ:Env}{i j l g:Nat}(hn:∀q∈gone,ybi q.2)(h1:ybi x.1.gp.2)(h2:ybi x.1.pl.2)(hj:(ρ[j]?).join=some (Rl.ref x.1.lc x.1.g x.2).t)(hi:(ρ[i]?).join=some (plT x.1.pl))(hl:(ρ[l]?).join=some (plT x.1.gp))(hg:(ρ[g]?).join=some (.dic (gone.map plT) vs)):evE G (.land (.cmp .eq (.idx (.var j) (.cst (.int 3))) (.cst (.str w))) (.land (.cmp .isin (.var l) (.var g)) (.cmp .notin (.var i) (.var g)))) ρ=some (.bl (ybw w gone x)):=by
 have v:∀{k:Nat}{t:T},(ρ[k]?).join=some t->evE G (.var k) ρ=some t:=fun h=>by rw[evE];exact h
 refine zaq (zag (zae (v hj) rfl (rf3 _ _ _)) rfl (sw rfl)) fun _=>zaq (zag (v hl) (v hg) ?_) fun _=>zag (v hi) (v hg) ?_
 .show(if yac (gone.map plT) (plT x.1.gp)=true then _ else none).map _=_;rw[if_pos (zor hn h1),zgt zd4];rfl
 .show(if yac (gone.map plT) (plT x.1.pl)=true then _ else none).map _=_;rw[if_pos (zor hn h2),zgt zd4];rfl
section
variable {G:Glo}{rs:List Rf}{U:List Pl}(hn:∀q∈U,ybi q.2)(hr:∀x∈rs,x.1.pl∈U/\ybi x.1.gp.2)
include hn hr
theorem zsw{X0 X1:T}{b:Tb}{R:List Row}{k:List Kt}(hro:(R.any fun ps=>decide (yai b ps=k))=false/\G.call "row_of" [X0,X1,.str b.nm,tkT k]=none/\G.exc "row_of" [X0,X1,.str b.nm,tkT k]=e0 "NoRow"\/∃ps∈R,yai b ps=k/\G.call "row_of" [X0,X1,.str b.nm,tkT k]=some (yag ps))(ct:G.call "table_of" [X0,.str b.nm]=some b.t)(ck:∀ps∈R,G.call "key_of" [b.t,yag ps]=some (kyT b ps))(ca:(b.nm,k)∈U->∃gone vs,G.call "along_with" [.lst (rs.map Rf.t),plT (b.nm,k)]=some (.dic (gone.map plT) vs)/\Wk (ybl rkR rs) [(b.nm,k)] [(b.nm,k)] gone/\gone.Nodup/\∀q∈gone,q∈U)(hU:(R.any fun ps=>decide (yai b ps=k))=true->(b.nm,k)∈U):W G zcx.body (st0 [X0,X1,.lst (rs.map Rf.t),.str b.nm,tkT k] 5) fun o=>((R.any fun ps=>decide (yai b ps=k))=false/\o=.rs "NoRow" 0)\/(R.any fun ps=>decide (yai b ps=k))=true/\∃gone vs,(Wk (ybl rkR rs) [(b.nm,k)] [(b.nm,k)] gone/\gone.Nodup/\∀q∈gone,q∈U)/\(rs.any (ybw "stop" gone)=true/\o=.rs "Held" 0\/rs.any (ybw "stop" gone)=false/\o=.rt (.dic (gone.map plT) vs)):=by
 rcases hro with⟨h1,h2,h3⟩|⟨ps,h1,rfl,h2⟩
 .exact zkb rfl h2 h3 (.inl ⟨h1,rfl⟩)
 have ht:(R.any fun qs=>decide (yai b qs=yai b ps))=true:=List.any_eq_true.mpr ⟨ps,h1,zx8 rfl⟩;obtain⟨gone,vs,e,hw,nd,su⟩:=ca (hU ht);refine zpu rfl h2 ?_;refine zad (zab e (yaa rfl (yaa (zau (yaa rfl (yaa (zab (ck ps h1) (yaa (zab ct rfl) rfl)) rfl))) rfl))) ?_;refine ztr [7,8,9] (enc:=Rf.t) rs (fun D zs=>∃a b c:Sl,zs=[a,b,c]/\D.any (ybw "stop" gone)=false) [.no,.no,.no] rfl (zav _) rfl ⟨_,_,_,rfl,rfl⟩ (fun D x D2 e zs hI=>?_) fun zs hI=>?_
 .obtain⟨a,b,c,rfl,hD⟩:=hI;have hx:=hr x (by rw[e];simp);refine⟨_,rfl,?_⟩;refine w_nz ?_;exact yay (zvv (fun q hq=>hn q (su q hq)) hx.2 (hn _ hx.1) rfl rfl rfl rfl) (fun q=>zpt rfl rfl (.inl ⟨_,_,rfl,.inr ⟨ht,gone,vs,⟨hw,nd,su⟩,.inl ⟨by rw[e];simp[q],rfl⟩⟩⟩)) fun q=>zaf (.inr ⟨_,rfl,_,_,_,rfl,by rw[List.any_append,hD];simp[q]⟩)
 .obtain⟨a,b,c,rfl,hD⟩:=hI;exact zah rfl (.inr ⟨ht,gone,vs,⟨hw,nd,su⟩,.inr ⟨hD,rfl⟩⟩)
end
theorem zm3:∀(cs:List Str){p:List T×List T},p.1.all isS=true->p.1.length+cs.length<SZ->∃d,ybh (cs.map .str) p=some d/\d.1.all isS=true/\d.1.length<=p.1.length+cs.length
 |[],p,h,_=>⟨p,rfl,h,zx3 _⟩
 |c::cs,p,h,hl=>by
  rw[zya]at hl;have h1:(yad p.1 (.str c)).all isS=true/\(yad p.1 (.str c)).length<=p.1.length+1:=by
   unfold yad;split
   .exact⟨h,Nat.le_succ _⟩
   .rw[List.all_append,h];exact⟨rfl,by simp⟩
  obtain⟨d,e,h2,h3⟩:=zm3 cs (p:=(yad p.1 (.str c),yap p.1 p.2 (.str c) .non)) h1.1 (by have:=h1.2;dsimp only;lia);refine⟨d,?_,h2,by have:=h1.2;simp at h3 ⊢;lia⟩;rw[zxz,ybh,if_pos ⟨by unfold yac;rw[h];rfl,by lia⟩];exact e
theorem zkq{β:Type}{t:T}{v w:β}:∀{ks:List T}{V:List β},w∈yap ks V t v->w∈V\/w=v
 |[],_,h=>.inr (omg h)
 |_::_,[],h=>.inr (omg h)
 |k::ks,x::V,h=>by
  rw[yap]at h;split at h
  .rcases omc h with h|h
   .exact .inr h
   .exact .inl (.tail _ h)
  .rcases omc h with rfl|h
   .exact .inl (.head _)
   .rcases zkq h with h|h
    .exact .inl (.tail _ h)
    .exact .inr h
theorem zin{β:Type}{t:T}{v:β}:∀{ks:List T}{V:List β},yae ks V t=some v->v∈V
 |[],_,h=>by cases h
 |_::_,[],h=>by cases h
 |k::ks,x::V,h=>by
  rw[yae]at h;split at h
  .cases h;exact .head _
  .exact .tail _ (zin h)
structure Dp(s:Sl)(n:Nat)(K:List Pl):Prop where
 ex:∃V:List (List T×List T),(s=.dd (K.map plT) V\/s=.dic [] []/\K=[])/\K.length=V.length/\∀d∈V,d.1.all isS=true/\d.1.length<=4*n
 nd:K.Nodup
 le:K.length<=n
theorem zv1{G:Glo}{rs:List Rf}{U gone:List Pl}{vs:List T}(hn:∀q∈U,ybi q.2)(hr:∀x∈rs,x.1.pl∈U/\ybi x.1.gp.2/\x.1.lc.length<=4)(hg:∀q∈gone,ybi q.2)(hl:rs.length<1000):W G zer.body (st0 [.lst (rs.map Rf.t),.dic (gone.map plT) vs] 6) fun o=>
  ∃ds,o=.rt (.dic ((((rs.filter (ybw "gap" gone)).map (·.1.pl)).foldl pk []).map plT) ds):=by
 have hsz:=zar;refine zka ?_;refine zbd [2,3,4,5,6,7] (enc:=Rf.t) rs (fun D zs=>∃(s a b c d e:Sl),zs=[s,a,b,c,d,e]/\Dp s D.length (((D.filter (ybw "gap" gone)).map (·.1.pl)).foldl pk [])/\∀q∈((D.filter (ybw "gap" gone)).map (·.1.pl)).foldl pk [],q∈U) [.dic [] [],.no,.no,.no,.no,.no] rfl (zav _) rfl ⟨_,_,_,_,_,_,rfl,⟨⟨[],.inr ⟨rfl,rfl⟩,rfl,fun _ h=>absurd h (by simp)⟩,ud1,Nat.le_refl _⟩,fun _ h=>absurd h (by simp)⟩ (fun D x D2 e zs hI=>?_) fun zs hI=>?_
 .obtain⟨s,a,b,c,d,f,rfl,hs,hK⟩:=hI;obtain⟨hx,hx2,hx4⟩:=hr x (by rw[e];simp);have hD:D.length<1000:=by rw[e,zxy]at hl;lia
  refine⟨_,rfl,?_⟩;refine w_nz ?_;have eK:((D++[x]).filter (ybw "gap" gone)).map (·.1.pl)=(D.filter (ybw "gap" gone)).map (·.1.pl)++if ybw "gap" gone x=true then[x.1.pl]else[]:=by rw[List.filter_append,zx7,ub0];split<;>rfl
  rw[eK,List.foldl_append];generalize((D.filter (ybw "gap" gone)).map (·.1.pl)).foldl pk []=K at *;obtain⟨⟨V,h1,h2,h3⟩,h4,h5⟩:=hs;refine yay (zvv hg hx2 (hn _ hx) rfl rfl rfl rfl) (fun q=>?_) fun q=>zaf ⟨_,rfl,s,_,_,_,_,_,rfl,?_⟩
  .rw[q];have hd:ddS (some s)=some (K.map plT,V):=by
    rcases h1 with rfl|⟨rfl,rfl⟩
    .rfl
    .cases V with
     |nil=>rfl
     |cons _ _=>cases h2
   have hp:((yae (K.map plT) V (plT x.1.pl)).getD ([],[])).1.all isS=true/\((yae (K.map plT) V (plT x.1.pl)).getD ([],[])).1.length<=4*D.length:=by
    cases hlk:yae (K.map plT) V (plT x.1.pl)with
    |none=>exact⟨rfl,zyg _⟩
    |some w=>exact h3 w (zin hlk)
   obtain⟨w,e1,e2,e3⟩:=zm3 x.1.lc hp.1 (by have:=hp.2;lia);refine zqz (s:=s) (t:=plT x.1.pl) rfl (zae rfl rfl (rf1 _ _ _)) (zaj _) rfl hd ⟨zor (fun q hq=>hn q (hK q hq)) (hn _ hx),by rw[zxt];lia,by decide,by decide,by decide⟩ e1 ?_;refine zaf (zaf ⟨_,rfl,_,_,_,_,_,_,rfl,⟨⟨yap (K.map plT) V (plT x.1.pl) w,.inl (by rw[ze4 zd4];rfl),zg8 zd4 _ w K V h2,fun d hd=>?_⟩,zup h4,?_⟩,fun q hq=>?_⟩)
   .have:=hp.2;rcases zkq hd with hd|rfl
    .have:=h3 d hd;exact⟨this.1,by rw[zxy,zyu];lia⟩
    .exact⟨e2,by rw[zxy,zyu];lia⟩
   .have:=zp0 K x.1.pl;rw[zxy,zyu];exact zyc this (by lia)
   .rcases zk8 hq with hq|rfl
    .exact hK q hq
    .exact hx
  .rw[q];exact⟨⟨⟨V,h1,h2,fun d hd=>⟨(h3 d hd).1,by have:=(h3 d hd).2;rw[zxy];lia⟩⟩,h4,by rw[zxy];exact Nat.le_add_right_of_le h5⟩,hK⟩
 .obtain⟨s,a,b,c,d,f,rfl,⟨⟨V,h1,h2,h3⟩,_⟩,_⟩:=hI;rcases h1 with rfl|⟨rfl,h1⟩
  .exact zah rfl ⟨_,rfl⟩
  .exact zah rfl ⟨[],by rw[h1];rfl⟩
theorem ztn{α:Type}(p:α->Bool):∀l:List α,l.any p=!(l.filter p).isEmpty
 |[]=>rfl
 |a::l=>by rw[ub7,ub0,ztn p l];cases p a<;>rfl
theorem zvw(gone:List Pl)(l:Lk):hit gone l=if ybe (wK l.lc l.ps)=true then false else(gone.any fun y=>decide (y=l.gp))&&!(gone.any fun y=>decide (y=l.pl)):=by
 unfold hit;rw[zvx];cases ybe (wK l.lc l.ps)with
 |true=>simp
 |false=>simp[eq_comm]
theorem ziw(Z:List Zt)(w:Str)(gone:List Pl):((rfs Z).filter (ybw w gone)).map (·.1)=(lks w Z).filter (hit gone):=zkz Z w _ _ (zvw gone)
theorem zix(Z:List Zt)(w:Str)(gone:List Pl):(rfs Z).any (ybw w gone)=(lks w Z).any (hit gone):=by rw[ztn,ztn,<-ziw,List.isEmpty_map]
theorem zqn(Z:List Zt):ybl rkR (rfs Z)=yc4 (lks "along" Z):=funext fun p=>by
 have:=zkz Z "along" (fun l=>decide (l.gp=p)) (fun l=>decide (l.go=some p)) fun l=>by rw[zvx];cases ybe (wK l.lc l.ps)<;>simp
 unfold yc4 ybl;rw[<-this,zyi];rfl
theorem zi9{α:Type}[DecidableEq α]{enc:α->T}{ok:α->Prop}(P:Plc enc ok):∀(L K:List α),(L.foldl pk K).map enc=(L.map enc).foldl yad (K.map enc)
 |[],_=>rfl
 |p::L,K=>by rw[zxz,List.foldl_cons,List.foldl_cons,zi9 P L,ze4 P]
theorem zia{α:Type}[DecidableEq α]:∀(L:List α){K:List α},K.Nodup->(L.foldl pk K).Nodup
 |[],_,h=>h
 |p::L,_,h=>zia L (zup h)
theorem zfo{α:Type}[DecidableEq α]:∀(L:List α){K:List α}{q:α},q∈L.foldl pk K->q∈K\/q∈L
 |[],_,_,h=>.inl h
 |p::L,_,_,h=>by
  rcases zfo L h with h|h
  .rcases zk8 h with h|rfl
   .exact .inl h
   .exact .inr (.head _)
  .exact .inr (.tail _ h)
theorem zsm{p:Pl}(h:ybi p.2):yao 2 (plT p)=true:=by
 show([T.str p.1,tkT p.2].all (yao 1))=true;rw[List.all_cons,List.all_cons];have:yao 1 (tkT p.2)=true:=by
  refine uc1.mpr fun x hx=>?_;obtain⟨k,hk,rfl⟩:=omm hx;rcases k with _|_|_
  .rfl
  .exact absurd rfl (h _ hk)
  .rfl
 rw[this];rfl
section
variable {B:List Tb}{m:Nat}{Z:List Zt}(H:Sch B)(h:Stn B m Z)(hm:m<=15)
include H h hm
theorem zh0{l:List Pl}(nd:l.Nodup)(su:∀p∈l,p∈pls Z):∃ts,ya5 (l.map plT)=some (.lst ts)/\∀t∈ts,yao 2 t=true:=by
 have hl:=zca nd su;have hp:=zfm H h;have hk:∀p∈l,ybi p.2:=fun p q=>zfl H h (su p q);refine⟨_,if_pos (zlp (yea 2) (by decide) (by rw[List.length_map];lia) (List.pairwise_map.mpr (nd.imp fun{a b}n e=>n (by simpa[zo5]using congrArg (fun t=>eqT t (plT b)) e))) (fun x hx=>?_) (fun x hx y hy=>?_) (.inl ⟨1,fun x hx=>?_⟩)),fun t ht=>?_⟩
 .obtain⟨p,q,rfl⟩:=omm hx;exact zsm (hk p q)
 .obtain⟨p,hp,rfl⟩:=omm hx;obtain⟨q,hq,rfl⟩:=omm hy;show ∃b,(if eqT (.str p.1) (.str q.1)=true then(if eqT (tkT p.2) (tkT q.2)=true then yaz [] []else ltD (tkT p.2) (tkT q.2))else ltD (.str p.1) (.str q.1))=some b;split
  .rename_i e;split
   .exact⟨_,rfl⟩
   .obtain⟨z,hz,h1⟩:=ue2.mp (su p hp);obtain⟨y,hz2,h2⟩:=ue2.mp (su q hq);obtain⟨ps,hps,rfl⟩:=omm h1;obtain⟨qs,hqs,rfl⟩:=omm h2;have:z=y:=zls (by rw[h.nms];exact H.nd) hz hz2 (ua2 e);subst this;exact zl2 (H.ok _ (h.mem hz)) ((h.rw z hz).2.1 ps hps) ((h.rw z hz).2.1 qs hqs)
  .exact⟨_,rfl⟩
 .obtain⟨p,q,rfl⟩:=omm hx;exact⟨_,_,rfl,rfl⟩
 .obtain⟨p,q,rfl⟩:=omm ((za0 _).mem_iff.mp ht);exact zsm (hk p q)
def ygb(Z:List Zt)(gone:List Pl)(t:T):Prop:=∃gs ps,ya5 (gone.map plT)=some (.lst gs)/\ya5 (yb8 ((((lks "gap" Z).filter (hit gone)).map Lk.pl).map plT))=some (.lst ps)/\(∀t∈gs,yao 2 t=true)/\(∀t∈ps,yao 2 t=true)/\t=.tup [.tup gs,.tup ps]
theorem zo1{G:Glo}{b:Tb}{R:List Row}{k:List Kt}(cr:G.call "references_of" [yak Z,stT Z]=some (.lst ((rfs Z).map Rf.t))) (cg:(R.any fun ps=>decide (yai b ps=k))=false/\G.call "gone_with" [yak Z,stT Z,.lst ((rfs Z).map Rf.t),.str b.nm,tkT k]=none/\G.exc "gone_with" [yak Z,stT Z,.lst ((rfs Z).map Rf.t),.str b.nm,tkT k]=e0 "NoRow" \/
   (R.any fun ps=>decide (yai b ps=k))=true/\∃gone vs,(Wk (ybl rkR (rfs Z)) [(b.nm,k)] [(b.nm,k)] gone/\gone.Nodup/\∀q∈gone,q∈pls Z)/\((rfs Z).any (ybw "stop" gone)=true/\G.call "gone_with" [yak Z,stT Z,.lst ((rfs Z).map Rf.t),.str b.nm,tkT k]=none/\G.exc "gone_with" [yak Z,stT Z,.lst ((rfs Z).map Rf.t),.str b.nm,tkT k]=e0 "Held"\/(rfs Z).any (ybw "stop" gone)=false/\G.call "gone_with" [yak Z,stT Z,.lst ((rfs Z).map Rf.t),.str b.nm,tkT k]=some (.dic (gone.map plT) vs)))
  (ca:∀gone vs,(∀q∈gone,ybi q.2)->∃ds,G.call "gaps_by" [.lst ((rfs Z).map Rf.t),.dic (gone.map plT) vs]=some (.dic (((((rfs Z).filter (ybw "gap" gone)).map (·.1.pl)).foldl pk []).map plT) ds)):
  W G zhr.body (st0 [yak Z,stT Z,.str b.nm,tkT k] 2) fun o=>((R.any fun ps=>decide (yai b ps=k))=false/\o=.rs "NoRow" 0)\/(R.any fun ps=>decide (yai b ps=k))=true/\∃gone,Gone Z (b.nm,k) gone/\((lks "stop" Z).any (hit gone)=true/\o=.rs "Held" 0\/(lks "stop" Z).any (hit gone)=false/\∃t,ygb Z gone t/\o=.rt t):=by
 refine zad (zab cr rfl) ?_;rcases cg with⟨h1,h2,h3⟩|⟨h1,gone,vs,⟨hw,nd,su⟩,⟨h2,h3,h4⟩|⟨h2,h3⟩⟩
 .exact zkb rfl h2 h3 (.inl ⟨h1,rfl⟩)
 .rw[zqn]at hw;rw[zix]at h2;exact zkb rfl h3 h4 (.inr ⟨h1,gone,⟨hw,nd,su⟩,.inl ⟨h2,rfl⟩⟩)
 .rw[zqn]at hw;rw[zix]at h2;obtain⟨ds,e⟩:=ca gone vs fun q hq=>zfl H h (su q hq);obtain⟨gs,e1,k1⟩:=zh0 H h hm nd su;have eL:((rfs Z).filter (ybw "gap" gone)).map (·.1.pl)=((lks "gap" Z).filter (hit gone)).map Lk.pl:=by rw[<-ziw,zyi];rfl
  rw[eL]at e;obtain⟨ps,e2,k2⟩:=zh0 H h hm (zia (((lks "gap" Z).filter (hit gone)).map Lk.pl) ud1) fun q hq=>by
   rcases zfo _ hq with hq|hq
   .cases hq
   .obtain⟨l,hl,rfl⟩:=omm hq;exact zqb h (ub9.mp hl).1
  refine zpu rfl h3 ?_;exact zah (zau (yaa (za1 (za1 rfl e1) rfl) (yaa (za1 (za1 (zab e rfl) e2) rfl) rfl))) (.inr ⟨h1,gone,⟨hw,nd,su⟩,.inr ⟨h2,_,⟨gs,ps,e1,by rw[<-e2,zi9 zd4];rfl,k1,k2,rfl⟩,rfl⟩⟩)
end
structure Pg(P:Pr):Prop where
 tb:P.fn "table_of"=some zdg
 wo:P.fn "worths_of"=some ya8
 ky:P.fn "key_of"=some zf1
 rw:P.fn "rows_of"=some zem
 ro:P.fn "row_of"=some zf0
 sk:P.fn "is_same_key"=some zb7
 kr:P.fn "key_referred_to"=some za9
 rb:P.fn "references_by"=some zbo
 rf:P.fn "references_of"=some zbn
 aw:P.fn "along_with"=some zbe
 gw:P.fn "gone_with"=some zcx
 gb:P.fn "gaps_by"=some zer
 go:P.fn "going"=some zhr
section
variable {P:Pr}(g:Pg P){B:List Tb}(H:Sch B){Z:List Zt}(h:Stn B m Z)
include g H h
theorem ze7(n:Nat):Pc (glo P (n+1)) B Z where
 tb b hb:=ybr g.tb (zq1 H h hb)
 rw z hz:=ybr g.rw (zua H h hz)
 wo b hb ps hp qa hc h4:=zje g.wo n (H.ok b hb) hp hc h4
theorem zhh(n:Nat)(hb:b∈B)(hp:RowOk b ps):run P (n+2) "key_of" [b.t,yag ps]=some (kyT b ps):=ybr g.ky (zxk (ze7 g H h n) hb (H.ok b hb) hp)
theorem zn5(n:Nat)(hm:m<=60):run P (n+4) "references_of" [yak Z,stT Z]=some (.lst ((rfs Z).map Rf.t)) :=
 ybr g.rf (zuc H h hm (ze7 g H h (n+2)) fun z hz qa g' w hr=>ybr g.rb (zrg H h hm (ze7 g H h (n+1)) (fun b hb ps hp=>zhh g H h n hb hp) (fun b hb qa g' w hr ps hp=>ybr g.kr (zjn (ze7 g H h n) hb hp (zei (H.fit b hb _ hr)) ((H.ok b hb).rs _ hr))) hz hr))
theorem zsy(n:Nat)(hm:m<=15)(hz:(b,R)∈Z)(k:List Kt)(hk:k.length<=1000):((R.any fun ps=>decide (yai b ps=k))=false/\run P (n+5) "going" [yak Z,stT Z,.str b.nm,tkT k]=none/\ybn P (n+5) "going" [yak Z,stT Z,.str b.nm,tkT k]=e0 "NoRow") \/
  (R.any fun ps=>decide (yai b ps=k))=true/\∃gone,Gone Z (b.nm,k) gone/\((lks "stop" Z).any (hit gone)=true/\run P (n+5) "going" [yak Z,stT Z,.str b.nm,tkT k]=none/\ybn P (n+5) "going" [yak Z,stT Z,.str b.nm,tkT k]=e0 "Held"\/(lks "stop" Z).any (hit gone)=false/\∃t,ygb Z gone t/\run P (n+5) "going" [yak Z,stT Z,.str b.nm,tkT k]=some t):=by
 have hb:=h.mem hz;have hU:=zfm H h;have hn:∀q∈pls Z,ybi q.2:=fun q hq=>zfl H h hq;have hL:=zk1 H h;have hr:∀x∈rfs Z,x.1.pl∈pls Z/\ybi x.1.gp.2:=fun x hx=>⟨(zk0 h hx).2.2,(zk0 h hx).2.1⟩;have hro:(R.any fun ps=>decide (yai b ps=k))=false/\run P (n+3) "row_of" [yak Z,stT Z,.str b.nm,tkT k]=none/\ybn P (n+3) "row_of" [yak Z,stT Z,.str b.nm,tkT k]=e0 "NoRow"\/∃ps∈R,yai b ps=k/\run P (n+3) "row_of" [yak Z,stT Z,.str b.nm,tkT k]=some (yag ps):=by
  obtain⟨o,h1,h2,h3⟩:=zj9 g.ro (zrc H h (by lia) (ze7 g H h (n+1)) (fun b hb ps hp=>zhh g H h n hb hp) (fun k k' hk=>ybr g.sk (zt7 k k' hk)) hz k hk);rcases h1 with⟨e,rfl⟩|⟨ps,hps,e,rfl⟩
  .exact .inl ⟨e,h3 _ _ rfl⟩
  .exact .inr ⟨ps,hps,e,h2 _ rfl⟩
 have ha:(b.nm,k)∈pls Z->∃gone vs,run P (n+3) "along_with" [.lst ((rfs Z).map Rf.t),plT (b.nm,k)]=some (.dic (gone.map plT) vs)/\Wk (ybl rkR (rfs Z)) [(b.nm,k)] [(b.nm,k)] gone/\gone.Nodup/\∀q∈gone,q∈pls Z:=fun hp=>by obtain⟨o,⟨gone,vs,e,h1⟩,h2⟩:=zji g.aw (n:=n+2) (znr zd4 rkR hp (by lia) hn hr (by lia));exact⟨gone,vs,h2 _ e,h1⟩
 have ct:=(ze7 g H h (n+2)).tb b hb;have hpl:(R.any fun ps=>decide (yai b ps=k))=true->(b.nm,k)∈pls Z:=fun q=>by obtain⟨ps,hps,e⟩:=List.any_eq_true.mp q;exact ue2.mpr ⟨_,hz,ua0.mpr ⟨ps,hps,by rw[zyk e]⟩⟩
 obtain⟨o,h1,h2,h3⟩:=zj9 g.gw (n:=n+3) (zsw hn hr hro ct (fun ps hp=>zhh g H h (n+1) hb ((h.rw _ hz).2.1 ps hp)) ha hpl);obtain⟨o2,k1,k2,k3⟩:=zj9 g.go (n:=n+4) (zo1 H h hm (R:=R) (zn5 g H h n (by lia)) (by
  rcases h1 with⟨e,rfl⟩|⟨e,gone,vs,h1,⟨h4,rfl⟩|⟨h4,rfl⟩⟩
  .exact .inl ⟨e,h3 _ _ rfl⟩
  .exact .inr ⟨e,gone,vs,h1,.inl ⟨h4,h3 _ _ rfl⟩⟩
  .exact .inr ⟨e,gone,vs,h1,.inr ⟨h4,h2 _ rfl⟩⟩) fun gone vs hg=>w_1 (ts:=[.lst ((rfs Z).map Rf.t),.dic (gone.map plT) vs]) (fun ds=>T.dic (((((rfs Z).filter (ybw "gap" gone)).map fun x:Rf=>x.1.pl).foldl pk []).map plT) ds) g.gb (n:=n+3) (zv1 hn (fun x hx=>⟨(hr x hx).1,(hr x hx).2,by have:=(zk0 h hx).1;exact((H.ok _ this.b).rs _ this.r)⟩) hg (by lia)))
 rcases k1 with⟨e,rfl⟩|⟨e,gone,hg,⟨h4,rfl⟩|⟨h4,t,ht,rfl⟩⟩
 .exact .inl ⟨e,k3 _ _ rfl⟩
 .exact .inr ⟨e,gone,hg,.inl ⟨h4,k3 _ _ rfl⟩⟩
 .exact .inr ⟨e,gone,hg,.inr ⟨h4,t,ht,k2 _ rfl⟩⟩
end
noncomputable def zja:Fd:=⟨2,2,[.ret (.blt .toTuple (.blt .sorted (.call "along_with" [.call "references_between" [.var 0],.var 1])))]⟩
noncomputable def zgw:Fd:=⟨2,2,[.ret (.call "names_that_refer" [.var 0,.var 1,.cst (.str "gap")])]⟩
noncomputable def zfd:Fd:=⟨2,2,[.ret (.call "names_that_refer" [.var 0,.var 1,.cst (.str "stop")])]⟩
noncomputable def zbt:Fd:=⟨3,5,[.asg 3 (.call "references_between" [.var 0]),
  .asg 4 (.call "along_with" [.var 3,.var 1]),
  .ret (.blt .toTuple (.blt .sset (.comp (.var 0) 3 .plain [.var 3] (some (.land (.cmp .eq (.idx (.var 1) (.cst (.int 3))) (.var 5)) (.cmp .isin (.var 2) (.var 7)))))))]⟩
noncomputable def zaz:Fd:=⟨1,3,[.asg 1 (.lst []),
  .loop [2] .plain [.var 0] [.ext 1 (.comp (.tup [.idx (.var 3) (.cst (.int 0)),.var 0,.idx (.var 0) (.cst (.int 2))]) 1 .plain [.idx (.var 2) (.cst (.int 3))] (some (.cmp .eq (.idx (.var 0) (.cst (.int 0))) (.cst (.str "refers")))))],
  .ret (.var 1)]⟩
structure Nf where
 src:Str
 nc:List Str
 aim:Str
 way:Str
noncomputable def Nf.t(x:Nf):T:=.tup [.str x.src,(Rl.ref x.nc x.aim x.way).t,.str x.aim]
noncomputable def rkN:Rk Nf Str:=⟨Nf.src,Nf.aim,Nf.way,fun x=>(Rl.ref x.nc x.aim x.way).t,fun _=>rf3 _ _ _⟩
def nf(b:Tb):Rl->Nf
 |.ref qa g w=>⟨b.nm,qa,g,w⟩
 |_=>⟨b.nm,[],b.nm,b.nm⟩
def nfs(B:List Tb):List Nf:=B.flatMap fun b=>(b.rs.filter yew).map (nf b)
theorem zqa{B:List Tb}{b:Tb}(hb:b∈B)(hr:Rl.ref qa g w∈b.rs):(⟨b.nm,qa,g,w⟩:Nf)∈nfs B:=ue2.mpr ⟨b,hb,ua0.mpr ⟨_,ub9.mpr ⟨hr,rfl⟩,rfl⟩⟩
theorem zlu{B:List Tb}{y:Nf}(h:y∈nfs B):y.src∈B.map (·.nm):=by obtain⟨b,hb,h⟩:=ue2.mp h;obtain⟨r,_,rfl⟩:=omm h;exact ua0.mpr ⟨b,hb,by cases r<;>rfl⟩
theorem zhb{B:List Tb}(H:Sch B):(nfs B).length<=16 :=
 zyc (zeh (k:=4) fun b hb=>by rw[zxt];exact zyc (ud6 _ _) (H.ok b hb).rl) (Nat.mul_le_mul_right 4 H.l4)
theorem znp{G:Glo}{B:List Tb}(H:Sch B):W G zaz.body (st0 [.tup (B.map Tb.t)] 2) fun o=>o=.rt (.lst ((nfs B).map Nf.t)):=by
 have hsz:=zar;have hL:=zhb H;refine zad (t:=.lst []) rfl ?_;refine zbd [1,2] (enc:=Tb.t) B (fun D zs=>∃(L:List T)(a:Sl),zs=[.own L,a]/\L=(nfs D).map Nf.t) [.own [],.no] rfl (zaj _) rfl ⟨_,_,rfl,rfl⟩ (fun D b D2 e zs hI=>?_) fun zs hI=>?_
 .obtain⟨_,a,rfl,rfl⟩:=hI;have hb:b∈B:=by rw[e];simp
  refine⟨_,rfl,?_⟩;refine w_nz ?_;have h4:=(H.ok b hb).rl;refine zts (us:=((b.rs.filter yew).map (nf b)).map Nf.t) ((zba (enc:=Rl.t) (R:=b.rs) yew (fun r=>(nf b r).t) (yaa (zae rfl rfl (t3 _)) rfl) (zaw (by rw[zxt];lia)) fun r _=>?_).trans (by rw[zyi];rfl)) rfl ?_ ?_
  .obtain⟨w0,i0,hw⟩:=r0 r;exact⟨_,rfl,zag (zae rfl rfl i0) rfl (sw hw),fun q=>by
    cases r with
    |ref qa g w=>exact zau (yaa (zae rfl rfl (t0 _)) (yaa rfl (yaa (zae rfl rfl (rf2 _ _ _)) rfl)))
    |_=>cases q⟩
  .rw[e,nfs,List.flatMap_append,ua6]at hL;rw[zxt,zxt,nfs];simp only[List.length_append]at hL;lia
  .exact zaf ⟨_,rfl,_,_,rfl,by simp[nfs]⟩
 .obtain⟨_,a,rfl,rfl⟩:=hI;exact zah rfl rfl
theorem ze0{α:Type}{f:α->T}{l:List α}(h:ya5 (l.map f)=some (.lst ts)):∃k:List α,ts=k.map f/\k.Perm l:=by
 unfold ya5 at h;split at h
 .cases h;exact zbr (za0 _) rfl
 .cases h
theorem zgd{l:List Str}(nd:l.Nodup)(hl:l.length<=60):∃k:List Str,ya5 (l.map T.str)=some (.lst (k.map T.str))/\k.Perm l:=by
 have ok:OkN (l.map T.str):=zlp (yea 0) (by decide) (by rw[zxt];exact hl) (List.pairwise_map.mpr (nd.imp fun{a b}n e=>n (by cases e;rfl))) (fun x hx=>by obtain⟨_,_,rfl⟩:=omm hx;rfl)
  (fun x hx y hy=>by obtain⟨_,_,rfl⟩:=omm hx;obtain⟨_,_,rfl⟩:=omm hy;exact⟨_,rfl⟩) (.inr fun x hx=>by obtain⟨_,_,rfl⟩:=omm hx;rfl)
 obtain⟨k,e,pm⟩:=zbr (f:=T.str) (za0 (l.map T.str)) rfl;exact⟨k,by unfold ya5;rw[if_pos ok,e],pm⟩
theorem zpz{α:Type}[DecidableEq α]:∀(L:List α){K:List α}{q:α},q∈K\/q∈L->q∈L.foldl pk K
 |[],_,_,h=>h.elim id fun h=>nomatch h
 |p::L,K,q,h=>zpz L (by
  have:q∈K\/q=p->q∈pk K p:=fun h=>by
   unfold pk;split
   .rename_i e;obtain⟨x,hx,e⟩:=List.any_eq_true.mp e;exact h.elim id fun h=>by rw[h,<-zyk e];exact hx
   .simpa using h
  rcases h with h|h
  .exact .inl (this (.inl h))
  .exact(omc h).elim (fun h=>.inl (this (.inr h))) .inr)
theorem zvs(s:Str)(ks:List Str):yaw .notin (.str s) (.tup (ks.map .str))=some (.bl (!(ks.any fun x=>decide (x=s)))):=by show(if dpI (.str s) (ks.map .str)=true then some ((ks.map T.str).any fun z=>eqT z (.str s))else none).map _=_;rw[if_pos (by unfold dpI;rw[List.all_map];exact uc1.mpr fun _ _=>rfl),List.any_map];refine zx2 (fun b=>some (T.bl (!b))) (zx2 (List.any ks) (funext fun x=>zd3.eq x s))
section
structure Gn(B:List Tb)(x:Str)(gn:List Str):Prop where
 hd:x∈gn
 up:∀y∈nfs B,y.way="along"->y.aim∈gn->y.src∈gn
variable {B:List Tb}(H:Sch B){b:Tb}(hb:b∈B)
include H hb
theorem ye2{P:Pr}(ha:P.fn "along_with"=some zbe):∃gn:List Str,(∀n,∃vs,run P (n+1) "along_with" [.lst ((nfs B).map Nf.t),.str b.nm]=some (.dic (gn.map .str) vs))/\Gn B b.nm gn/\gn.Nodup/\gn.length<=4:=by
 have hL:=zhb H;have h4:=H.l4;have al:∀n,∃(gn:List Str)(vs:List T),run P (n+1) "along_with" [.lst ((nfs B).map Nf.t),.str b.nm]=some (.dic (gn.map .str) vs)/\Wk (ybl rkN (nfs B)) [b.nm] [b.nm] gn/\gn.Nodup/\∀q∈gn,q∈B.map (·.nm):=fun n=>by obtain⟨o,⟨gn,vs,e,h1⟩,h2⟩:=zji ha (n:=n) (znr zd3 rkN (rs:=nfs B) (U:=B.map (·.nm)) (p0:=b.nm) (ua0.mpr ⟨b,hb,rfl⟩) (by rw[zxt];lia) (fun _ _=>trivial) (fun y hy=>⟨zlu hy,trivial⟩) (by lia));exact⟨gn,vs,h2 _ e,h1⟩
 obtain⟨gn,_,_,h1,nd,su⟩:=al 0;refine⟨gn,fun n=>?_,⟨h1.up _ (by simp),fun y hy hw ha=>?_⟩,nd,by have:=zca nd su;rw[List.length_map]at this;lia⟩
 .obtain⟨gn',vs,e,h2,_⟩:=al n;rw[h1.det h2];exact⟨vs,e⟩
 .exact h1.shut (fun x hx=>.inl hx) _ ha _ (ua0.mpr ⟨y,ub9.mpr ⟨hy,by show((y.way==("along":Str))&&decide (y.aim=y.aim))=true;rw[hw];simp⟩,rfl⟩)
end
structure Pn(P:Pr):Prop where
 aw:P.fn "along_with"=some zbe
 rb:P.fn "references_between"=some zaz
 nr:P.fn "names_that_refer"=some zbt
 mg:P.fn "may_go"=some zja
 mp:P.fn "may_gap"=some zgw
 mh:P.fn "may_hold"=some zfd
structure May(G:Glo)(B:List Tb)(X x:T)(gn:List Str):Prop where
 go:∃ks:List Str,G.call "may_go" [X,x]=some (.tup (ks.map .str))/\∀s∈gn,s∈ks
 ga:∃ks:List Str,G.call "may_gap" [X,x]=some (.tup (ks.map .str))/\∀y∈nfs B,y.way="gap"->y.aim∈gn->y.src∈ks
 ho:∃ks:List Str,G.call "may_hold" [X,x]=some (.tup (ks.map .str))/\∀y∈nfs B,y.way="stop"->y.aim∈gn->y.src∈ks
theorem zsc{P:Pr}{B:List Tb}(p:Pn P)(H:Sch B){b:Tb}(hb:b∈B)(n:Nat):∃gn,Gn B b.nm gn/\May (glo P (n+4)) B (.tup (B.map Tb.t)) (.str b.nm) gn:=by
 have hsz:=zar;have hL:=zhb H;have h4:=H.l4;obtain⟨gn,ea,hg,nd,l4⟩:=ye2 H hb p.aw;obtain⟨vs,ea1⟩:=ea (n+1);obtain⟨vs2,ea2⟩:=ea (n+2);have eb:∀n,run P (n+1) "references_between" [.tup (B.map Tb.t)]=some (.lst ((nfs B).map Nf.t)):=fun n=>ybr p.rb (znp H);have nr:∀way:Str,∃ks:List Str,run P (n+3) "names_that_refer" [.tup (B.map Tb.t),.str b.nm,.str way]=some (.tup (ks.map .str))/\∀y∈nfs B,y.way=way->y.aim∈gn->y.src∈ks:=fun way=>by
  have su:∀q∈(((nfs B).filter fun y=>y.way==way&&(gn.any fun x=>decide (x=y.aim))).map Nf.src).foldl pk [],q∈B.map (·.nm):=fun q hq=>(zfo _ hq).elim (fun h=>nomatch h) fun h=>by obtain⟨y,hy,rfl⟩:=omm h;exact zlu (ub9.mp hy).1
  have nd2:=zia (((nfs B).filter fun y=>y.way==way&&(gn.any fun x=>decide (x=y.aim))).map Nf.src) ud1;have l4:=zca nd2 su;rw[zxt]at l4;obtain⟨ks,e,pm⟩:=zgd nd2 (by lia);refine⟨ks,ybr p.nr ?_,fun y hy hw ha=>pm.mem_iff.mpr (zpz _ (.inr (ua0.mpr ⟨y,ub9.mpr ⟨hy,by rw[hw,List.any_eq_true.mpr ⟨_,ha,decide_eq_true rfl⟩];simp⟩,rfl⟩)))⟩;refine zad (zab (eb (n+1)) rfl) ?_;refine zad (js:=[3]) (zab ea1 rfl) ?_;refine zah (za1 (za1 (zba (enc:=Nf.t) (R:=nfs B) (fun y=>y.way==way&&(gn.any fun x=>decide (x=y.aim))) (fun y=>.str y.src) rfl (zec (by rw[zxt];lia)) fun y _=>⟨_,rfl,zaq (zag (zae rfl rfl (rf3 _ _ _)) rfl (sw rfl)) fun _=>zag rfl rfl (by show(if yac (gn.map T.str) (.str y.aim)=true then _ else none).map _=_;rw[if_pos (zd3.kd (fun _ _=>trivial) trivial),zgt zd3];rfl),fun _=>rfl⟩) (t:=.lst (ks.map .str)) ?_) rfl) rfl;have ed:yb8 (((nfs B).filter fun y=>y.way==way&&(gn.any fun x=>decide (x=y.aim))).map fun y=>T.str y.src)=((((nfs B).filter fun y=>y.way==way&&(gn.any fun x=>decide (x=y.aim))).map Nf.src).foldl pk []).map T.str:=by rw[zi9 zd3,zyi];rfl
  show(if _ then _ else none)=_;refine(if_pos ⟨?_,?_,?_⟩).trans (by rw[ed];exact e)
  .rw[zxt];have:=ud6 (fun y:Nf=>y.way==way&&(gn.any fun x=>decide (x=y.aim))) (nfs B);lia
  .rw[List.all_map];exact uc1.mpr fun _ _=>rfl
  .rw[ed,zxt];lia
 have up:∀{f:Str}{D:Fd}{way:Str},P.fn f=some D->D=⟨2,2,[.ret (.call "names_that_refer" [.var 0,.var 1,.cst (.str way)])]⟩->∃ks:List Str,run P (n+4) f [.tup (B.map Tb.t),.str b.nm]=some (.tup (ks.map .str))/\∀y∈nfs B,y.way=way->y.aim∈gn->y.src∈ks:=fun{f D way}hf hD=>by subst hD;obtain⟨ks,e,h⟩:=nr way;exact⟨ks,ybr hf (zah (zab e rfl) rfl),h⟩
 refine⟨gn,hg,?_,up p.mp rfl,up p.mh rfl⟩;obtain⟨ks,e,pm⟩:=zgd nd (by lia);exact⟨ks,ybr p.mg (zah (za1 (za1 (zab ea2 (yaa (zab (eb _) rfl) rfl)) e) rfl) rfl),fun s hs=>pm.mem_iff.mpr hs⟩
section
variable {f:Str}{gn ks:List Str}
noncomputable def zck:Fd:=⟨1,14,[.asg 12 (.call "_law_schema" [.call "_law_mixed" [.var 0,.cst (.int 0)]]),
  .asg 13 (.call "_law_store" [.var 12,.call "_law_mixed" [.var 0,.cst (.int 1)],.bin .mod (.call "_law_mixed" [.var 0,.cst (.int 2)]) (.cst (.int 14))]),
  .loop [1,2] .zip [.var 12,.var 13] [.asg 11 (.idx (.var 1) (.cst (.int 0))),
  .asg 3 (.cst (.bl false)),
  .loop [4] .plain [.var 12] [.asg 5 (.comp (.var 0) 1 .plain [.idx (.var 4) (.cst (.int 3))] (some (.land (.cmp .eq (.idx (.var 0) (.cst (.int 0))) (.cst (.str "refers"))) (.cmp .eq (.idx (.var 0) (.cst (.int 2))) (.var 12))))),
  .asg 3 (.lor (.var 3) (.cmp .ne (.var 5) (.lst [])))],
  .loop [6] .plain [.var 2] [.asg 10 (.call "_law_key" [.var 1,.var 6]),
  .asg 7 (.told "going" [.var 12,.var 13,.var 11,.var 10]),
  .ite (.cmp .eq (.idx (.var 7) (.cst (.int 0))) (.cst (.str "refused"))) [.ite (.lor (.cmp .ne (.var 7) (.tup [.cst (.str "refused"),.cst (.int 5),.cst (.int 0)])) (.cmp .eq (.call "may_hold" [.var 12,.var 11]) (.tup []))) [.ret (.cst (.bl false))] []] [.asgs [8,9] (.idx (.var 7) (.cst (.int 1))),
  .ite (.cmp .ne (.comp (.var 0) 1 .plain [.var 8] (some (.cmp .notin (.idx (.var 0) (.cst (.int 0))) (.call "may_go" [.var 13,.var 12])))) (.lst [])) [.ret (.cst (.bl false))] [],
  .ite (.cmp .ne (.comp (.var 0) 1 .plain [.var 9] (some (.cmp .notin (.idx (.var 0) (.cst (.int 0))) (.call "may_gap" [.var 13,.var 12])))) (.lst [])) [.ret (.cst (.bl false))] [],
  .ite (.cmp .notin (.tup [.var 11,.var 10]) (.var 8)) [.ret (.cst (.bl false))] [],
  .ite (.land (.lnot (.tru (.var 3))) (.cmp .ne (.tup [.var 8,.var 9]) (.tup [.tup [.tup [.var 11,.var 10]],.tup []]))) [.ret (.cst (.bl false))] []]]],
  .ret (.cst (.bl true))]⟩
theorem zty{G:Glo}(h:yal G es ρ=some ts)(k:ybf G f ts=some t):evE G (.told f es) ρ=some t:=by rw[evE,h];exact k
theorem zt1{G:Glo}(h:G.call f ts=none)(k:G.exc f ts=e0 x)(e:ydt x yc2 0=some j):ybf G f ts=some (.tup [.str "refused",.int (j:Int),.int 0]):=by unfold ybf;rw[h,k,e0];dsimp only;rw[zxv,e];rfl
theorem zlw{t:T}(h:yao n t=true)(hn:n<=30):yaw .ne t t=some (.bl false):=by show(if dpP t t<=30 then some (T.bl (!eqT t t))else none)=_;rw[if_pos (zyc ((yea n).dp h h) hn),((yea n).eq h h).mpr rfl];rfl
theorem ztu{is:List Nat}{ts:List T}(h:evE G e (fv τ)=some (.tup ts))(k:W G ss τ' Q)(js:List Nat:=[])(h0:autoParam (frzAt (yab e) τ=frzAt js τ) rf_a._auto_1)(h2:autoParam (yat is ts (frzAt js τ)=some τ') rf_a._auto_1):W G (.asgs is e::ss) τ Q :=
 w_s (o:=.nx τ') (by rw[evS,ydl h,zxv,h0];exact zx2 (Option.map Out.nx) h2) k
structure C61(G:Glo)(B:List Tb)(Z:List Zt):Prop where
 K:Cls G B Z
 pg:∀b R,(b,R)∈Z->∀k:List Kt,k.length<=1000->((R.any fun ps=>decide (yai b ps=k))=false/\G.call "going" [yak Z,stT Z,.str b.nm,tkT k]=none/\G.exc "going" [yak Z,stT Z,.str b.nm,tkT k]=e0 "NoRow") \/
  (R.any fun ps=>decide (yai b ps=k))=true/\∃gone,Gone Z (b.nm,k) gone/\((lks "stop" Z).any (hit gone)=true/\G.call "going" [yak Z,stT Z,.str b.nm,tkT k]=none/\G.exc "going" [yak Z,stT Z,.str b.nm,tkT k]=e0 "Held"\/(lks "stop" Z).any (hit gone)=false/\∃t,ygb Z gone t/\G.call "going" [yak Z,stT Z,.str b.nm,tkT k]=some t)
 my:∀b∈B,∃gn,Gn B b.nm gn/\May G B (yak Z) (.str b.nm) gn
theorem zmw{l:Lk}{p:Pl}(e:l.go=some p):l.g=p.1:=by
 unfold Lk.go at e;split at e
 .cases e
 .cases e;rfl
theorem zmq{gone:List Pl}{l:Lk}(ht:hit gone l=true):∃q∈gone,l.g=q.1:=by obtain⟨q,hq,e⟩:=List.any_eq_true.mp (Bool.and_eq_true_iff.mp ht).1;exact⟨q,hq,zmw (zyk e)⟩
section
variable {B:List Tb}{m:Nat}{Z:List Zt}(h:Stn B m Z){b:Tb}{k:List Kt}{gone:List Pl}(hg:Gone Z (b.nm,k) gone)
include h hg
theorem zvt(g:Gn B b.nm gn):∀q∈gone,q.1∈gn :=
 have h0:∀x∈[(b.nm,k)],x.1∈gn:=fun x hx=>by rw[omg hx];exact g.hd
 hg.wk.stay (P:=fun q=>q.1∈gn) (fun p hp q hq=>by obtain⟨l,hl,rfl⟩:=omm hq;obtain⟨hl,e⟩:=ub9.mp hl;have ok:=(zgp h hl).1;exact g.up _ (zqa ok.b ok.r) rfl (by show l.g∈gn;rw[zmw (zyk e)];exact hp)) h0 h0
theorem zqj(g:Gn B b.nm gn){l:Lk}{way:Str}(hl:l∈lks way Z)(ht:hit gone l=true)(hk:∀y∈nfs B,y.way=way->y.aim∈gn->y.src∈ks):l.b.nm∈ks:=by have ok:=(zgp h hl).1;obtain⟨q,hq,e⟩:=zmq ht;exact hk _ (zqa ok.b ok.r) rfl (by show l.g∈gn;rw[e];exact zvt h hg g q hq)
theorem yf8(hn:∀b'∈B,∀qa w,Rl.ref qa b.nm w∉b'.rs):gone=[(b.nm,k)]/\∀way,∀l∈lks way Z,¬hit gone l=true:=by
 have no:∀{way:Str}{l:Lk},l∈lks way Z->l.g≠b.nm:=fun{way l}hl e=>by have ok:=(zgp h hl).1;exact hn _ ok.b _ _ (e▸ok.r)
 have e1:yc4 (lks "along" Z) (b.nm,k)=[]:=List.map_eq_nil_iff.mpr (List.filter_eq_nil_iff.mpr fun l hl e=>no hl (zmw (zyk e)));have e2:gone=[(b.nm,k)]:=hg.wk.det (.step (t1:=[]) rfl (by rw[e1];exact .nil rfl));refine⟨e2,fun way l hl ht=>?_⟩;obtain⟨q,hq,e⟩:=zmq ht;rw[e2]at hq;rw[omg hq]at e;exact no hl e
end
theorem zv8{G:Glo}{B:List Tb}{m:Nat}{Z:List Zt}(H:Sch B)(h:Stn B m Z)(C:C61 G B Z)(hz:(b,R)∈Z)(hp:ps∈R)(hk:(yai b ps).length<=1000):∃u gone,Gone Z (b.nm,yai b ps) gone/\ybf G "going" [yak Z,stT Z,.str b.nm,kyT b ps]=some u /\
  (u=.tup [.str "refused",.int 5,.int 0]/\(lks "stop" Z).any (hit gone)=true\/∃gs qs:List Pl,u=.tup [.str "told",.tup [.tup (gs.map plT),.tup (qs.map plT)]]/\gs.Perm gone/\(∀q∈qs,∃l∈lks "gap" Z,hit gone l=true/\l.pl=q)/\qs.length<=(lks "gap" Z).length):=by
 have ht:(R.any fun qs=>decide (yai b qs=yai b ps))=true:=List.any_eq_true.mpr ⟨ps,hp,zx8 rfl⟩;rcases C.pg b R hz _ hk with⟨q,_⟩|⟨_,gone,hg,⟨s,h2,h3⟩|⟨_,v,⟨gs,qs,e1,e2,_,_,rfl⟩,h2⟩⟩
 .rw[ht]at q;cases q
 .exact⟨_,gone,hg,zt1 h2 h3 (by decide +kernel),.inl ⟨rfl,s⟩⟩
 .obtain⟨gs,rfl,p1⟩:=ze0 e1;rw[show yb8 ((((lks "gap" Z).filter (hit gone)).map Lk.pl).map plT)=((((lks "gap" Z).filter (hit gone)).map Lk.pl).foldl pk []).map plT by rw[zi9 zd4];rfl]at e2;obtain⟨qs,rfl,p2⟩:=ze0 e2;have hm:∀q∈qs,q∈((lks "gap" Z).filter (hit gone)).map Lk.pl:=fun q hq=>(zfo _ (p2.mem_iff.mp hq)).elim (fun h=>nomatch h) id;refine⟨_,gone,hg,by unfold ybf;rw[show G.call "going" [yak Z,stT Z,.str b.nm,kyT b ps]=_ from h2],.inr ⟨gs,qs,rfl,p1,fun q hq=>?_,?_⟩⟩
  .obtain⟨l,hl,e⟩:=omm (hm q hq);obtain⟨hl,ht⟩:=ub9.mp hl;exact⟨l,hl,ht,e⟩
  .have:=zca (p2.nodup_iff.mpr (zia _ ud1)) hm;rw[zxt]at this;exact zyc this (ud6 _ _)
noncomputable def ye5(x:Str):Rl->Bool
 |.ref _ g _=>g==x
 |_=>false
theorem zif{G:Glo}{ρ:Env}{i:Nat}{gs:List Pl}{X x:T}(hi:(ρ[i]?).join=some (.tup (gs.map plT)))(h12:(ρ[12]?).join=some X)(h11:(ρ[11]?).join=some x)(ek:G.call f [X,x]=some (.tup (ks.map .str)))(hl:gs.length<=1000)(hs:∀p∈gs,p.1∈ks):evE G (.cmp .ne (.comp (.var 0) 1 .plain [.var i] (some (.cmp .notin (.idx (.var 0) (.cst (.int 0))) (.call f [.var 13,.var 12])))) (.lst [])) ρ=some (.bl false):=by
 have hsz:=zar;have v:∀{k:Nat}{t:T}{ρ:Env},(ρ[k]?).join=some t->evE G (.var k) ρ=some t:=fun h=>by rw[evE];exact h
 refine zag (zba (enc:=plT) (R:=gs) (fun p=>!(ks.any fun x=>decide (x=p.1))) plT (yaa (v hi) rfl) (zaw (by rw[zxt];lia)) fun p _=>⟨_,rfl,zag (zae rfl rfl rfl) (zab ek (yaa (v h12) (yaa (v h11) rfl))) (zvs _ _),fun _=>rfl⟩) rfl ?_;rw[List.filter_eq_nil_iff.mpr fun p hp e=>?_]
 .rfl
 .rw[List.any_eq_true.mpr ⟨_,hs p hp,zx8 rfl⟩]at e;cases e
theorem zsi{G:Glo}{B:List Tb}{m:Nat}{Z:List Zt}{a1 a2 a0:Int}{X:T}(H:Sch B)(h:Stn B m Z)(hm:m<=15)(C:C61 G B Z)(m0:G.call "_law_mixed" [X,.int 0]=some (.int a0))(m1:G.call "_law_mixed" [X,.int 1]=some (.int a1))(m2:G.call "_law_mixed" [X,.int 2]=some (.int a2))(eS:G.call "_law_schema" [.int a0]=some (yak Z))(eZ:G.call "_law_store" [yak Z,.int a1,.int (a2%14)]=some (stT Z)):W G zck.body (st0 [X] 13) fun o=>o=.rt (.bl true):=by
 have hsz:=zar;refine zad (zab eS (yaa (zab m0 rfl) rfl)) ?_;refine zad (zab eZ (yaa rfl (yaa (zab m1 rfl) (yaa (zak (zab m2 rfl) rfl (zam (by decide))) rfl)))) ?_;refine zcn [1,2,3,4,5,6,7,8,9,10,11] (enc:=fun z:Zt=>T.tup [z.1.t,rwT z]) Z (fun _ zs=>∃a b c d e f g i j k l:Sl,zs=[a,b,c,d,e,f,g,i,j,k,l]) [.no,.no,.no,.no,.no,.no,.no,.no,.no,.no,.no] rfl (zx2 some (zj3 Z)) rfl ⟨_,_,_,_,_,_,_,_,_,_,_,rfl⟩ (fun D z D2 e zs hI=>?_) fun zs hI=>?_
 .obtain⟨a,b',c,d,e',f,g,i,j,k,l,rfl⟩:=hI;obtain⟨b,R⟩:=z;have hz:(b,R)∈Z:=by rw[e];simp
  have hb:=h.mem hz;have hR:=h.rw _ hz;obtain⟨gn,hgn,hmy⟩:=C.my b hb;refine⟨_,rfl,?_⟩;refine w_nz ?_;refine zad (t:=.str b.nm) (zae rfl rfl (t0 _)) ?_;refine zad (t:=.bl false) rfl ?_;refine zbd [3,4,5] (enc:=fun z:Zt=>z.1.t) Z (fun D zs=>∃(q:Bool)(a c:Sl),zs=[.val (.bl q),a,c]/\(q=false->∀z∈D,∀qa w,Rl.ref qa b.nm w∉z.1.rs)) [.val (.bl false),d,e'] rfl (zaj _) rfl ⟨false,_,_,rfl,fun _ z hz=>nomatch hz⟩ (fun D z D2 e zs hI=>?_) fun zs hI=>?_
  .obtain⟨q,a,c,rfl,hq⟩:=hI;have h4:=(H.ok _ (h.mem (show z∈Z by rw[e];simp))).rl;refine⟨_,rfl,?_⟩;refine w_nz ?_;refine zad (t:=.lst ((z.1.rs.filter (ye5 b.nm)).map Rl.t)) (zba (enc:=Rl.t) (R:=z.1.rs) (ye5 b.nm) Rl.t (yaa (zae rfl rfl (t3 _)) rfl) (zaw (by rw[zxt];lia)) fun r _=>?_) ?_
   .obtain⟨w0,i0,hw⟩:=r0 r;refine⟨_,rfl,?_,fun _=>rfl⟩;cases r with
    |ref qa g w=>exact zaq (zag (zae rfl rfl i0) rfl (sw hw)) fun _=>zag (zae rfl rfl (rf2 _ _ _)) rfl (sw rfl)
    |_=>exact zaq (p:=false) (q:=false) (zag (zae rfl rfl i0) rfl (sw hw)) fun h=>by cases h
   .refine zad (js:=[5]) (t:=.bl (q||!((z.1.rs.filter (ye5 b.nm)).map Rl.t).isEmpty)) (zgn rfl fun _=>zag rfl rfl (zfa _)) ?_;refine zaf ⟨_,rfl,_,_,_,rfl,fun hf z' hz' qa w hr=>?_⟩;obtain⟨f1,f2⟩:=Bool.or_eq_false_iff.mp hf;rcases oma hz' with hz'|hz'
    .exact hq f1 z' hz' qa w hr
    .rw[omg hz']at hr;have:Rl.ref qa b.nm w∈z.1.rs.filter (ye5 b.nm):=ub9.mpr ⟨hr,by show(b.nm==b.nm)=true;simp⟩;have e0:z.1.rs.filter (ye5 b.nm)=[]:=by simpa using f2
     rw[e0]at this;cases this
  obtain⟨q,a,c,rfl,hq⟩:=hI;have hq:q=false->∀b'∈B,∀qa w,Rl.ref qa b.nm w∉b'.rs:=fun hf b' hb'=>by obtain⟨R',hz'⟩:=h.of hb';exact hq hf _ hz'
  refine w_nz ?_;refine zcn [6,7,8,9,10] (enc:=yag) R (fun _ zs=>∃a b c d e:Sl,zs=[a,b,c,d,e]) [f,g,i,j,k] rfl (zaj _) rfl ⟨_,_,_,_,_,rfl⟩ (fun D ps D2 e zs hI=>?_) fun zs hI=>?_
  .obtain⟨f,g,i,j,k,rfl⟩:=hI;have hps:ps∈R:=by rw[e];simp
   have hk:(yai b ps).length<=1000:=by have h2:=(H.ok b hb).k1;rw[yai,wK,zxt];lia
   obtain⟨u,gone,hg,hu,h3⟩:=zv8 H h C hz hps hk;have hU:=zfm H h;have hgl:=zca hg.nd hg.su;refine⟨_,rfl,?_⟩;refine w_nz ?_;refine zad (t:=kyT b ps) (zab (C.K.ky b hb ps (hR.2.1 ps hps)) rfl) ?_;refine zad (zty rfl hu) ?_;rcases h3 with⟨rfl,hs⟩|⟨gs,qs,rfl,p1,hqs,hql⟩
   .obtain⟨ks,ek,hks⟩:=hmy.ho;obtain⟨l',hl,ht⟩:=List.any_eq_true.mp hs;have:=zqj h hg hgn hl ht hks;refine zdx (zag (zae rfl rfl rfl) rfl (sw (q:=true) (by decide +kernel))) ?_;refine za4 (zgn (p:=false) (q:=false) (zag rfl (zau (yaa rfl (yaa rfl (yaa rfl rfl)))) (zlw (n:=1) rfl (by decide))) fun _=>zag (zab ek rfl) rfl ?_) (zaf (zaf (.inr ⟨_,rfl,_,_,_,_,_,rfl⟩)));cases ks with
    |nil=>cases this
    |cons _ _=>rfl
   .obtain⟨ks,ek,hks⟩:=hmy.go;obtain⟨kg,ekg,hkg⟩:=hmy.ga;refine zqx (q:=false) (zag (zae rfl rfl rfl) rfl (sw (by decide +kernel))) (fun q=>by cases q) fun _=>?_;refine ztu (zae rfl rfl rfl) ?_;refine w_nz ?_;have hgs:=p1.length_eq;have hl:=zhf H h "gap";refine za4 (zif rfl rfl rfl ek (by lia) fun p hp=>hks _ (zvt h hg hgn p (p1.mem_iff.mp hp))) ?_;refine za4 (zif rfl rfl rfl ekg (by lia) fun p hp=>?_) ?_
    .obtain⟨l',hl',ht,rfl⟩:=hqs p hp;exact zqj h hg hgn hl' ht hkg
    refine za4 (zag (zau (yaa rfl (yaa rfl rfl))) rfl ?_) ?_
    .show(inC (plT (b.nm,yai b ps)) (.lst (gs.map plT))).map _=_;rw[zoy,List.any_eq_true.mpr ⟨_,p1.mem_iff.mpr (hg.wk.up _ (by simp)),decide_eq_true rfl⟩];rfl
    cases q with
    |true=>exact za4 (zaq (p:=false) (q:=false) rfl fun h=>by cases h) (zaf (zaf (.inr ⟨_,rfl,_,_,_,_,_,rfl⟩)))
    |false=>
     obtain⟨a1,a2⟩:=yf8 h hg (hq rfl);have e1:gs=[(b.nm,yai b ps)]:=List.perm_singleton.mp (a1▸p1);have e2:qs=[]:=List.eq_nil_iff_forall_not_mem.mpr fun q hq=>by obtain⟨l',hl',ht,_⟩:=hqs q hq;exact a2 _ l' hl' ht
     subst e1 e2;exact za4 (zaq (p:=true) (q:=false) rfl fun _=>zag (zau (yaa rfl (yaa rfl rfl))) (zau (yaa (zau (yaa (zau (yaa rfl (yaa rfl rfl))) rfl)) (yaa (zau rfl) rfl))) (zlw (n:=4) (by show(((yao 2 (plT (b.nm,yai b ps))&&true)&&(true&&true)))=true;rw[zsm (zch (H.ok b hb) (hR.2.1 ps hps))];rfl) (by decide))) (zaf (zaf (.inr ⟨_,rfl,_,_,_,_,_,rfl⟩)))
  .obtain⟨f,g,i,j,k,rfl⟩:=hI;exact zaf (.inr ⟨_,rfl,_,_,_,_,_,_,_,_,_,_,_,rfl⟩)
 .obtain⟨a,b',c,d,e',f,g,i,j,k,l,rfl⟩:=hI;exact zah rfl rfl
theorem zl7{P:Pr}(hc:P.fn "_law_cell_at"=some zbi)(hm:P.fn "_law_mixed"=some zcu)(ht:P.fn "_law_test"=some zbk)(hp:P.fn "_law_pairs"=some zb5)(hr:P.fn "_law_rule"=some zcm)(hb:P.fn "_law_bare"=some zb0)(hs:P.fn "_law_schema"=some zbu)(p:Mk P)(g:Pg P)(pn:Pn P)(ns:List Int):yav (glo P 20) zck.body (yaj zck [.lst (ns.map .int)])=some (.rt (.bl true)):=by
 have em:∀k:Nat,∃a:Int,(glo P 20).call "_law_mixed" [.lst (ns.map .int),.int (k:Int)]=some (.int a):=fun k=>zly hc hm 18 ns k;obtain⟨a0,e0⟩:=em 0;obtain⟨a1,e1⟩:=em 1;obtain⟨a2,e2⟩:=em 2;obtain⟨B,eS,H⟩:=zjm p.dr ht hp hr hb hs 13 a0;obtain⟨M,hM,hM2⟩:∃M:Nat,a2%14=(M:Int)/\M<=15:=⟨(a2%14).toNat,by lia,by lia⟩;obtain⟨Z,eZ,hZ⟩:=zkj p H 13 a1 M (by lia);rw[<-hM]at eZ;have C:C61 (glo P 20) B Z:={
  K:=zcy p H 18 hZ
  pg:=fun b R hz k hk=>zsy g H hZ 15 hM2 hz k hk
  my:=fun b hb=>by rw[hZ.sch];exact zsc pn H hb 16}
 obtain⟨o,e,rfl⟩:=zsi (X:=.lst (ns.map .int)) H hZ hM2 C e0 e1 e2 (by rw[hZ.sch];exact eS) (by rw[hZ.sch];exact eZ);exact e
end
end Ev.K04
namespace Nb
open PySem Spec PyProof.Rows Ev L2 K04 Ex
abbrev top:=ygc pT
def tab:Tab:=("table_of",zdg,top 12,["schema", "name"])::("worths_of",ya8,top 13,["table", "row", "names"])::("key_of",zf1,top 15,["table", "row"])::("rows_of",zem,top 16,["schema", "store", "name"])::("row_of",zf0,top 17,["schema", "store", "name", "key"])::("is_same_key",zb7,top 18,["key", "thing"])::("key_referred_to",za9,top 19,["table", "rule", "row"])::("references_of",zbn,top 20,["schema", "store"])::("references_by",zbo,top 21,["table", "rule", "rows"])::("going",zhr,top 23,["schema", "store", "name", "key"])::("gone_with",zcx,top 24,["schema", "store", "references", "name", "key"])::("along_with",zbe,top 25,["references", "first"])::("gaps_by",zer,top 26,["references", "gone"])::("may_go",zja,top 28,["schema", "name"])::("may_gap",zgw,top 29,["schema", "name"])::("may_hold",zfd,top 30,["schema", "name"])::("names_that_refer",zbt,top 31,["schema", "name", "way"])::("references_between",zaz,top 32,["schema"])::("_law_cell_at",zbi,top 34,["_law_script", "_law_k"])::("_law_mixed",zcu,top 35,["_law_script", "_law_k"])::("_law_drawn",za8,top 36,["_law_number", "_law_k"])::("_law_names",za7,top 37,["_law_table_here"])::("_law_table",zcs,top 38,["_law_schema_here", "_law_name"])::("_law_key",zeq,top 39,["_law_table_here", "_law_row_here"])::("_law_worths",zci,top 40,["_law_table_here", "_law_row_here", "_law_columns"])::("_law_rows",zdi,top 41,["_law_schema_here", "_law_store_here", "_law_name"])::("_law_test",zbk,top 42,["_law_table_here", "_law_number", "_law_deep"])::("_law_bare",zb0,top 43,["_law_name", "_law_number"])::("_law_pairs",zb5,top 44,["_law_table_here", "_law_kinds"])::("_law_rule",zcm,top 45,["_law_bare_here", "_law_table_here", "_law_number"])::("_law_schema",zbu,top 46,["_law_number"])::("_law_worth",zb4,top 47,["_law_column", "_law_number"])::("_law_row",zen,top 48,["_law_table_here", "_law_number"])::("_law_level",zbp,top 49,["_law_table_here", "_law_test_here", "_law_row_here"])::("_law_broken",zcj,top 50,["_law_schema_here", "_law_store_here", "_law_table_here", "_law_rule_here"])::("_law_links",zcv,top 51,["_law_schema_here", "_law_store_here", "_law_way"])::("_law_going",zcw,top 52,["_law_schema_here", "_law_store_here", "_law_name", "_law_key_here"])::("_law_put",zep,top 53,["_law_schema_here", "_law_store_here", "_law_name", "_law_rows_here"])::("_law_with",zdh,top 54,["_law_table_here", "_law_row_here", "_law_pairs_here"])::("_law_dropped",zb6,top 55,["_law_schema_here", "_law_store_here", "_law_gone", "_law_gaps"])::("_law_raw",zeo,top 56,["_law_schema_here", "_law_store_here", "_law_deed_here"])::("_law_done",zdk,top 57,["_law_schema_here", "_law_store_here", "_law_deed_here"])::("_law_late",zdj,top 58,["_law_schema_here", "_law_store_here"])::("_law_deed",zdl,top 60,["_law_schema_here", "_law_store_here", "_law_number"])::("_law_store",zct,top 61,["_law_schema_here", "_law_number", "_law_many"])::[]
def xnT:List Str:=[("row_of":Str),("gone_with":Str),("going":Str)]
abbrev sL:=top 63
abbrev sT:=top 62
abbrev sI:=clD (top 1)
theorem yfg:(tab.all fun p=>ygd p.2.1 p.2.2.1 p.2.2.2)=true:=by kernel_rfl
theorem yfr:(tab.map fun p=>(rdB ⟨zaa p.2.2.1,zbh (zaa p.2.2.1)⟩ erT xnT (zas p.2.2.1)).map SSE.xs)=tab.map fun p=>some p.2.1.body:=by kernel_rfl
theorem tab_st:∀p∈tab,StH p.1 p.2.1 p.2.2.1 p.2.2.2:=fun p hp=>zt4 (oml yfg p hp)
theorem tab_rd:∀p∈tab,∃S:SSE ⟨zaa p.2.2.1,zbh (zaa p.2.2.1)⟩ erT (zas p.2.2.1),S.xs=p.2.1.body:=fun p hp=>let⟨S,_,e⟩:=oms (List.map_inj_left.mp yfr p hp);⟨S,e⟩
theorem law_st:StH "law" zck sL [("_law_script":Str)]:=zt4 (by kernel_rfl)
theorem yep:(rdB ⟨zaa sL,zbh (zaa sL)⟩ [yar] xnT (zas sL)).map SSE.xs=some zck.body:=by kernel_rfl
theorem law_rd:∃S:SSE ⟨zaa sL,zbh (zaa sL)⟩ [yar] (zas sL),S.xs=zck.body:=let⟨S,_,e⟩:=oms yep;⟨S,e⟩
theorem yev:(zbh (zaa sT)=toldN)/\((zaa sT).kind,(zaa sT).isCoroutine,(zaa sT).isGenerator,(toldN.all fun x=>(zaa sT).names.lookup x==some .local),((("DealError":Str)::toldC)++(["isinstance", "ValueError", "bool"]:List Str)).all (fun x=>(zaa sT).names.lookup x==some .globalImplicit),(zaa sT).names.all fun y=>!(y.2==.free))=(.function,false,false,true,true,true):=⟨by kernel_rfl,by kernel_rfl⟩
theorem told_st:ToldS sT:=by
 obtain⟨c0,c⟩:=yev;have e4:(toldN.all fun x=>(zaa sT).names.lookup x==some .local)=true:=zx2 (fun z=>z.2.2.2.1) c;have e5:((("DealError":Str)::toldC)++(["isinstance", "ValueError", "bool"]:List Str)).all (fun x=>(zaa sT).names.lookup x==some .globalImplicit)=true:=zx2 (fun z=>z.2.2.2.2.1) c;have e6:((zaa sT).names.all fun y=>!(y.2==.free))=true:=zx2 (fun z=>z.2.2.2.2.2) c;have lo:∀x∈toldN,(zaa sT).names.lookup x=some .local:=fun x hx=>by simpa using oml e4 x hx
 exact⟨⟨congrArg (fun z=>z.1) c,congrArg (fun z=>z.2.1) c,congrArg (fun z=>z.2.2.1) c,by decide,rfl,fun y hy=>.inl (lo y (by cases omg hy;decide)),fun y hy=>by simpa using oml e6 y hy⟩,lo,fun x hx=>by simpa using oml e5 x hx,
  fun kV doc pm an cdv ct us hl=>zff (fd:=W.fnOf yar yar (za3 sT) (zas sT) (zaa sT) .none kV doc pm an cdv ct) (as:=[⟨"_law_deed_here",none,⟨375,14,375,28⟩⟩]) (show za3 sT=_ by kernel_rfl) rfl (by decide) hl,_,_,_,_,_,_,_,_,_,_,_,_,_,rfl,znx rfl rfl rfl⟩
theorem yff:za3 sI=⟨[],[⟨"self",none,⟨4,17,4,21⟩⟩,⟨"words",none,⟨4,23,4,28⟩⟩,⟨"at",none,⟨4,33,4,35⟩⟩],none,[],[],none,[.Constant (.str "") 0 ⟨4,29,4,31⟩,.Constant (.int 0) 0 ⟨4,36,4,37⟩]⟩:=by kernel_rfl
theorem ydi:((zaa sI).kind,(zaa sI).isCoroutine,(zaa sI).isGenerator,(zaa sI).names)=(.function,false,false,[(("self":Str),.local),(("words":Str),.local),(("at":Str),.local),(("ValueError":Str),.globalImplicit)]):=by kernel_rfl
theorem ini_st:IniS sI:=by
 have e1:(zaa sI).names=_:=zx2 (fun z=>z.2.2.2) ydi;have v:∀{x:Str}{k:NameKind},List.lookup x [(("self":Str),NameKind.local),(("words":Str),NameKind.local),(("at":Str),NameKind.local),(("ValueError":Str),NameKind.globalImplicit)]=some k->(zaa sI).names.lookup x=some k:=fun h=>by rw[e1];exact h
 refine⟨⟨zx2 (fun z=>z.1) ydi,zx2 (fun z=>z.2.1) ydi,zx2 (fun z=>z.2.2.1) ydi,by decide,rfl,by rw[e1];decide,by rw[e1];decide⟩,v (by decide),v (by decide),v (by decide),v (by decide),⟨_,_,_,_,_,_,_,_,_,_,rfl,fun _=>⟨_,rfl⟩⟩,fun a kV doc pm an cdv ct u1 u2 t1 t2=>?_,fun a kV doc pm an cdv ct u1 u2 u3 t1 t2=>?_⟩<;>rw[yff]<;>exact⟨_,rfl,rfl⟩
theorem law_pure:∀ns:List Int,ns.length<=63->yav (glo tab.pr 20) zck.body (yaj zck [.lst (ns.map .int)])=some (.rt (.bl true)):=fun ns _=>K04.zl7 rfl rfl rfl rfl rfl rfl rfl ⟨rfl,rfl,rfl,rfl,rfl,rfl,rfl,rfl,rfl,rfl,rfl,rfl,rfl,rfl,rfl,rfl,rfl,rfl,rfl,rfl⟩ ⟨rfl,rfl,rfl,rfl,rfl,rfl,rfl,rfl,rfl,rfl,rfl,rfl,rfl⟩ ⟨rfl,rfl,rfl,rfl,rfl,rfl⟩ ns
end Nb
section
namespace Nb
open PySem PySem.Spec PySem.W PyProof.Rows L2 Ev Ex
abbrev qT:=qPp pT
abbrev xT:=x1P pT
abbrev sts:=stQ stN pT
def hkT:Hook:=zkv erT sts sI
theorem hd_left':LeftO PySem.Challenge.pw_dealtables_k61_whole_reach_holds qT lsT xT hkT.obs hkT.val 7414:=by exact fun w=>((congrFun (congrFun (congrFun PySem.W.Fast.te10554401427710662958 stN) pT) w).trans (zsu w)).trans (congrFun (congrFun (congrFun PySem.W.Fast.te1489920322860990267 stN) pT) w).symm
theorem nm_law:("law":Str)=⟨#[108,97,119]⟩:=by decide +kernel
def dL:DefRec:=⟨⟨#[108,97,119]⟩,za3 (top 63),zas (top 63),zaa (top 63),(match top 63 with|.FunctionDef _ _ _ _ _ _ _ _ _ p=>p|_=>⟨0,0,0,0⟩)⟩
theorem hd_def:defOf qT ("law":Str)=some (dL,[]):=by rw[nm_law];kernel_rfl
theorem hd_the:Program.theDef PySem.Challenge.pw_dealtables_k61_whole_reach_holds ("law":Str)=some (dL.params,dL.body,dL.scope):=by rw[nm_law];kernel_rfl
end Nb
open PySem PySem.W PyProof.Rows
set_option maxRecDepth 100000 in
set_option maxHeartbeats 0 in
theorem PySem.Challenge.cw_dealtables_k61_whole_reach_holds_holds : PySem.Challenge.rw_dealtables_k61_whole_reach_holds.Holds := by
 w_on;refine PySem.W.holds_law Nb.lw_ok fun said=>?_
 refine PySem.W.holds_open (q:=Nb.qT) (loose:=Nb.lsT) (Xt:=Nb.xT) (XP:=XL Nb.qT []) (Yf:=Nb.hkT.obs) (Ya:=Nb.hkT.val) (YP:=Nb.hkT.says) (N:=7414) Nb.hd_left' Nb.hkT.of Nb.hkT.keeps (fun s e=>xl_of s (Bool.and_eq_true_iff.mp e).1) XL.keeps Nb.hd_def Nb.hd_the rfl (fun s e=>recFacts_of (Bool.and_eq_true_iff.mp e).2) rfl (by assumption) (by decide +kernel) ⟨rfl,rfl,rfl,rfl,rfl,by decide +kernel⟩ ?hw ?hc
 case hw=>w_witness2
 case hc=>exact Nb.walk_see (l:=PySem.Challenge.rw_dealtables_k61_whole_reach_holds) (n:=63) (k:=20) (x:="_law_script") (er:=Nb.erT) (tab:=Nb.tab) rfl (by decide) rfl ⟨by decide,by decide⟩ Nb.nm_law.symm (by decide) Nb.tab_st Nb.tab_rd Nb.told_st Nb.ini_st Nb.law_st Nb.law_rd Nb.law_pure
end
