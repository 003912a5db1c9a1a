import PyProof.Rows.All
import Wide.All
import OpenK.AllK
import Wide.FinOn
import Lean
import PySem.Syntax
import KE.KSortTup
import PySem.Builtin.Str.Common
import PyProof.StrBlock
import PyProof.ExcInit
import PyProof.ExcClass2
import OpenK.KGet
import OpenK.KMake
import PyProof.InstStoreFacts
import PyProof.EqAt
import PyProof.EqKinds
import PyProof.TupleCall
import PyProof.DictRoadsH
import PyProof.NeKinds
import PyProof.StationsW
import PyProof.Cells
import KE.KDictSum
import KE.KItemsList
import PyProof.TupleKey
import PyProof.DictValues
import PyProof.ForAny
import PyProof.TupleIter
import PyProof.Draws
import PyProof.DictWalks
import PyProof.WalksMore
import PyProof.Comp
import PyProof.Raises
import KE.KItem
import PyProof.WalkInts
import PyProof.ConsumeWalk
import PyProof.ListCopy
import PyProof.TupleOfSeq
import PyProof.ExcArgs
import PyProof.NsDelKeeps
import PyProof.RulesAs
import KE.KTryMore
import PyProof.Rows.TupDisplay
import PyProof.IsiH_list
import PyProof.AttrMiss
import PySem.Eval
import PyProof.CompFree
import PyProof.CompMap
import PyProof.CompUse
import PyProof.EnumMake
import PyProof.EnumFor
import PyProof.ZipIter
import PyProof.ListNew
import PyProof.ExcBaseAll.ValueError
import PyProof.RulesAssignMore
import PySem.Challenge.RW_dealtables_k33_whole_nothing_dangles
set_option Elab.async false
set_option linter.all false
set_option genSizeOf false
set_option bootstrap.genMatcherCode false
set_option maxRecDepth 100000
set_option maxHeartbeats 8000000
noncomputable section
abbrev a7.{u}(x:Type u):=Option x
section
theorem obs{α β:Type}{o:a7 α}{f:α->a7 β}{b:β}:o.bind f=some b->∃a,o=some a/\f a=some b:=Option.bind_eq_some_iff.mp
theorem oms{α β:Type}{o:a7 α}{f:α->β}{b:β}:o.map f=some b->∃a,o=some a/\f a=b:=Option.map_eq_some_iff.mp
theorem omc{α:Type}{a b:α}{l:List α}:a∈b::l->a=b\/a∈l:=List.mem_cons.mp
theorem oma{α:Type}{a:α}{s t:List α}:a∈s++t->a∈s\/a∈t:=List.mem_append.mp
theorem omm{α β:Type}{f:α->β}{l:List α}{b:β}:b∈l.map f->∃a,a∈l/\f a=b:=List.mem_map.mp
theorem omg{α:Type}{a b:α}:a∈[b]->a=b:=List.mem_singleton.mp
theorem oml{α:Type}{p:α->Bool}{l:List α}:l.all p=true->∀x,x∈l->p x=true:=List.all_eq_true.mp
theorem ome{α:Type}{l:List α}{i:Nat}{a:α}:l[i]?=some a->∃h:i<l.length,l[i]=a:=List.getElem?_eq_some_iff.mp
open PySem Spec PyProof.Rows
def Bw:=@List.mem_map
def Fh:=@eq_of_beq
def Ss:=@List.size_toArray
def Ib:=@List.getElem?_set_self
def Jy:=@List.getElem_mem
def J0:=@List.flatMap_cons
def Er:=@List.nodup_cons
def L1:=@List.map_congr_left
def Gu:=@beq_self_eq_true
def Gr:=@List.filter_cons
def Of:=@List.length_set
def Hb:=@Array.getElem?_eq_getElem
def Ij:=@Heap.SameBut.update
def Di:=@wpAny_field
def Ew:=@sizeLine_eq
def W5:=@List.mem_of_mem_take
def Ie:=@List.any_cons
def Ks:=@wpAny_pyIter_tuple
def De:=@List.mem_filter
def Np:=@Int.emod_lt_of_pos
def En:=@List.all_eq_true
def E6:=@wpAny_holding
def dE:=@List.getElem?_append_right
def Xl:=@List.getElem?_append_left
def Lz:=@List.sum_cons
def Oe:=@Int.emod_nonneg
def Jw:=@wpAny_dictEntries
def Kw:=@Heap.get?_update_ne
def Px:=@wpAny_typeNameOfWhole_valiter
def R8:=@wpAny_typeNameOfWhole_keyiter
def Hi:=@wpAny_seqItems
def K0:=@wpAny_fieldsOf
def R7:=@List.nodup_nil
def Ky:=@List.pairwise_cons
def Lh:=@wpAny_setField_rec
def Ft:=@Obj.data_mapFields
def Ju:=@List.length_append
def Hx:=@List.mem_filterMap
def K3:=@List.length_filter_le
def Gx:=@List.getElem?_eq_none
def dz:=@Option.bind_eq_some_iff
def Oc:=@List.mem_append
def Vr:=@List.length_drop
def Wo:=@List.not_mem_nil
def Me:=@List.mem_singleton
def Eg:=@List.mem_flatMap
def Ki:=@beq_iff_eq
def Aa:=@wpAny_bind
def Aq:=@List.length_map
def Af:=@wpAny_pure
def Bb:=@Heap.get?_push_of_some
def Bi:=@Option.bind_some
def Cy:=@Bool.and_eq_true
def By:=@List.length_append
def Dw:=@List.getElem?_eq_getElem
def Ba:=@List.map_cons
def Cv:=@Heap.get?_push_size
def Dm:=@List.getElem?_map
def Cd:=@decide_eq_true
def Av:=@congrArg
def E7:=@Array.length_toList
def Dx:=@List.map_append
def Ee:=@List.mem_of_getElem?
def Bz:=@List.map_map
def Dn:=@Nat.le_refl
def Cr:=@Nat.le_trans
def Eb:=@List.length_cons
def Cu:=@Heap.lt_size
def Gb:=@Array.getElem?_toList
def Ey:=@of_decide_eq_true
def Hj:=@List.getD_eq_getElem?_getD
def Ek:=@wpAny_call_entry
def Gi:=@wpAny_callSpecial?_slot
def Fg:=@Bool.false_ne_true
def G8:=@List.mem_cons_of_mem
def E9:=@Nat.zero_le
def Gn:=@wpAny_newObj_type
def Ng:=@Bool.false_eq_true
def Es:=@Nat.ne_of_lt
def Hk:=@List.mem_append_right
def dW:=@List.not_mem_nil
def Ga:=@List.lookup_cons
def Fe:=@Option.some.inj
def K8:=@decide_eq_true_eq
def Ii:=@List.length_singleton
def Ht:=@List.filterMap_cons
def J8:=@List.mem_cons_self
def Eh:=@wpAny_mono
def Jo:=@List.getElem?_set_ne
def Gw:=@Heap.size_push
def Mh:=@List.size_toArray
def hX:=@Int.toNat_natCast
def K9:=@List.append_assoc
def Jv:=@List.append_nil
def Kf:=@List.length_take
def Ir:=@wpAny_attempt
def M6:=@Nat.lt_irrefl
def Lp:=@decide_eq_false
def Nc:=@List.length_range
theorem xgz{α:Type _}{a:α}{l:List α}:(a::l)[0]?=some a:=rfl
theorem xgs{α:Type _}{a:α}{l:List α}{i:Nat}:(a::l)[i+1]?=l[i]?:=rfl
theorem xbs{α β:Type _}{a:α}{f:α->a7 β}:(some a).bind f=f a:=rfl
theorem xjs{α:Type _}{a:a7 α}:(some a).join=a:=rfl
theorem xmc{α β:Type _}{a:α}{l:List α}{f:α->β}:(a::l).map f=f a::l.map f:=rfl
theorem xmn{α β:Type _}{f:α->β}:[].map f=[]:=rfl
theorem xms{α β:Type _}{a:α}{f:α->β}:(some a).map f=some (f a):=rfl
theorem xss{α:Type _}{a b:α}{l:List α}{n:Nat}:(a::l).set (n+1) b=a::l.set n b:=rfl
theorem xsz{α:Type _}{a b:α}{l:List α}:(a::l).set 0 b=b::l:=rfl
end
theorem Nb.lw_r:PySem.W.OpenRow.wellSaid (PySem.W.OpenLaw.row PySem.Challenge.rw_dealtables_k33_whole_nothing_dangles)=true:=by kernel_rfl
theorem Nb.lw_ok:PySem.Challenge.rw_dealtables_k33_whole_nothing_dangles.wellSaid=true:=by unfold PySem.W.OpenLaw.wellSaid;rw[Nb.lw_r];kernel_rfl
namespace Ev
open PySem
inductive T where
 |non|bl (b:Bool)|int (i:Int)|str (x:Str)|tup (xs:List T)|lst (xs:List T)|dic (ks vs:List T)|adr (a:Nat)
 deriving Inhabited
inductive Bo where
 |add|sub|mul|fdiv|mod
 deriving DecidableEq
inductive Co where
 |eq|ne|lt|gt|isin|notin|isN|notN|notF
 deriving DecidableEq
inductive Ik where
 |plain|range|enum|zip|vals
 deriving DecidableEq
inductive Ty where
 |tint|tbool
 deriving DecidableEq
inductive Bn where
 |len|toInt|toList|toTuple|any|least|most|sorted|dict|sset
 deriving DecidableEq
inductive Mt where
 |index|count
 deriving DecidableEq
inductive E where
 |var (i:Nat)|cst (t:T)
 |bin (o:Bo) (a b:E)|cmp (o:Co) (a b:E)
 |land (a b:E)|lor (a b:E)|lnot (a:E)|neg (a:E)|tru (a:E)
 |tup (es:List E)|lst (es:List E)
 |idx (a b:E)|sli (a:E) (lo hi:Option E)
 |call (f:Str) (es:List E)|blt (f:Bn) (a:E)|isi (a:E) (k:Ty)|mth (m:Mt) (a b:E)|dget (a b c:E)|ife (c a b:E)|told (f:Str) (es:List E)|dsp0|dsp1 (k v:E)
 |comp (elt:E) (n:Nat) (k:Ik) (src:List E) (cond:Option E)
 deriving Inhabited
inductive S where
 |asg (i:Nat) (e:E)
 |asgs (is:List Nat) (e:E)
 |app (i:Nat) (e:E)
 |ext (i:Nat) (e:E)
 |dnew (i:Nat)
 |dnew1 (i:Nat) (k v:E)
 |put (i:Nat) (k v:E)
 |dapp (i:Nat) (k v:E)
 |dfill (j i:Nat) (k:E) (c:Nat) (src:E)
 |wloop (c:E) (body:List S)
 |lpop (j i:Nat)
 |pop (i:Nat)
 |nw (i:Nat) (e:E)
 |ret (e:E)
 |exp (e:E)
 |asgx (i:Nat) (f:Str) (es:List E)
 |retx (f:Str) (es:List E)
 |expx (f:Str) (es:List E)
 |fail (x:Str) (es:List E)
 |ite (c:E) (a b:List S)
 |loop (is:List Nat) (k:Ik) (src:List E) (body:List S)
 deriving Inhabited
abbrev SZ:Nat:=16777216
abbrev Env:=List (a7 T)
structure Glo where
 call:Str->List T->Option T
 exc:Str->List T->Option (Str×Int)
noncomputable def Jm(i:Int):Bool:=decide (-18446744073709551616<i)&&decide (i<18446744073709551616)
def Lv:T->T->a7 T
 |.int a,y=>(match y with
  |.int b=>some (.int (a+b))
  |_=>none)
 |.lst a,y=>(match y with
  |.lst b=>if a.length+b.length<=SZ then some (.lst (a++b))else none
  |_=>none)
 |.tup a,y=>(match y with
  |.tup b=>if a.length+b.length<=SZ then some (.tup (a++b))else none
  |_=>none)
 |_,_=>none
def Ou:T->T->a7 T
 |.int a,.int b=>some (.int (a-b))
 |_,_=>none
def Nh:T->T->a7 T
 |.int a,.int b=>if Jm a||Jm b then some (.int (a*b))else none
 |.lst xs,.int n=>if 0<=n/\n<=1000/\xs.length<=1000 then some (.lst (List.replicate n.toNat xs).flatten)else none
 |_,_=>none
def Z8:T->T->a7 T
 |.int a,.int b=>if 0<b/\b<1073741824 then some (.int (a/b))else none
 |_,_=>none
def N5:T->T->a7 T
 |.int a,.int b=>if 0<b then some (.int (a%b))else none
 |_,_=>none
def Ip:Bo->T->T->a7 T
 |.add=>Lv|.sub=>Ou|.mul=>Nh|.fdiv=>Z8|.mod=>N5
mutual
noncomputable def eqT:T->T->Bool
 |.non,y=>(match y with
  |.non=>true
  |_=>false)
 |.bl a,y=>(match y with
  |.bl b=>a==b
  |.int b=>(if a then 1 else 0)==b
  |_=>false)
 |.int a,y=>(match y with
  |.bl b=>a==(if b then 1 else 0)
  |.int b=>a==b
  |_=>false)
 |.str a,y=>(match y with
  |.str b=>a==b
  |_=>false)
 |.tup a,y=>(match y with
  |.tup b=>eqTs a b
  |_=>false)
 |.lst a,y=>(match y with
  |.lst b=>eqTs a b
  |_=>false)
 |_,_=>false
noncomputable def eqTs:List T->List T->Bool
 |[],[]=>true
 |x::xs,y::ys=>eqT x y&&eqTs xs ys
 |_,_=>false
end
mutual
noncomputable def Bc:T->T->Nat
 |.tup a,y=>(match y with
  |.tup b=>Cz a b+1
  |.dic _ _=>20000
  |.adr _=>20000
  |_=>0)
 |.lst a,y=>(match y with
  |.lst b=>Cz a b+1
  |.dic _ _=>20000
  |.adr _=>20000
  |_=>0)
 |.dic _ _,_=>20000
 |.adr _,_=>20000
 |_,y=>(match y with
  |.dic _ _=>20000
  |.adr _=>20000
  |_=>0)
noncomputable def Cz:List T->List T->Nat
 |x::xs,y::ys=>max (Bc x y) (Cz xs ys)
 |_,_=>0
end
noncomputable def F6:T->Bool
 |.tup _=>false
 |.lst _=>false
 |.dic _ _=>false
 |.adr _=>false
 |_=>true
noncomputable def Bm:Nat->T->Bool
 |_,.int _=>true
 |_,.str _=>true
 |n+1,.tup xs=>xs.all (Bm n)
 |_,_=>false
noncomputable def Hc:T->Bool
 |.str _=>true
 |_=>false
def Em:T->Bool
 |.tup xs=>xs.all (Bm 3)
 |_=>false
def Bj(ks:List T)(k:T):Bool:=(Hc k&&ks.all Hc)||(Em k&&ks.all Em)
section
variable {β:Type}
def Aw:List T->List β->T->a7 β
 |k::ks,v::vs,q=>if eqT k q=true then some v else Aw ks vs q
 |_,_,_=>none
def Bq(ks:List T)(q:T):Bool:=ks.any fun k=>eqT k q
def Bh:List T->List β->T->β->List β
 |k::ks,v::vs,q,x=>if eqT k q=true then x::vs else v::Bh ks vs q x
 |_,_,_,x=>[x]
def Ax(ks:List T)(q:T):List T:=if Bq ks q=true then ks else ks++[q]
end
def Gz(x y:T):a7 T:=if Bc x y<=30 then some (.bl (eqT x y))else none
def Qj(x y:T):a7 T:=if Bc x y<=30 then some (.bl (!eqT x y))else none
def Pi:T->T->a7 T
 |.int a,.int b=>some (.bl (decide (a<b)))
 |.str a,.str b=>some (.bl (decide (a.cps.toList<b.cps.toList)))
 |_,_=>none
noncomputable def Ji:T->a7 (List T)
 |.tup xs=>some xs
 |.lst xs=>some xs
 |_=>none
def Do(x:T)(xs:List T):Bool:=xs.all fun z=>decide (Bc z x<=30)
def Gy(x y:T):a7 Bool :=
 match y with
 |.tup xs=>if Do x xs then some (xs.any fun z=>eqT z x)else none
 |.lst xs=>if Do x xs then some (xs.any fun z=>eqT z x)else none
 |.dic ks _=>if Bj ks x=true then some (Bq ks x)else none
 |_=>none
def Bt:Co->T->T->a7 T
 |.eq,x,y=>Gz x y
 |.ne,x,y=>Qj x y
 |.lt,x,y=>Pi x y
 |.gt,x,y=>(match x,y with
  |.int a,.int b=>some (.bl (decide (b<a)))
  |_,_=>none)
 |.isin,x,y=>(Gy x y).map .bl
 |.notin,x,y=>(Gy x y).map fun b=>.bl (!b)
 |.isN,x,y=>(match x,y with
  |.non,.non=>some (.bl true)
  |_,.non=>some (.bl false)
  |_,_=>none)
 |.notN,x,y=>(match x,y with
  |.non,.non=>some (.bl false)
  |_,.non=>some (.bl true)
  |_,_=>none)
 |.notF,x,y=>(match x,y with
  |.bl b,.bl false=>some (.bl b)
  |.non,.bl false=>some (.bl true)
  |_,_=>none)
noncomputable def Gf(n:Nat)(i:Int):a7 Nat:=if 0<=i then(if i<n then some i.toNat else none)else if -(n:Int)<=i then some (i+n).toNat else none
def Fo(xs:List T)(i:Int):a7 T:=(Gf xs.length i).bind fun j=>xs[j]?
def Cm:T->T->a7 T
 |.tup xs,.int i=>Fo xs i
 |.lst xs,.int i=>Fo xs i
 |.dic ks vs,k=>if Bj ks k=true then Aw ks vs k else none
 |_,_=>none
noncomputable def Bg(n d:Nat):a7 Int->Nat
 |none=>d
 |some v=>if v<0 then(v+(n:Int)).toNat else min v.toNat n
def cut(xs:List T)(lo hi:a7 Int):List T:=(xs.drop (Bg xs.length 0 lo)).take (Bg xs.length xs.length hi-Bg xs.length 0 lo)
def Wi:T->a7 Int->a7 Int->a7 T
 |.tup xs,lo,hi=>some (.tup (cut xs lo hi))
 |.lst xs,lo,hi=>some (.lst (cut xs lo hi))
 |_,_,_=>none
def Sx:T->a7 Bool
 |.non=>some false
 |.bl b=>some b
 |.int i=>some (i != 0)
 |.tup xs=>some (!xs.isEmpty)
 |.lst xs=>some (!xs.isEmpty)
 |_=>none
noncomputable def Mv(x:T):Ty->Bool
 |.tint=>(match x with
  |.int _=>true
  |.bl _=>true
  |_=>false)
 |.tbool=>(match x with
  |.bl _=>true
  |_=>false)
def Lu(x:T)(k:Ty):a7 T:=match x with
 |.adr _=>none
 |_=>some (.bl (Mv x k))
noncomputable def T3:List T->a7 (List Int)
 |[]=>some []
 |.int i::r=>(T3 r).map (i::·)
 |_=>none
noncomputable def cX(l:List Int):a7 T:=l.min?.map .int
noncomputable def cu(l:List Int):a7 T:=l.max?.map .int
def Tn(g:List Int->a7 T):T->a7 T
 |.lst xs=>(T3 xs).bind g
 |_=>none
def Mo:List T->a7 (List Bool)
 |[]=>some []
 |.bl b::r=>(Mo r).map (b::·)
 |_=>none
mutual
noncomputable def E1:T->T->a7 Bool
 |.int a,y=>(match y with
  |.int b=>some (decide (a<b))
  |_=>none)
 |.str a,y=>(match y with
  |.str b=>some (decide (a.cps.toList<b.cps.toList))
  |_=>none)
 |.tup a,y=>(match y with
  |.tup b=>Dc a b
  |_=>none)
 |_,_=>none
noncomputable def Dc:List T->List T->a7 Bool
 |[],y=>some (!y.isEmpty)
 |x::xs,y=>(match y with
  |[]=>some false
  |b::ys=>if eqT x b=true then Dc xs ys else E1 x b)
end
def cD(x y:T):Bool:=E1 x y==some true
noncomputable def P5:T->a7 Nat
 |.int _=>some 0
 |.str _=>some 1
 |.tup _=>some 2
 |_=>none
structure OkN(l:List T):Prop where
 len:l.length<=60
 dp:∀x∈l,∀y∈l,Bc x y<=20
 lt:∀x∈l,∀y∈l,∃b,E1 x y=some b
 kd:(∃n,∀x∈l,∃a r,x=.tup (a::r)/\P5 a=some n)\/∀x∈l,Hc x=true
 tot:l.Pairwise fun x y=>cD y x=!cD x y
 tr:∀x∈l,∀y∈l,∀z∈l,cD x y=true->cD y z=true->cD x z=true
def Lw(x:T):List T->List T
 |[]=>[x]
 |y::r=>if cD x y=true then x::y::r else y::Lw x r
def Ha:List T->List T
 |[]=>[]
 |x::r=>Lw x (Ha r)
open Classical in
def Eo(l:List T):a7 T:=if OkN l then some (.lst (Ha l))else none
def Hg:List T->List T->List T->a7 T
 |[],ks,vs=>some (.dic ks vs)
 |.tup [k,v]::r,ks,vs=>if Bj ks k=true then Hg r (Ax ks k) (Bh ks vs k v)else none
 |_,_,_=>none
def Rc(xs:List T):List T:=xs.foldl Ax []
def Gg:Bn->T->a7 T
 |.len,x=>(match x with
  |.tup xs=>some (.int xs.length)
  |.lst xs=>some (.int xs.length)
  |_=>none)
 |.toInt,x=>(match x with
  |.int i=>some (.int i)
  |.bl b=>some (.int (if b then 1 else 0))
  |_=>none)
 |.toList,x=>(match x with
  |.tup xs=>some (.lst xs)
  |.lst xs=>some (.lst xs)
  |_=>none)
 |.toTuple,x=>(match x with
  |.tup xs=>some (.tup xs)
  |.lst xs=>some (.tup xs)
  |_=>none)
 |.least,x=>Tn cX x
 |.most,x=>Tn cu x
 |.any,x=>(match x with
  |.lst xs=>(Mo xs).map fun bs=>.bl (bs.any id)
  |_=>none)
 |.sorted,x=>(match x with
  |.dic ks _=>Eo ks
  |.lst xs=>Eo xs
  |_=>none)
 |.dict,x=>(match x with
  |.lst xs=>if xs.length<=1000 then Hg xs [] []else none
  |_=>none)
 |.sset,x=>(match x with
  |.lst xs=>if xs.length<=1000/\xs.all Hc=true/\(Rc xs).length<=4 then Eo (Rc xs)else none
  |_=>none)
def zb0(x:T):List T->a7 Nat
 |[]=>none
 |y::r=>if eqT y x then some 0 else(zb0 x r).map (·+1)
def Fx:Mt->T->T->a7 T
 |.count,.lst xs,y=>if Do y xs then some (.int ((xs.filter fun z=>eqT z y).length:Nat))else none
 |.index,.lst xs,y=>if(F6 y&&xs.all F6)||Do y xs then(zb0 y xs).map fun(i:Nat)=>T.int (i:Int)else none
 |_,_,_=>none
noncomputable def Fu:List T->Nat->List T
 |[],_=>[]
 |x::r,i=>.tup [.int i,x]::Fu r (i+1)
noncomputable def Ce:List T->List T->List T
 |x::xs,y::ys=>.tup [x,y]::Ce xs ys
 |_,_=>[]
noncomputable def rangeT(n:Nat):List T:=(List.range n).map fun(i:Nat)=>T.int (i:Int)
noncomputable def ascii(x:Str):Bool:=x.cps.all (·<128)
def items:Ik->List T->a7 (List T)
 |.plain,l=>(match l with
  |[.tup xs]=>some xs
  |[.lst xs]=>some xs
  |[.dic ks _]=>some ks
  |_=>none)
 |.vals,l=>(match l with
  |[.dic _ vs]=>some vs
  |_=>none)
 |.range,l=>(match l with
  |[.int n]=>if -4611686018427387904<=n/\n<4611686018427387904 then some (rangeT n.toNat)else none
  |_=>none)
 |.enum,l=>(match l with
  |[.tup xs]=>some (Fu xs 0)
  |[.lst xs]=>some (Fu xs 0)
  |_=>none)
 |.zip,l=>(match l with
  |[x,y]=>(match x with
   |.tup xs=>(Ji y).bind fun ys=>some (Ce xs ys)
   |_=>none)
  |_=>none)
def Ed(k:Ik)(xs:List T):a7 (List T):=(items k xs).bind fun qc=>if qc.length<=SZ then some qc else none
noncomputable def bnd(n:Nat)(x:T)(ρ:Env):a7 Env :=
 if n=1 then some (some x::ρ)else
  match x with
  |.tup xs=>if xs.length=n then some (xs.map some++ρ)else none
  |_=>none
noncomputable def Eu(f:T->a7 (a7 T)):List T->a7 (List T)
 |[]=>some []
 |x::xs=>(f x).bind fun r=>(Eu f xs).bind fun rs=>match r with
  |none=>some rs
  |some y=>some (y::rs)
noncomputable def Lg:a7 T->a7 (a7 Int)
 |none=>some none
 |some (.int i)=>some (some i)
 |some _=>none
noncomputable def Iz:List Str:=["NoText", "NoRow", "Twice", "BadCheck", "NoRef", "Held", "NoMark", "BadLog", "Clash"]
noncomputable def Kc(x:Str):List Str->Nat->a7 Nat
 |[],_=>none
 |y::r,i=>if y=x then some i else Kc x r (i+1)
def Fj(G:Glo)(f:Str)(ts:List T):a7 T:=match G.call f ts with
 |some t=>some (.tup [.str "told",t])
 |none=>(G.exc f ts).bind fun x=>(Kc x.1 Iz 0).map fun(j:Nat)=>T.tup [.str "refused",.int (j:Int),.int x.2]
mutual
noncomputable def Ac(G:Glo):E->Env->a7 T
 |.var i,ρ=>(ρ[i]?).join
 |.cst t,_=>some t
 |.bin o a b,ρ=>(Ac G a ρ).bind fun x=>(Ac G b ρ).bind fun y=>Ip o x y
 |.cmp o a b,ρ=>(Ac G a ρ).bind fun x=>(Ac G b ρ).bind fun y=>Bt o x y
 |.land a b,ρ=>(Ac G a ρ).bind fun x=>match x with
  |.bl true=>Ac G b ρ
  |.bl false=>some (.bl false)
  |_=>none
 |.lor a b,ρ=>(Ac G a ρ).bind fun x=>match x with
  |.bl true=>some (.bl true)
  |.bl false=>Ac G b ρ
  |_=>none
 |.lnot a,ρ=>(Ac G a ρ).bind fun x=>match x with
  |.bl b=>some (.bl (!b))
  |_=>none
 |.neg a,ρ=>(Ac G a ρ).bind fun x=>match x with
  |.int i=>some (.int (-i))
  |_=>none
 |.tru a,ρ=>(Ac G a ρ).bind fun x=>(Sx x).map .bl
 |.tup es,ρ=>if es.length<=1000 then(Az G es ρ).map .tup else none
 |.lst es,ρ=>if es.length<=1000 then(Az G es ρ).map .lst else none
 |.idx a b,ρ=>(Ac G a ρ).bind fun x=>(Ac G b ρ).bind fun y=>Cm x y
 |.sli a lo hi,ρ=>(Ac G a ρ).bind fun x=>(E5 G lo ρ).bind fun l=>(E5 G hi ρ).bind fun h=>(Lg l).bind fun l'=>(Lg h).bind fun h'=>Wi x l' h'
 |.call f es,ρ=>(Az G es ρ).bind fun xs=>G.call f xs
 |.blt f a,ρ=>(Ac G a ρ).bind fun x=>Gg f x
 |.isi a k,ρ=>(Ac G a ρ).bind fun x=>Lu x k
 |.mth m a b,ρ=>(Ac G a ρ).bind fun x=>(Ac G b ρ).bind fun y=>Fx m x y
 |.dget a b c,ρ=>(Ac G a ρ).bind fun x=>(Ac G b ρ).bind fun y=>(Ac G c ρ).bind fun z=>(match x with
  |.dic ks vs=>if Bj ks y=true then some ((Aw ks vs y).getD z)else none
  |_=>none)
 |.ife c a b,ρ=>(Ac G c ρ).bind fun x=>match x with
  |.bl true=>Ac G a ρ
  |.bl false=>Ac G b ρ
  |_=>none
 |.told f es,ρ=>(Az G es ρ).bind fun xs=>Fj G f xs
 |.dsp0,_=>some (.dic [] [])
 |.dsp1 k v,ρ=>(Ac G k ρ).bind fun x=>(Ac G v ρ).bind fun y=>if Bj [] x=true then some (.dic [x] [y])else none
 |.comp elt n k src cond,ρ=>(Az G src ρ).bind fun xs=>(Ed k xs).bind fun qc=>
   (Eu (fun x=>(bnd n x ρ).bind fun ρ'=>(E5 G cond ρ').bind fun c=>match c with
    |none=>(Ac G elt ρ').map some
    |some (.bl true)=>(Ac G elt ρ').map some
    |some (.bl false)=>some none
    |some _=>none) qc).map .lst
noncomputable def Az(G:Glo):List E->Env->a7 (List T)
 |[],_=>some []
 |e::es,ρ=>(Ac G e ρ).bind fun x=>(Az G es ρ).bind fun xs=>some (x::xs)
noncomputable def E5(G:Glo):a7 E->Env->a7 (a7 T)
 |none,_=>some none
 |some e,ρ=>(Ac G e ρ).map some
end
inductive Sl where
 |no|val (t:T)|own (ts:List T)|dic (ks vs:List T)|dl (ks:List T) (vs:List (List T))|dd (ks:List T) (vs:List (List T×List T))
 deriving Inhabited
def Sl.get:Sl->a7 T
 |.val t=>some t
 |_=>none
noncomputable def Sl.frz:Sl->Sl
 |.own ts=>.val (.lst ts)
 |.dic ks vs=>.val (.dic ks vs)
 |.dl ks vs=>.val (.dic ks (vs.map .lst))
 |.dd ks vs=>.val (.dic ks (vs.map fun p=>.dic p.1 p.2))
 |s=>s
instance:Coe T Sl:=⟨.val⟩
inductive Out where
 |nx (τ:List Sl)|rt (t:T)|rs (x:Str) (n:Int)
 deriving Inhabited
noncomputable def Au(τ:List Sl):Env:=τ.map Sl.get
noncomputable def frzAt:List Nat->List Sl->List Sl
 |[],τ=>τ
 |i::r,τ=>frzAt r (τ.modify i Sl.frz)
mutual
noncomputable def Ae:E->List Nat
 |.var i=>[i]
 |.cst _=>[]
 |.bin _ a b=>Ae a++Ae b
 |.cmp _ a b=>Ae a++Ae b
 |.land a b=>Ae a++Ae b
 |.lor a b=>Ae a++Ae b
 |.lnot a=>Ae a
 |.neg a=>Ae a
 |.tru a=>Ae a
 |.tup es=>Bx es
 |.lst es=>Bx es
 |.idx a b=>Ae a++Ae b
 |.sli a lo hi=>Ae a++(N1 lo++N1 hi)
 |.call _ es=>Bx es
 |.blt _ a=>Ae a
 |.isi a _=>Ae a
 |.mth _ a b=>Ae a++Ae b
 |.dget a b c=>Ae a++(Ae b++Ae c)
 |.ife c a b=>Ae c++(Ae a++Ae b)
 |.told _ es=>Bx es
 |.dsp0=>[]
 |.dsp1 k v=>Ae k++Ae v
 |.comp elt n _ src cond=>Bx src++((Ae elt++N1 cond).filterMap fun i=>if n<=i then some (i-n)else none)
noncomputable def Bx:List E->List Nat
 |[]=>[]
 |e::es=>Ae e++Bx es
noncomputable def N1:a7 E->List Nat
 |none=>[]
 |some e=>Ae e
end
noncomputable def fresh:E->Bool
 |.lst _=>true
 |.bin .add _ _=>true
 |_=>false
def Jn(e:E)(t:T):Sl:=match fresh e,t with
 |true,.lst ts=>.own ts
 |_,t=>.val t
noncomputable def Jl:List Nat->List T->List Sl->a7 (List Sl)
 |[],[],τ=>some τ
 |i::is,x::xs,τ=>Jl is xs (τ.set i (.val x))
 |_,_,_=>none
def G6(is:List Nat)(x:T)(τ:List Sl):a7 (List Sl) :=
 match is,x with
 |[i],x=>some (τ.set i (.val x))
 |is,.tup xs=>Jl is xs τ
 |_,_=>none
noncomputable def Ho(f:T->List Sl->a7 Out):List T->List Sl->a7 Out
 |[],τ=>some (.nx τ)
 |x::xs,τ=>(f x τ).bind fun o=>match o with
  |.nx τ'=>Ho f xs τ'
  |o=>some o
def Ms(s:a7 Sl)(k v:T):a7 Sl :=
 match s with
 |some (.own ts)=>(match k with
  |.int i=>(Gf ts.length i).map fun j=>.own (ts.set j v)
  |_=>none)
 |some (.dic ks vs)=>if Bj ks k=true/\ks.length<SZ then some (.dic (Ax ks k) (Bh ks vs k v))else none
 |_=>none
def Oj(s:a7 Sl)(k v:T):a7 Sl :=
 let go (ks:List T) (vs:List (List T)):=if Bj ks k=true/\ks.length<1000/\((Aw ks vs k).getD []).length<1000 then some (Sl.dl (Ax ks k) (Bh ks vs k ((Aw ks vs k).getD []++[v])))else none
 match s with
 |some (.dl ks vs)=>go ks vs
 |some (.dic [] [])=>go [] []
 |_=>none
noncomputable def L9:a7 Sl->a7 (List T×List (List T×List T))
 |some (.dd ks vs)=>some (ks,vs)
 |some (.dic [] [])=>some ([],[])
 |_=>none
def Ia:List T->List T×List T->a7 (List T×List T)
 |[],p=>some p
 |c::cs,p=>if Bj p.1 c=true/\p.1.length<SZ then Ia cs (Ax p.1 c,Bh p.1 p.2 c .non)else none
def Jg(f:List Sl->a7 Out)(g:List Sl->a7 T):Nat->List Sl->a7 Out
 |0,_=>none
 |n+1,τ=>(g τ).bind fun t=>match t with
  |.bl true=>(f τ).bind fun o=>(match o with
   |.nx τ'=>Jg f g n τ'
   |o=>some o)
  |.bl false=>some (.nx τ)
  |_=>none
def Iv(G:Glo)(f:Str)(xs:List T)(k:T->Out):a7 Out:=match G.call f xs with
 |some t=>some (k t)
 |none=>(G.exc f xs).map fun p=>.rs p.1 p.2
noncomputable def O9:List T->a7 Int
 |[_]=>some 0
 |[_,.int n]=>some n
 |_=>none
noncomputable def sh(τ:List Sl)(i:Nat)(o:a7 Sl):a7 Out:=o.map fun s=>.nx (τ.set i s)
mutual
noncomputable def Cp(G:Glo):S->List Sl->a7 Out
 |.asg i e,τ=>(Ac G e (Au (frzAt (Ae e) τ))).bind fun t=>some (.nx ((frzAt (Ae e) τ).set i (Jn e t)))
 |.asgs is e,τ=>(Ac G e (Au (frzAt (Ae e) τ))).bind fun t=>(match t with
  |.tup xs=>(Jl is xs (frzAt (Ae e) τ)).map .nx
  |_=>none)
 |.app i e,τ=>(Ac G e (Au (frzAt (Ae e) τ))).bind fun t=>match(frzAt (Ae e) τ)[i]? with
  |some (.own ts)=>if ts.length<SZ then some (.nx ((frzAt (Ae e) τ).set i (.own (ts++[t]))))else none
  |_=>none
 |.ext i e,τ=>(Ac G e (Au (frzAt (Ae e) τ))).bind fun t=>match(frzAt (Ae e) τ)[i]?,t with
  |some (.own ts),.lst us=>if ts.length+us.length<=SZ then some (.nx ((frzAt (Ae e) τ).set i (.own (ts++us))))else none
  |_,_=>none
 |.dnew i,τ=>some (.nx (τ.set i (.dic [] [])))
 |.dnew1 i k v,τ=>(Ac G k (Au (frzAt (Ae k++Ae v) τ))).bind fun x=>(Ac G v (Au (frzAt (Ae k++Ae v) τ))).bind fun y=>if Bj [] x=true then some (.nx ((frzAt (Ae k++Ae v) τ).set i (.dic [x] [y])))else none
 |.put i k v,τ=>(Ac G v (Au (frzAt (Ae v++Ae k) τ))).bind fun y=>(Ac G k (Au (frzAt (Ae v++Ae k) τ))).bind fun x=>sh (frzAt (Ae v++Ae k) τ) i (Ms (frzAt (Ae v++Ae k) τ)[i]? x y)
 |.dapp i k v,τ=>(Ac G k (Au (frzAt (Ae k++Ae v) τ))).bind fun x=>(Ac G v (Au (frzAt (Ae k++Ae v) τ))).bind fun y=>sh (frzAt (Ae k++Ae v) τ) i (Oj (frzAt (Ae k++Ae v) τ)[i]? x y)
 |.dfill j i k c src,τ=>(Ac G k (Au (frzAt (Ae k++Ae src) τ))).bind fun x=>(Ac G src (Au ((frzAt (Ae k++Ae src) τ).set j .no))).bind fun t=>(items .plain [t]).bind fun qc=>(L9 (frzAt (Ae k++Ae src) τ)[i]?).bind fun p=>if Bj p.1 x=true/\p.1.length<1000/\i≠j/\i≠c/\j≠c then
   (Ia qc ((Aw p.1 p.2 x).getD ([],[]))).map fun q=>.nx ((((frzAt (Ae k++Ae src) τ).set i (.dd (Ax p.1 x) (Bh p.1 p.2 x q))).set j .no).set c .no)else none
 |.wloop c body,τ=>Jg (fun τ=>Bp G body τ) (fun τ=>Ac G c (Au (frzAt (Ae c) τ))) 1000 τ
 |.lpop j i,τ=>(match τ[i]? with
  |some (.own ts)=>(match ts[ts.length-1]? with
   |some t=>if i=j then none else some (.nx ((τ.set i (.own ts.dropLast)).set j (.val t)))
   |none=>none)
  |_=>none)
 |.pop i,τ=>(match τ[i]? with
  |some (.own ts)=>if ts=[]then none else some (.nx (τ.set i (.own ts.dropLast)))
  |_=>none)
 |.nw i e,τ=>(Ac G e (Au (frzAt (Ae e) τ))).bind fun t=>match t with
  |.lst ts=>some (.nx ((frzAt (Ae e) τ).set i (.own ts)))
  |_=>none
 |.exp e,τ=>(Ac G e (Au (frzAt (Ae e) τ))).bind fun _=>some (.nx τ)
 |.asgx i f es,τ=>(Az G es (Au (frzAt (Bx es) τ))).bind fun xs=>Iv G f xs fun t=>.nx ((frzAt (Bx es) τ).set i (.val t))
 |.retx f es,τ=>(Az G es (Au (frzAt (Bx es) τ))).bind fun xs=>Iv G f xs .rt
 |.expx f es,τ=>(Az G es (Au (frzAt (Bx es) τ))).bind fun xs=>Iv G f xs fun _=>.nx (frzAt (Bx es) τ)
 |.fail x es,τ=>(Az G es (Au (frzAt (Bx es) τ))).bind fun xs=>(O9 xs).map (.rs x)
 |.ret e,τ=>(Ac G e (Au (frzAt (Ae e) τ))).map .rt
 |.ite c a b,τ=>(Ac G c (Au (frzAt (Ae c) τ))).bind fun t=>match t with
  |.bl true=>Bp G a τ
  |.bl false=>Bp G b τ
  |_=>none
 |.loop is k src body,τ=>(Az G src (Au (frzAt (Bx src) τ))).bind fun xs=>(items k xs).bind fun qc=>Ho (fun x τ=>(G6 is x τ).bind fun τ'=>Bp G body τ') qc (frzAt (Bx src) τ)
noncomputable def Bp(G:Glo):List S->List Sl->a7 Out
 |[],τ=>some (.nx τ)
 |s::ss,τ=>(Cp G s τ).bind fun o=>match o with
  |.nx τ'=>Bp G ss τ'
  |o=>some o
end
structure Fd where
 np:Nat
 ns:Nat
 body:List S
 deriving Inhabited
noncomputable def Dr(D:Fd)(ts:List T):List Sl:=ts.map .val++List.replicate (D.ns-ts.length) .no
def Hq:a7 Out->a7 T
 |some (.nx _)=>some .non
 |some (.rt t)=>some t
 |_=>none
noncomputable def Mn:a7 Out->a7 (Str×Int)
 |some (.rs x n)=>some (x,n)
 |_=>none
structure Pr where
 fn:Str->Option Fd
mutual
noncomputable def run(P:Pr):Nat->Str->List T->a7 T
 |0,_,_=>none
 |n+1,f,ts=>(P.fn f).bind fun D=>if ts.length=D.np then Hq (Bp ⟨run P n,Cq P n⟩ D.body (Dr D ts))else none
noncomputable def Cq(P:Pr):Nat->Str->List T->a7 (Str×Int)
 |0,_,_=>none
 |n+1,f,ts=>(P.fn f).bind fun D=>if ts.length=D.np then Mn (Bp ⟨run P n,Cq P n⟩ D.body (Dr D ts))else none
end
def glo(P:Pr)(n:Nat):Glo:=⟨run P n,Cq P n⟩
end Ev
namespace Ev.Ex
open PySem
structure Mr(B:String)(l:List Value):Prop where
 b:l.contains (.type B)=true
 a:l.contains (.type "AttributeError")=false
 n:l.contains (.type "NameError")=false
theorem Mr.cb(m:Mr B l):(Value.ref C::l).contains (.type B)=true:=by rw[List.contains_cons,m.b];rfl
theorem Mr.ca(m:Mr B l):(Value.ref C::l).contains (.type "AttributeError")=false:=by rw[List.contains_cons,m.a];rfl
theorem Mr.cn(m:Mr B l):(Value.ref C::l).contains (.type "NameError")=false:=by rw[List.contains_cons,m.n];rfl
section
variable {P:Program}{w:World}{A:Around}{E:Value->Shared->Prop}{h:Heap}{g:Array GenState}{d:Drawn}{t:Nat}{os:OsState}{k y:Str}{C N:Addr}{b l lB:List Value}{hd ab:Bool}{s8:List Str}{sub:List Value}{cl:a7 Bool}{dd:a7 Addr}{k0 k1 k2 k3 k5:a7 Value}{B nw ni:String}{us:List Value}
theorem gq(F:ExcBaseFacts B nw ni lB)(m:Mr B l)(hC:h.get? C=some (excClassObj k y C N b l hd s8 sub ab cl dd k0 k1 k2 k3 k5 nw))(q:Q () ⟨h,g,d,t,os⟩):wpAny M A (checkBuiltinCall nw ⟨.ref C::us,[]⟩) Q E ⟨h,g,d,t,os⟩:=by
 have c:=m.cb (C:=C);have st:=F.noStar;simp only[checkBuiltinCall,F.newKind,F.newSplit,F.newRow]
 repeat(first|(refine wpAny_isSubtype_exc hC ?_;rw[c])|refine wpAny_loadPart_at hC ?_|refine wpAny_madeBy_exc hC ?_|refine wpAny_staticBase_exc hC ?_|simp only[bne_self_eq_false,Bool.false_eq_true,if_false]|wp_step)
 exact q
def Hd(h:Heap)(C:Addr)(us:List Value):Heap:=(h.push {cls:=.type "tuple",data:=.seq us.toArray}).push {cls:=.ref C,data:=.fields #[.ref h.objs.size,.none,.none,.none,.bool false,.none]}
theorem iT(F:ExcBaseFacts B nw ni lB)(m:Mr B l)(hC:h.get? C=some (excClassObj k y C N b l hd s8 sub ab cl dd k0 k1 k2 k3 k5 nw))(hl:us.length<=sizeLine)(q:R (.ok (.ret (.ref (h.objs.size+1)))) ⟨Hd h C us,g,d,t,os⟩):codeAny (model P w) A (.builtin nw ⟨.ref C::us,[]⟩) R ⟨h,g,d,t,os⟩:=by
 have c1:=m.cb (C:=C);have c2:=m.ca (C:=C);have c3:=m.cn (C:=C);have fe:=F.ends;have hrest:=hl;refine codeAny_builtinAt F.entry ?_;unfold Builtin.«BaseException.__new__»;refine wpAt_bind (show wpAt _ _ _ (stack >>= _) _ _ _ from wpAt_bind (wpAt_stack fun p below=>wpAt_of_wpAny ?_))
 wp_walk
 refine wpAt_of_wpAny ?_;rw[F.owner]
 repeat(first|with_reducible refine wpAny_loadPart_at hC ?_|with_reducible refine wpAny_madeHere_exc F.canon hC ?_|(with_reducible refine wpAny_isSubtype_exc hC ?_;first|rw[c1]|rw[c2]|rw[c3])|wp_step)
 show R _ _;rw[Gw];exact q
def Ini(h:Heap)(C fI:Addr):Prop:=∃K:W.Frag,K.In h/\W.findIn K (.ref C) "__init__"=some (some (.ref fI))/\W.typeIn K (.ref fI)=some (.type "function")
theorem Ini.up(i:Ini h C fI)(up:∀b o,h.get? b=some o->h'.get? b=some o):Ini h' C fI:=let⟨K,k,r⟩:=i;⟨K,k.keeps up,r⟩
theorem Ini.fn(i:Ini h C fI):∃o,h.get? fI=some o/\o.cls=.type "function":=by obtain⟨K,k,_,e⟩:=i;obtain⟨o,h1,h2⟩:=oms e;exact⟨o,k _ _ h1,h2⟩
theorem iV(i:Ini h C fI)(q:Q (some (.ref fI)) ⟨h,g,d,t,os⟩):wpAny M A (typeLookup (.ref C) "__init__") Q E ⟨h,g,d,t,os⟩:=by obtain⟨K,k,e,_⟩:=i;exact(W.looks_findIn k e).here q
theorem Ko:∀b o,h.get? b=some o->(Hd h C us).get? b=some o:=fun _ _ e=>Bb _ (Bb _ e)
theorem bx:(Hd h C us).get? (h.objs.size+1)=some {cls:=.ref C,data:=.fields #[.ref h.objs.size,.none,.none,.none,.bool false,.none]}:=by unfold Hd;heap_get
theorem qN(F:ExcBaseFacts B nw ni lB)(m:Mr B l)(hC:h.get? C=some (excClassObj k y C N b l hd s8 sub ab cl dd k0 k1 k2 k3 k5 nw))(hl:us.length<=sizeLine)(i:Ini h C fI)(q:wpAny (model P w) A (call (.ref fI) (.ref (h.objs.size+1)::us)) (fun r s'=>r=.none/\Q (.done (.ret (.ref (h.objs.size+1)))) s') E ⟨Hd h C us,g,d,t,os⟩):wpAny (model P w) A (Builtin.«type.__call__» ⟨.ref C::us,[]⟩) Q E ⟨h,g,d,t,os⟩:=by
 repeat(first|with_reducible refine wpAny_madeBy_exc hC ?_|with_reducible refine wpAny_loadPart_at hC ?_|wp_step)
 refine codeAny_call_builtin_code (Code.quiet_builtin _ F.quiet) (gq F m hC (iT F m hC hl ?_));show wpAny _ _ _ _ _ _;have C1:=Ko (C:=C) (us:=us) _ _ hC;have i1:=i.up (Ko (C:=C) (us:=us));have cc:(Value.ref C::l).contains (.ref C)=true:=by simp
 have ee:=bx (h:=h) (C:=C) (us:=us);unfold isInstance
 repeat(first|(with_reducible refine wpAny_isSubtype_exc C1 ?_;rw[cc])|with_reducible refine wpAny_loadPart_at ee ?_|wp_step)
 show wpAny _ _ (typeLookup (.ref C) _) _ _ _;refine iV i1 (E6 (Aa ?_));obtain⟨o,o1,o2⟩:=i1.fn;unfold bindSpecial;refine Aa (wpAny_typeOf (T:="function") ⟨o,o1,o2⟩ ?_);rw[if_pos (by decide)];refine Af (Aa (Eh q (fun r s' ⟨hr,hq⟩=>?_) fun _ _ x=>x));subst hr
 wp_walk
 exact hq
theorem iw(F:ExcBaseFacts B nw ni lB)(m:Mr B l)(hC:h.get? C=some (excClassObj k y C N b l hd s8 sub ab cl dd k0 k1 k2 k3 k5 nw))(hl:us.length<=sizeLine)(i:Ini h C fI)(q:wpAny (model P w) (A.under (.builtin "type.__call__" ⟨.ref C::us,[]⟩)) (call (.ref fI) (.ref (h.objs.size+1)::us)) (fun r s'=>r=.none/\Q (.ref (h.objs.size+1)) s') E ⟨Hd h C us,g,d,t,os⟩):wpAny (model P w) A (call (.ref C) us) Q E ⟨h,g,d,t,os⟩:=by
 have f1:=tc_lookup;have f2:=tc_bind (.ref C);have ty:(⟨h,g,d,t,os⟩:Shared).TypeIs (.ref C) "type":=⟨_,hC,rfl⟩;refine wpAny_call (codeAny_of_tree (show wpAny _ _ (callAny (.ref C) _) _ _ _ from ?_))
 repeat(any_goals (first|with_reducible refine wpAny_loadPart_at hC ?_|assumption|wp_step))
 exact⟨rfl,codeAny_call_builtin_at (Code.quiet_builtin _ (by decide +kernel)) entry_typeCall (wpAny_check_type_call_sub hC (qN F m hC hl i q))⟩
end
section
variable {P:Program}{w:World}{A:Around}{E:Value->Shared->Prop}{h:Heap}{g:Array GenState}{d:Drawn}{t:Nat}{os:OsState}{k y:Str}{C N:Addr}{b l lB:List Value}{hd ab:Bool}{s8:List Str}{sub:List Value}{cl:a7 Bool}{dd:a7 Addr}{k0 k1 k2 k3 k5:a7 Value}{B nw ni:String}{us:List Value}
theorem lQ(F:ExcBaseFacts B nw ni lB)(m:Mr B l)(hC:h.get? C=some (excClassObj k y C N b l hd s8 sub ab cl dd k0 k1 k2 k3 k5 nw))(he:h.get? e=some o)(ho:o.cls=.ref C)(q:Q () ⟨h,g,d,t,os⟩):wpAny M A (checkBuiltinCall ni ⟨.ref e::us,[]⟩) Q E ⟨h,g,d,t,os⟩:=by
 have c:=m.cb (C:=C);have st:=F.noStar;simp only[checkBuiltinCall,F.initKind,F.initSplit,F.initRow]
 repeat(first|(with_reducible refine wpAny_isSubtype_exc hC ?_;rw[c])|with_reducible refine wpAny_loadPart_at hC ?_|(with_reducible refine wpAny_loadPart_at he ?_;rw[ho])|wp_step)
 refine wpAny_onRaise ?_;rw[show ∀(a b:String)(n:Nat),Bind.check ⟨.positional, "*",B,.self,[⟨"args",.varPos,false⟩]⟩ a b n (List.map (fun x=>x.fst) ({pos:=Value.ref e::us}:Args).kw)=pure ()from fun a b n=>check_star_args _ _ _ _ _ _];exact Af q
theorem kl(F:ExcBaseFacts B nw ni lB)(m:Mr B l)(hC:h.get? C=some (excClassObj k y C N b l hd s8 sub ab cl dd k0 k1 k2 k3 k5 nw))(hl:us.length<=sizeLine)(he:h.get? e=some {cls:=.ref C,data:=.fields #[.ref z,.none,.none,.none,.bool false,.none]})(q:Q .none ⟨(h.push {cls:=.type "tuple",data:=.seq us.toArray}).update e (Obj.mapFields (·.setIfInBounds 0 (.ref h.objs.size))),g,d,t,os⟩):wpAny (model P w) A (call (.builtin ni) (.ref e::us)) Q E ⟨h,g,d,t,os⟩:=by
 have hrest:=hl;refine wpAny_call (codeAny_call_builtin F.init.plain F.initEntry (lQ F m hC he rfl ?_));have he':=Bb {cls:=.type "tuple",data:=.seq us.toArray} he
 wp_walk
 exact q
end
section
open PySem PySem.W Builtin Builtin.ObjectAttr
def Ka:List Value:=[.type "ValueError",.type "Exception",.type "BaseException",.type "object"]
theorem ak(x:Value):∀rs:List Addr,refuseLoop x "__setattr__" (rs.map Value.ref++Ka)=pure ()
 |[]=>PySem.F.store_ValueError.passes x
 |r::rs=>(refuseLoop_ref _ _ _ _).trans (ak x rs)
theorem aM:∀rs:List Addr,(rs.map Value.ref++Ka).contains (.type "object")=true
 |[]=>by decide
 |r::rs=>by rw[Ba,List.cons_append,List.contains_cons,aM rs,Bool.or_true]
section
variable {P:Program}{w:World}{A:Around}{E:Value->Shared->Prop}{s:Shared}{K:Frag}{C e:Addr}{cd:ClassData}{rs:List Addr}{fs:Array Value}{n:Str}{v:Value}
theorem oE(X:K.In s.heap)(he:s.heap.get? e=some {cls:=.ref C,data:=.fields fs})(hc:clsIn K C=some cd)(hm:cd.mro=rs.map Value.ref++Ka)(hd:cd.hasDict=true)(hs:findIn K (.ref C) "__setattr__"=some (some (.builtin "object.__setattr__")))(ha:findIn K (.ref C) n=some none)(q:∀h' tk,h'.get? e=some {cls:=.ref C,dict:=some s.heap.objs.size,data:=.fields fs}->h'.Ns1 s.heap.objs.size (fun x=>if x=n then some v else none)->(∀b o,b≠e->s.heap.get? b=some o->h'.get? b=some o)->Q () {s with heap:=h',toks:=tk}):wpAny (model P w) A (setAttr (.ref e) n v) Q E s:=by
 have I:W.InstAt s.heap e {cls:=.ref C,data:=.fields fs} C none:=⟨he,rfl,rfl,trivial⟩;refine set_plain X I hs ?_;obtain⟨h,g,d,t,os⟩:=s;dsimp only at X he I q ⊢;have SF:=PySem.F.store_object;have ne:cd.mro.isEmpty=false:=by rw[hm];cases rs<;>rfl
 have sub:Looks (model P w) h (isInstance (.ref e) (.type "object")) true:=I.type.andThen (looks_mroIn X (by unfold mroIn;rw[hc,Bi,if_neg (by rw[ne];decide),hm,aM]));refine codeAny_call_builtin SF.slot.plain SF.entry (@check_slot (model P w) _ _ ⟨h,g,d,t+1,os⟩ "object.__setattr__" "object" "__setattr__" (.ref e) [.str n t,v] [] _ SF.kind SF.split sub (SF.args (.ref e) (.str n t) v) ?_);have mr:Looks (model P w) h (mroOf (.ref C)) cd.mro:=(looks_clsIn X hc).andThen .now;rw[osa_eq,refuse_eq];refine Aa (Aa (I.type.here (Aa (mr.here ?_))));rw[hm,ak];refine Af (Aa (I.type.here (Aa ((looks_findIn X ha).here (Aa (Af ?_))))));show wpAny _ _ (storeInOwnDict _ _ _ _ _ _) _ _ _;refine Aa (Af (Aa (Aa (wpAny_loadPart he (Aa ((looks_clsIn X hc).here ?_))))));rw[hd];have he1:=Bb {cls:=.type "dict",data:=.dict #[]} he;have hne:e≠h.objs.size:=Es (Cu he);show wpAny _ _ (alloc {cls:=Value.type "dict",data:=Data.dict #[]} >>= fun d=>update e (fun o=>{cls:=o.cls,dict:=some d,data:=o.data,slots:=o.slots}) >>= fun _=>dictMade (Value.ref C) e d) _ _ _;refine Aa (wpAny_alloc' (Aa (wpAny_update' he1 (Af (a:=some h.objs.size) ?_))));have gd:((h.push {cls:=.type "dict",data:=.dict #[]}).update e fun o=>{cls:=o.cls,dict:=some h.objs.size,data:=o.data,slots:=o.slots}).get? h.objs.size=some {cls:=.type "dict",data:=.dict #[]}:=(Kw _ _ _ _ hne.symm).trans (Heap.get?_push_at rfl rfl);show wpAny _ _ (storeInDict h.objs.size (.str n t) n v) _ _ _;unfold storeInDict newKeyGuard;refine wpAny_bind (wpAny_pure (wpAny_bind (wpAny_nsSet1 (Heap.Ns1.of_empty ⟨_,#[],_,gd,rfl,fun _ z=>absurd z (by simp),fun _=>rfl⟩) fun h' hn sb=>?_)));obtain⟨oD,eD,pD,g1,g2,g3⟩:=hn.count (Within.cons n v Within.nil);refine Aa (wpAny_lookBehind g1 (by rw[g2];exact pastItsLine_dict (Cr g3 (by rw[Eb,List.length_nil,Ew];lia))) (Af ?_));exact q h' _ ((sb.2 e hne).trans (Heap.get?_update_self _ he1 rfl)) hn fun b o hb hbo=>(sb.2 b (Es (Cu hbo))).trans ((Kw _ _ _ _ hb).trans (Bb _ hbo))
end
end
end Ev.Ex
section
namespace Nb
open PySem PySem.Spec PySem.W PyProof.Rows Ev Ex
section
def Fw(s:Stmt):Arguments:=if let .FunctionDef _ a _ _ _ _ _ _ _ _:=s then a else⟨[],[],none,[],[],none,[]⟩
def Et(s:Stmt):List Stmt:=if let .FunctionDef _ _ b _ _ _ _ _ _ _:=s then b else[]
def Bf(s:Stmt):Scope:=if let .FunctionDef _ _ _ _ _ _ sc _ _ _:=s then sc else{kind:=.function,names:=[],isCoroutine:=false,isGenerator:=false}
noncomputable def Qf{α β:Type}(f:α->a7 β):List α->a7 (List β)
 |[]=>some []
 |x::r=>(f x).bind fun y=>(Qf f r).bind fun ys=>some (y::ys)
def dP:a7 Obj->a7 Addr
 |some ⟨_,_,.func fd,_⟩=>(match fd.code with|.ref c=>some c|_=>none)
 |_=>none
def qR(i:Nat):a7 Obj->a7 Addr
 |some ⟨_,_,.fields vs,_⟩=>(match vs.getD i .none with|.ref c=>some c|_=>none)
 |_=>none
def Nk:a7 (a7 Value)->a7 Addr
 |some (some (.ref f))=>some f
 |_=>none
def Jq(h:Heap)(ns:Addr)(x:Str):a7 (a7 Value):=match h.get? ns with
 |some ⟨_,_,.dict es _,_⟩=>(match es.toList.find? (·.key.isStr x)with
   |some e=>some (some e.val)
   |none=>if es.toList.any (·.refKey)then none else some none)
 |_=>none
structure FnV where
 name:Str
 qual:Str
 params:Arguments
 body:FuncBody
 scope:Scope
 globals:Addr
 closure:List (Str×Addr)
 defaults:Value
 builtins:Addr
def Mg(f:FuncData):FnV:=⟨f.name,f.qualname,f.params,f.body,f.scope,f.globals,f.closure,f.defaults,f.builtins⟩
def Q9(x:Str)(st:Stmt):FnV:=Mg (W.fnOf x x (Fw st) (Et st) (Bf st) .none .none .none .none none .none .none)
def Qq(h:Heap)(cd:Value)(q:Str):Bool:=match cd with
 |.ref c=>(match h.get? c with
   |some ⟨_,_,.fields vs,_⟩=>(match vs.toList with|_::.str n _::_=>n==q|_=>false)
   |_=>false)
 |_=>false
def Pw(h:Heap)(x:Str):a7 (FnV×Bool):=match Jq h mainGlobals x with
 |some (some (.ref a))=>(match h.get? a with
   |some ⟨_,_,.func f,_⟩=>some (Mg f,Qq h f.code x)
   |_=>none)
 |_=>none
def Td(h:Heap):Nat->Value->a7 T
 |_,.none=>some .non
 |_,.bool b=>some (.bl b)
 |_,.int i _=>some (.int i)
 |_,.str x _=>some (.str x)
 |_,_=>none
def Ma(fs bs:List Str)(h:Heap):List (a7 (FnV×Bool))×List (a7 (a7 Value)):=(fs.map (Pw h),bs.map (Jq h mainGlobals))
def K7(fs:List (Str×Stmt))(bs:List Str):List (a7 (FnV×Bool))×List (a7 (a7 Value)):=(fs.map fun p=>some (Q9 p.1 p.2,true),bs.map fun _=>some none)
def KH(h:Heap):W.Frag:=(List.range h.objs.size).filterMap fun a=>(h.get? a).map fun o=>(a,o)
def Ox(h:Heap):a7 Addr:=(Nk (Jq h mainGlobals "law")).bind fun f=>dP (h.get? f)
def R5(h:Heap):a7 Addr:=(Ox h).bind fun c=>qR 11 (h.get? c)
def Zk:Value->Bool|.str _ _=>true|_=>false
def Pz:Value->Bool|.int _ _=>true|_=>false
def Xz:Value->Bool|.bool _=>true|_=>false
def d6(p:Addr):Value->Bool|.ref q=>q==p|_=>false
def Ue(c p:Addr):a7 Obj->Bool
 |some ⟨.type ty,_,.fields vs,_⟩=>ty=="code"&&decide (11<vs.size)&&d6 p (vs.getD 11 .none)&&Zk (vs.getD 18 .none)&&Pz (vs.getD 7 .none)&&Xz (vs.getD 9 .none)&&Pz (vs.getD 10 .none)&&!(c==p)
 |_=>false
def Sg:a7 Obj->Bool
 |some ⟨.none,none,.fields vs,sl⟩=>vs.size==0&&sl.size==0
 |_=>false
def Pp(p:Addr)(h:Heap):Bool:=match Nk (Jq h mainGlobals "__builtins__")with
 |some b=>!(b==builtinsNs)&&!(b==mainGlobals)&&!(b==p)&&(match h.get? b with
   |some ⟨.type ty,some d,.plain,_⟩=>ty=="module"&&d==builtinsNs
   |_=>false)
 |none=>false
def Kj(K:W.Frag)(x:Str):a7 Addr:=Nk (W.nsIn K mainGlobals x)
def boN:List String:=["ValueError", "Exception", "BaseException", "object"]
def boX:List Str:=["__setattr__", "__getattribute__", "__getattr__", "__class__", "at"]
def Rp(n:String)(x:Str):a7 Value:=if n=="BaseException"&&x=="__getattribute__" then some (.builtin "BaseException.__getattribute__")else if n=="object" then(if x=="__setattr__" then some (.builtin "object.__setattr__")else if x=="__class__" then some (.builtin "object.__class__")else if x=="__getattribute__" then some (.builtin "object.__getattribute__")else none)else none
def oI(K:W.Frag)(x:Str):Value->a7 (a7 Value)
 |.type n=>if boN.contains n&&boX.contains x then some (Rp n x)else none
 |.ref a=>(W.clsIn K a).bind fun cd=>W.nsIn K cd.ns x
 |_=>none
def aI(K:W.Frag)(x:Str):List Value->a7 (a7 Value)
 |[]=>some none
 |c::r=>(oI K x c).bind fun o=>if o.isSome then some o else aI K x r
def Ja(K:W.Frag)(C:Addr)(x:Str):a7 (a7 Value):=(W.clsIn K C).bind fun cd=>aI K x cd.mro
def T6(K:W.Frag)(D:Addr):Bool:=Ja K D "__getattribute__"==some (some (.builtin "BaseException.__getattribute__"))&&Ja K D "__getattr__"==some none&&W.mroIn K D (.type "BaseException")==some true&&W.hasDictIn K D &&
 Ja K D "__class__"==some (some (.builtin "object.__class__"))&&W.mroIn K D (.type "object")==some true&&Ja K D "at"==some none
def kC(K:W.Frag)(D C:Addr):a7 Bool:=if((W.clsIn K C).isSome&&(K.lookup C).map (·.cls)==some (.type "type"))=true then W.mroIn K D (.ref C)else none
def kO(K:W.Frag)(D C:Addr):a7 Bool:=if(Value.ref D==Value.ref C)=true then some true else kC K D C
def Rt(K:W.Frag)(cs:List Addr)(DE D:Addr)(j:Nat):Bool:=T6 K D&&(cs.map fun C=>kO K D C)==((List.range 9).map fun i=>some (decide (i=j)))&&W.mroIn K D (.type "ValueError")==some true&&decide (j<9)&&W.mroIn K DE (.type "BaseException")==some true&&kC K D DE==some true
def qP:Value->Bool|.ref _=>true|_=>false
def Mw(C:Addr):List Value->Bool
 |[a,b,x,y,z,u]=>a==.ref C&&qP b&&[x,y,z,u]==Ka
 |_=>false
def Ot:List (a7 Value)->Bool
 |[_,_,_,_,k,_]=>k==some (.builtin "ValueError.__new__")
 |_=>false
def Tq(C:Addr):a7 Obj->Bool
 |some ⟨c,_,.cls cd,sl⟩=>c==.type "type"&&!cd.hasDel&&cd.hasDict&&Mw C cd.mro&&Ot sl.toList
 |_=>false
def S0(K:W.Frag)(C fI:Addr):Bool:=Tq C (K.lookup C)&&Ja K C "__init__"==some (some (.ref fI))&&(K.lookup fI).map (·.cls)==some (.type "function")&&Ja K C "__setattr__"==some (some (.builtin "object.__setattr__"))&&Ja K C "at"==some none
def hV(K:W.Frag):a7 (List Addr):=Qf (Kj K) Iz
def Ws(K:W.Frag)(C:Addr):a7 Addr:=Nk (Ja K C "__init__")
def O3(K:W.Frag):a7 Addr:=(Kj K "DealError").bind (Ws K)
def Si(er:List Str)(K:W.Frag):Bool:=match hV K,Kj K "DealError",O3 K with
 |some cs,some DE,some fI=>((cs.zipIdx 0).all fun p=>Rt K cs DE p.1 p.2)&&er.all fun x=>(match Kj K x with
  |some C=>S0 K C fI
  |none=>false)
 |_,_,_=>false
def Kk(h:Heap):a7 Obj->a7 (FnV×Bool×List (a7 T))
 |some ⟨_,_,.func f,_⟩=>(match f.defaults with
  |.ref a=>(match h.get? a with
   |some ⟨_,_,.seq qc _,_⟩=>some ({Mg f with defaults:=.none},Qq h f.code f.qualname,qc.toList.map (Td h 4))
   |_=>none)
  |_=>none)
 |_=>none
def Wb(h:Heap):a7 (FnV×Bool×List (a7 T)):=(O3 (KH h)).bind fun fI=>Kk h (h.get? fI)
def Lx:Str:="DealError.__init__"
def Na(st:Stmt):FnV:=Mg (W.fnOf "__init__" Lx (Fw st) (Et st) (Bf st) .none .none .none .none none .none .none)
def Kp(st:Stmt):a7 (FnV×Bool×List (a7 T)):=some (Na st,true,[some (.str ""),some (.int 0)])
def Ny(er fs bs:List Str)(h:Heap)(p:Addr):(List (a7 (FnV×Bool))×List (a7 (a7 Value)))×Bool×Bool×a7 (FnV×Bool×List (a7 T)) :=
 (Ma fs bs (h.hide p),Sg (h.get? p)&&(R5 (h.hide p)==some p)&&(match Ox (h.hide p)with|some c=>Ue c p ((h.hide p).get? c)|none=>false)&&Pp p (h.hide p),Si er (KH (h.hide p)),Wb (h.hide p))
def bnX:List Str:=["ValueError", "len", "int", "list", "tuple", "min", "max", "any", "sorted", "dict", "range", "enumerate", "zip", "isinstance", "bool", "set"]
def Tg(er fs bs:List Str)(h:Heap):=(R5 h).map (Ny er fs bs h)
end
section
abbrev pT:=PySem.Challenge.pw_dealtables_k33_whole_nothing_dangles
def Wp(p:Program)(i:Nat):Stmt:=p.main.body.getD i (.Pass ⟨0,0,0,0⟩)
def clD(s:Stmt):Stmt:=if let .ClassDef _ _ _ b _ _ _ _ _ _ _:=s then b.getD 0 (.Pass ⟨0,0,0,0⟩)else s
def qPp(p:Program):Program:=PySem.W.view p [1,2,3,4,5,6,7,8,9,10,12,13,15,16,17,18,20,21,22,23,24,25,26,27,28,29,30,31,32,34,35,36,37,38,39,40,41,42,43,44,45,46,48,49,50,51,52,53,54,55,56,57,58,59,60,61,62,63,64,65,66,67,68,69,70,71,72,73,74,75,76,77,78,79]
def lsT:List Str:=[("DealError":Str),("Clash":Str)]
def erT:List Str:=[("NoRow":Str),("Held":Str),("Twice":Str),("BadCheck":Str),("NoRef":Str)]
def x1P(p:Program)(s:Shared):Bool:=xlAt (qPp p) [] s&&recOk [] s
def stN:List (Str×Nat):=("table_of",12)::("worths_of",13)::("holds",15)::("opposite",16)::("joined",17)::("compared",18)::("key_of",20)::("rows_of",21)::("rows_by_key",22)::("row_of",23)::("is_same_key",24)::("is_kept",25)::("key_referred_to",26)::("references_of",27)::("references_by",28)::("breaks",29)::("keys_that_break",30)::("keys_alike",31)::("keys_referring_to_none",32)::("going",34)::("gone_with",35)::("along_with",36)::("gaps_by",37)::("done",38)::("without_row",40)::("changed",42)::("rows_left",43)::("row_with",44)::("refuse_broken",45)::("is_late",46)::("_law_cell_at",48)::("_law_mixed",49)::("_law_drawn",50)::("_law_names",51)::("_law_table",52)::("_law_key",53)::("_law_worths",54)::("_law_rows",55)::("_law_test",56)::("_law_bare",57)::("_law_pairs",58)::("_law_rule",59)::("_law_schema",60)::("_law_worth",61)::("_law_row",62)::("_law_level",63)::("_law_broken",64)::("_law_links",65)::("_law_going",66)::("_law_put",67)::("_law_with",68)::("_law_dropped",69)::("_law_raw",70)::("_law_done",71)::("_law_late",72)::("_law_deed",74)::("_law_store",75)::("_law_places",77)::("_law_right",78)::("law",79)::("_law_told",76)::[]
def stQ(l:List (Str×Nat))(p:Program):List (Str×Stmt):=l.map fun x=>(x.1,Wp p x.2)
def hdL(l:List (Str×Nat))(p:Program)(w:World):=(openEnds treeTable p w 8418).map fun s=>((openSeen (qPp p) lsT (importedModules p.main.body) (x1P p) true s).1,Tg erT ((stQ l p).map (·.1)) bnX s.heap)
def hdR(l:List (Str×Nat))(p:Program)(w:World):=some ((openGood (qPp p) lsT).1,some (K7 (stQ l p) bnX,true,true,Kp (clD (Wp p 1))))
def hdM(l:List (Str×Nat))(p:Program)(w:World):=(openEnds treeTable p w 8418).map fun s=>(openSeen (qPp p) lsT (importedModules p.main.body) (x1P p) true s).2
def hdN(l:List (Str×Nat))(p:Program)(w:World):=some (openGood (qPp p) lsT).2
lay_quick Nb.hdL Nb.hdR
lay_quick Nb.hdM Nb.hdN
theorem jB:∀w,PySem.W.Fast.tw10554401427710662958 stN pT w=PySem.W.Fast.tw1489920322860990267 stN pT w:=fun w=>by kernel_rfl
theorem eT:∀w,PySem.W.Fast.tw14412963595562825976 stN pT w=PySem.W.Fast.tw6169256676756009735 stN pT w:=fun w=>by kernel_rfl
end
end Nb
section
namespace Nb
open PySem Spec PyProof.Rows Ev
section
variable {l:List PySem.Env}
variable {w:World}
abbrev Fz:=Addr->a7 Obj
def Fz.In(F:Fz)(h:Heap):Prop:=∀b o,F b=some o->h.get? b=some o
def Fz.le(F G:Fz):Prop:=∀b o,F b=some o->G b=some o
mutual
def Iw(w:World):T->Int
 |.int i=>hashInt i
 |.str x=>hashStr w x
 |.tup xs=>reduceHash (Builtin.Tuple.tupleHashOf (Fb w xs))
 |_=>0
def Fb(w:World):List T->List Int
 |[]=>[]
 |x::r=>Iw w x::Fb w r
end
structure Ll(w:World)(ks:List T)(o:Obj)(es:Array DictEntry)(ep:Nat):Prop where
 ex:o.ExactDict
 dt:o.data=.dict es ep
 hs:es.toList.map (·.hash)=Fb w ks
 nd:ks.Pairwise fun a b=>eqT a b=false
 sz:es.size<=sizeLine
def Odd(o:Obj):Prop:=(∀qc n,o.data≠.seq qc n)/\(∀es ep,o.data≠.dict es ep)/\∀v,o.data≠.cell v
mutual
def Rep(w:World)(F:Fz):T->Value->Prop
 |.non,u=>u=.none
 |.bl b,u=>u=.bool b
 |.int i,u=>∃t,u=.int i t
 |.str x,u=>∃t,u=.str x t
 |.tup ts,u=>∃a o qc n,u=.ref a/\F a=some o/\o.cls=.type "tuple"/\o.data=.seq qc n/\qc.size<=sizeLine/\Reps w F ts qc.toList
 |.adr a,u=>u=.ref a/\∃o,F a=some o/\Odd o
 |.lst ts,u=>∃a qc n,u=.ref a/\F a=some {cls:=.type "list",data:=.seq qc n}/\qc.size<=sizeLine/\Reps w F ts qc.toList
 |.dic ks vs,u=>∃a o es ep,u=.ref a/\F a=some o/\(a==sysModules)=false/\Ll w ks o es ep/\Reps w F ks (es.toList.map (·.key))/\Reps w F vs (es.toList.map (·.val))
def Reps(w:World)(F:Fz):List T->List Value->Prop
 |[],us=>us=[]
 |t::ts,us=>∃u r,us=u::r/\Rep w F t u/\Reps w F ts r
end
mutual
theorem Rep.mono{F G:Fz}(e:F.le G):∀{t u},Rep w F t u->Rep w G t u
 |.non,_,h=>h
 |.bl _,_,h=>h
 |.int _,_,h=>h
 |.str _,_,h=>h
 |.adr _,_,⟨h,o,f,d⟩=>⟨h,o,e _ _ f,d⟩
 |.tup _,_,⟨a,o,qc,n,h1,h2,h3,h4,h5,h6⟩=>⟨a,o,qc,n,h1,e _ _ h2,h3,h4,h5,Reps.mono e h6⟩
 |.lst _,_,⟨a,qc,n,h1,h2,h5,h6⟩=>⟨a,qc,n,h1,e _ _ h2,h5,Reps.mono e h6⟩
 |.dic _ _,_,⟨a,o,es,ep,h1,h2,h3,h4,h5,h6⟩=>⟨a,o,es,ep,h1,e _ _ h2,h3,h4,Reps.mono e h5,Reps.mono e h6⟩
theorem Reps.mono{F G:Fz}(e:F.le G):∀{ts us},Reps w F ts us->Reps w G ts us
 |[],_,h=>h
 |_::_,_,⟨u,r,h1,h2,h3⟩=>⟨u,r,h1,Rep.mono e h2,Reps.mono e h3⟩
end
theorem Reps.cons{F:Fz}(h:Rep w F t u)(r:Reps w F ts us):Reps w F (t::ts) (u::us):=⟨u,us,rfl,h,r⟩
theorem Reps.length{F:Fz}:∀{ts us},Reps w F ts us->us.length=ts.length
 |[],_,h=>by cases h;rfl
 |_::_,_,⟨_,_,e,_,h⟩=>by subst e;simp[Reps.length h]
theorem Reps.get{F:Fz}:∀{ts us}{i:Nat}{t},Reps w F ts us->ts[i]?=some t->∃u,us[i]?=some u/\Rep w F t u
 |[],_,_,_,_,e=>by simp at e
 |_::_,_,0,_,⟨u,r,z,h2,h3⟩,e=>by subst z;cases e;exact⟨u,rfl,h2⟩
 |_::_,_,i+1,_,⟨u,r,z,h2,h3⟩,e=>by subst z;exact Reps.get (i:=i) h3 e
variable {w:World}{F G G2:Fz}{s s1 s2 s':Shared}{H:Heap}{a:Addr}{o:Obj}{t:Nat}
structure Up(F:Fz)(s:Shared)(G:Fz)(s':Shared):Prop where
 ext:∀b o,s.heap.get? b=some o->s'.heap.get? b=some o
 os:s'.os=s.os
 bare:AllBare s.gens->AllBare s'.gens
 ff:F.le G
 fh:G.In s'.heap
 nw:∀b,G b≠none->F b≠none\/s.heap.get? b=none
theorem Up.old(a:Up F s G s1){c:Addr}(z:s1.heap.get? c=none):s.heap.get? c=none:=by
 cases e:s.heap.get? c with
 |none=>rfl
 |some o=>rw[a.ext c o e]at z;cases z
theorem Up.trans(a:Up F s G s1)(b:Up G s1 G2 s2):Up F s G2 s2 :=
 ⟨fun c o h=>b.ext c o (a.ext c o h),b.os.trans a.os,fun h=>b.bare (a.bare h),fun c o h=>b.ff c o (a.ff c o h),b.fh,fun c h=>(b.nw c h).elim (a.nw c) fun z=>.inr (a.old z)⟩
theorem Up.tok(h:F.In s.heap):Up F s F {s with toks:=t}:=⟨fun _ _ e=>e,rfl,id,fun _ _ e=>e,h,fun _ z=>.inl z⟩
def fup(F:Fz)(a:Addr)(o:Obj):Fz:=fun b=>if b=a then some o else F b
theorem Fq:fup F a o a=some o:=if_pos rfl
theorem Fz.In.none(h:F.In H)(z:H.get? a=.none):F a=.none:=by
 cases e:F a with
 |none=>rfl
 |some o=>rw[h _ _ e]at z;cases z
theorem Bs:s.heap.get? s.heap.objs.size=none:=Heap.get?_none_of_le (Dn _)
theorem F9(h:F a=none):F.le (fup F a o):=fun b u e=>by unfold fup;rw[if_neg (fun z=>by rw[z,h]at e;cases e)];exact e
theorem Up.push(h:F.In s.heap)(hf:o.isFreed=false):Up F s (fup F s.heap.objs.size o) {s with heap:=s.heap.push o,toks:=t} :=
 ⟨fun _ _ e=>Bb _ e,rfl,id,F9 (h.none Bs),fun b u e=>by
  unfold fup at e;split at e
  .rename_i z;cases e;rw[z];exact Cv _ hf
  .exact Bb _ (h b u e),fun b e=>by
  unfold fup at e;split at e
  .rename_i z;exact .inr (by rw[z];exact Bs)
  .exact .inl e⟩
structure Mod(K:W.Frag)(mg:Str->Option Value)(base:Heap):Prop where
 kin:K.In base
 glob:base.Ns mainGlobals mg
 blt:∃mb,base.Ns builtinsNs mb/\∀x:Str,x≠"__name__"->mb x=bootBuiltins x
 nolimit:base.NoLimit
structure Pc where
 prog:Program
 w:World
 K:W.Frag
 mg:Str->Option Value
 base:Heap
 calm:Prop
def frs(l:List PySem.Env):List Addr:=l.filterMap (·.frame)
structure St(P:Pc)(A:Around)(l:List PySem.Env)(F:Fz)(s:Shared):Prop where
 mod:Mod P.K P.mg P.base
 hd:P.calm->A.handled=none
 frames:A.frames=some l
 bk:∀b o,P.base.get? b=some o->s.heap.get? b=some o
 fh:F.In s.heap
 bare:AllBare s.gens
 funs:P.calm->s.heap.FunFrames P.base l
 fo:P.calm->∀b∈frs l,F b=none
structure Yc extends Pc where
 A:Around
 env:PySem.Env
 stack:List PySem.Env
 I:Fz->Prop
structure Yc.Ok(Y:Yc):Prop where
 kind:Y.env.scope.kind=.function
 glob:Y.env.globals=mainGlobals
 blt:Y.env.builtins=builtinsNs
 has:∀x,Y.env.kindOf x=some .cell\/Y.env.kindOf x=some .free->∃c,Y.env.cells.lookup x=some c
 im:∀{F G:Fz},F.le G->Y.I F->Y.I G
abbrev Pc.M(P:Pc):Model:=model P.prog P.w
def Res(w:World)(F:Fz)(s:Shared)(t:T)(u:Value)(s':Shared):Prop:=∃G,Up F s G s'/\Rep w G t u
def Look(Y:Yc)(h:Heap)(x:Str)(u:Value):Prop :=
 (Y.env.kindOf x=some .local/\∃m,h.Ns Y.env.locals m/\m x=some u)\/((Y.env.kindOf x=some .cell\/Y.env.kindOf x=some .free)/\∃c,Y.env.cells.lookup x=some c/\h.IsCell c (some u))
structure At(Y:Yc)(N:Str->Nat->Prop)(r:Ev.Env)(F:Fz)(s:Shared):Prop extends St Y.toPc Y.A Y.stack F s where
 ok:Y.Ok
 inv:Y.I F
 get:∀x i t,N x i->r[i]?=some (some t)->∃u,Look Y s.heap x u/\Rep Y.w F t u
theorem Q1{h h' base:Heap}(k:∀b o,h.get? b=some o->h'.get? b=some o):∀{l:List PySem.Env},h.FunFrames base l->h'.FunFrames base l
 |[],_=>trivial
 |_::_,⟨hk,⟨L,o,hf,hn,ho,hd⟩,hr⟩=>⟨hk,⟨L,o,hf,hn,k _ _ ho,hd⟩,Q1 k hr⟩
theorem nc{base:Heap}(f:∀b∈frs l,F b=none)(h:s.heap.FunFrames base l)(u:Up F s G s'):∀b∈frs l,G b=none:=fun b hb=>by
 cases e:G b with
 |none=>rfl
 |some o=>
  rcases u.nw b (by rw[e];simp)with w|w
  .exact absurd (f b hb) w
  .obtain⟨_,o',e1,_⟩:=h.mem hb;rw[w]at e1;cases e1
theorem St.up{P:Pc}{A:Around}(h:St P A l F s)(u:Up F s G s'):St P A l G s':=⟨h.mod,h.hd,h.frames,fun b o e=>u.ext b o (h.bk b o e),u.fh,u.bare h.bare,fun c=>Q1 u.ext (h.funs c),fun c=>nc (h.fo c) (h.funs c) u⟩
theorem Look.up{Y:Yc}{x:Str}{v:Value}(h:Look Y s.heap x v)(u:Up F s G s'):Look Y s'.heap x v:=by
 rcases h with⟨k,m,n,e⟩|⟨k,c,e,z⟩
 .exact .inl ⟨k,m,n.keeps u.ext,e⟩
 .exact .inr ⟨k,c,e,z.keeps u.ext⟩
theorem At.up{Y:Yc}{N:Str->Nat->Prop}{r:Ev.Env}(h:At Y N r F s)(u:Up F s G s'):At Y N r G s':=⟨h.toSt.up u,h.ok,h.ok.im u.ff h.inv,fun x i t n e=>by obtain⟨v,l,q⟩:=h.get x i t n e;exact⟨v,l.up u,q.mono u.ff⟩⟩
end
section
variable {Y:Yc}{N:Str->Nat->Prop}{F G:Fz}{s s1:Shared}{r:Ev.Env}{E:Value->Shared->Prop}{a b e:Expr}{f g h:Ev.Env->a7 T}{pos:Pos}
def Oke(Y:Yc)(N:Str->Nat->Prop)(e:Expr)(f:Ev.Env->a7 T):Prop :=
 ∀{s F r t E},At Y N r F s->f r=some t->wpAny Y.M Y.A (eval e Y.env) (Res Y.w F s t) E s
def Oks(Y:Yc)(N:Str->Nat->Prop)(es:List Expr)(f:Ev.Env->a7 (List T)):Prop :=
 ∀{s F r ts E}(pos:Pos),At Y N r F s->f r=some ts->wpAny Y.M Y.A (spliced (backTo pos (starEach es Y.env))) (fun us s'=>∃G,Up F s G s'/\Reps Y.w G ts us) E s
def Op2(Y:Yc)(o:Value->Value->Sem Value)(g:T->T->a7 T):Prop :=
 ∀{s F x y t u v E},St Y.toPc Y.A Y.stack F s->Rep Y.w F x u->Rep Y.w F y v->g x y=some t->wpAny Y.M Y.A (o u v) (Res Y.w F s t) E s
theorem thn{α:Type}{t:Sem α}{Q Q':α->Shared->Prop}{M:Model}{A:Around}(h:wpAny M A t Q E s)(hQ:∀a s,Q a s->Q' a s):wpAny M A t Q' E s:=Eh h hQ fun _ _ x=>x
theorem Res.mk(u:Up F s G s1)(h:∃G2,Up G s1 G2 s2/\Rep Y.w G2 t v):Res Y.w F s t v s2:=let⟨G2,u2,q⟩:=h;⟨G2,u.trans u2,q⟩
theorem Ez(h:F.In s.heap)(q:Rep Y.w F t v):Res Y.w F s t v {s with toks:=k}:=⟨F,Up.tok h,q⟩
theorem Ej(h:F.In s.heap)(q:Rep Y.w F t v):Res Y.w F s t v s:=Ez (k:=s.toks) h q
theorem Wh(hN:N x i)(hd:(x==("__debug__":Str))=false)(hc:(x==("__classdict__":Str))=false):Oke Y N (.Name x pos) fun r=>(r[i]?).join:=fun{s F r t E}A h=>by
 obtain⟨u,l,q⟩:=A.get x i t hN (by cases e:r[i]?<;>simp_all);have fin:=Ej A.fh q;rcases l with⟨k,m,n,e⟩|⟨k|k,c,e,z⟩
 .exact wpAny_Name (wpAny_loadName_local A.ok.kind k n e fin) hd
 .exact wpAny_Name (wpAny_loadName_cell A.ok.kind k e z fin) hd
 .exact wpAny_Name (wpAny_loadName_free A.ok.kind k e z fin hc) hd
theorem Q0:Oke Y N (.Constant (.int i) j pos) fun _=>some (.int i):=fun A h=>by cases h;exact wpAny_Constant_int (Ez A.fh ⟨_,rfl⟩)
theorem N4:Oke Y N (.Constant (.str x) j pos) fun _=>some (.str x):=fun A h=>by cases h;exact Calls.Constant_str (Ez A.fh ⟨_,rfl⟩)
theorem U5{b:Bool}:Oke Y N (.Constant (.bool b) j pos) fun _=>some (.bl b):=fun A h=>by cases h;exact Constant_bool (Ej A.fh rfl)
theorem l7:Oke Y N (.Constant .none j pos) fun _=>some .non:=fun A h=>by cases h;exact Constant_none (Ej A.fh rfl)
theorem two{R:T->T->a7 T}{o:Value->Value->Sem Value}(ha:Oke Y N a f)(hb:Oke Y N b g)(A:At Y N r F s)(e:((f r).bind fun x=>(g r).bind fun y=>R x y)=some t)(ho:Op2 Y o R):wpAny Y.M Y.A (eval a Y.env) (fun v s1=>wpAny Y.M Y.A (eval b Y.env) (fun u s2=>wpAny Y.M Y.A (o v u) (Res Y.w F s t) E s2) E s1) E s:=by
 obtain⟨x,e1,e⟩:=obs e;obtain⟨y,e2,e⟩:=obs e;refine thn (ha A e1) fun v s1 ⟨G,u1,q1⟩=>thn (hb (A.up u1) e2) fun u s2 ⟨G2,u2,q2⟩=>thn (ho ((A.up u1).up u2).toSt (q1.mono u2.ff) q2 e) fun w s3 z=>Res.mk (u1.trans u2) z
theorem Z0(ho:Op2 Y (binaryOp op) R)(ha:Oke Y N a f)(hb:Oke Y N b g):Oke Y N (.BinOp a op b pos) fun r=>(f r).bind fun x=>(g r).bind fun y=>R x y:=fun A e=>wpAny_BinOp (two ha hb A e ho)
theorem lh(ho:Op2 Y (compareOp op) R)(ha:Oke Y N a f)(hb:Oke Y N b g)(hm:behindInMarks op b=false):Oke Y N (.Compare a [op] [b] pos) fun r=>(f r).bind fun x=>(g r).bind fun y=>R x y:=fun A e=>wpAny_Compare1 (two ha hb A e ho) hm
theorem Li:Oks Y N [] fun _=>some []:=fun _ A h=>by cases h;exact Calls.spliced_nil ⟨_,Up.tok A.fh,rfl⟩
theorem Hs{f:Ev.Env->a7 T}{g:Ev.Env->a7 (List T)}(ha:Oke Y N e f)(hr:Oks Y N es g)(hs:starEach (e::es) Y.env=(false,eval e Y.env)::starEach es Y.env):Oks Y N (e::es) fun r=>(f r).bind fun x=>(g r).bind fun xs=>some (x::xs):=fun pos A h=>by
 obtain⟨x,e1,h⟩:=obs h;obtain⟨xs,e2,h⟩:=obs h;cases h;rw[hs];exact Calls.spliced_cons (thn (ha A e1) fun u s1 ⟨G,u1,q1⟩=>thn (hr pos (A.up u1) e2) fun us s2 ⟨G2,u2,q2⟩=>⟨G2,u1.trans u2,.cons (q1.mono u2.ff) q2⟩)
theorem cY{t:T}{o:Obj}(h:F.In s.heap)(hf:o.isFreed=false)(q:Rep Y.w (fup F s.heap.objs.size o) t (.ref s.heap.objs.size)):Res Y.w F s t (.ref s.heap.objs.size) {s with heap:=s.heap.push o,toks:=k}:=⟨_,Up.push h hf,q⟩
theorem Reps.laid{o:Obj}(h:F.In s.heap)(q:Reps Y.w F ts us):Reps Y.w (fup F s.heap.objs.size o) ts us:=q.mono (F9 (h.none Bs))
theorem Q7(h:F.In s.heap)(q:Reps Y.w F ts us)(z:us.length<=sizeLine):Res Y.w F s (.tup ts) (.ref s.heap.objs.size) {s with heap:=s.heap.push {cls:=.type "tuple",data:=.seq us.toArray},toks:=k} :=
 cY h rfl ⟨_,_,us.toArray,0,rfl,Fq,rfl,rfl,by simpa using z,by simpa using q.laid h⟩
theorem R2(h:F.In s.heap)(q:Reps Y.w F ts us)(z:us.length<=sizeLine):Res Y.w F s (.lst ts) (.ref s.heap.objs.size) {s with heap:=s.heap.push {cls:=.type "list",data:=.seq us.toArray},toks:=k} :=
 cY h rfl ⟨_,us.toArray,0,rfl,Fq,by simpa using z,by simpa using q.laid h⟩
theorem Yn(h:n<=1000):n<=sizeLine:=Cr h (by rw[Ew];decide)
theorem Yu{ob:List Value->Obj}{mk:List T->T}{e:Expr}{f:Ev.Env->a7 (List T)}(hl:∀{r ts},f r=some ts->ts.length=n)(rule:∀{Q:Value->Shared->Prop}{E s},wpAny Y.M Y.A (spliced (backTo pos (starEach es Y.env))) (fun vs s1=>vs.length<=sizeLine/\Q (.ref s1.heap.objs.size) {s1 with heap:=s1.heap.push (ob vs)}) E s->wpAny Y.M Y.A (eval e Y.env) Q E s)(laid:∀{F s ts us},F.In s.heap->Reps Y.w F ts us->us.length<=sizeLine->Res Y.w F s (mk ts) (.ref s.heap.objs.size) {s with heap:=s.heap.push (ob us)})(h:Oks Y N es f):Oke Y N e fun r=>if n<=1000 then(f r).map mk else none:=fun A q=>by
 split at q
 .rename_i z;obtain⟨ts,e,rfl⟩:=oms q;refine rule (thn (h pos A e) fun us s1 ⟨G,u,q⟩=>?_);have z:us.length<=sizeLine:=Yn (by rw[q.length,hl e];exact z);exact⟨z,Res.mk u (laid u.fh q z)⟩
 .cases q
theorem aU{x1}{f:Ev.Env->a7 (List T)}(hl:∀{r ts},f r=some ts->ts.length=n)(h:Oks Y N es f):Oke Y N (.Tuple es x1 pos) fun r=>if n<=1000 then(f r).map .tup else none :=
 Yu hl wpAny_Tuple_spliced Q7 h
theorem bI{f:Ev.Env->a7 (List T)}(hl:∀{r ts},f r=some ts->ts.length=n)(h:Oks Y N es f):Oke Y N (.List es pos) fun r=>if n<=1000 then(f r).map .lst else none :=
 Yu hl wpAny_List_spliced R2 h
theorem eU:Op2 Y (binaryOp .Sub) Ou:=fun{s F x y t u v E}S hx hy h=>by
 cases x with
 |int i=>cases y with
  |int j=>cases h;obtain⟨_,rfl⟩:=hx;obtain⟨_,rfl⟩:=hy;exact sub_int (Ez S.fh ⟨_,rfl⟩)
  |_=>cases h
 |_=>cases h
end
section
variable {w:World}{F:Fz}{s:Shared}{t1 t2:T}{u v:Value}{A:Around}
mutual
theorem Yl:∀t:T,Bc t t<20000->eqT t t=true
 |.non,_=>by rw[Ev.eqT]
 |.bl b,_=>by rw[Ev.eqT];simp
 |.int i,_=>by rw[Ev.eqT];simp
 |.str x,_=>by rw[Ev.eqT];simp
 |.tup a,h=>by rw[Ev.eqT];rw[Bc]at h;exact Ut a (by lia)
 |.lst a,h=>by rw[Ev.eqT];rw[Bc]at h;exact Ut a (by lia)
 |.dic _ _,h=>by rw[Bc]at h;lia
 |.adr _,h=>by rw[Bc]at h;lia
theorem Ut:∀ts:List T,Cz ts ts<20000->eqTs ts ts=true
 |[],_=>by rw[Ev.eqTs]
 |t::ts,h=>by rw[Cz]at h;rw[Ev.eqTs,Yl t (by lia),Ut ts (by lia)];rfl
end
theorem Yo:∀{xs ys:List T}{j:Nat}{x y:T},xs[j]?=some x->ys[j]?=some y->Bc x y<=Cz xs ys
 |[],_,_,_,_,h,_=>by simp at h
 |_::_,[],_,_,_,_,h=>by simp at h
 |a::xs,b::ys,0,x,y,h1,h2=>by simp at h1 h2;subst h1 h2;rw[Cz];exact Nat.le_max_left _ _
 |a::xs,b::ys,j+1,x,y,h1,h2=>by rw[Cz];exact Nat.le_trans (Yo (j:=j) (by simpa using h1) (by simpa using h2)) (Nat.le_max_right _ _)
theorem P7:∀xs ys:List T,eqTs xs ys=((List.range (min xs.length ys.length)).all (fun j=>eqT (xs.getD j .non) (ys.getD j .non))&&xs.length==ys.length)
 |[],[]=>by rw[Ev.eqTs];rfl
 |[],b::ys=>by simp[eqTs]
 |a::xs,[]=>by simp[eqTs]
 |a::xs,b::ys=>by
  rw[Ev.eqTs,P7 xs ys,Eb,Eb,show min (xs.length+1) (ys.length+1)=min xs.length ys.length+1 by lia,List.range_succ_eq_map,List.all_cons,List.all_map];have e:(xs.length+1==ys.length+1)=(xs.length==ys.length):=by
   by_cases h:xs.length=ys.length
   .simp[h]
   .simp[]
  rw[e,Bool.and_assoc];rfl
inductive Kd(w:World)(F:Fz)(s:Shared):T->Value->Prop
 |non:Kd w F s .non .none
 |bl b:Kd w F s (.bl b) (.bool b)
 |int i k:Kd w F s (.int i) (.int i k)
 |str i k:Kd w F s (.str i) (.str i k)
 |tup ts a qc:s.heap.IsTuple a qc->Reps w F ts qc.toList->Kd w F s (.tup ts) (.ref a)
 |lst ts a qc:s.heap.IsList a qc->Reps w F ts qc.toList->Kd w F s (.lst ts) (.ref a)
 |dic ks vs a:Kd w F s (.dic ks vs) (.ref a)
 |adr a:Kd w F s (.adr a) (.ref a)
theorem Rep.kd(h:F.In s.heap):∀{t u},Rep w F t u->Kd w F s t u
 |.non,_,r=>by cases r;exact .non
 |.bl _,_,r=>by cases r;exact .bl _
 |.int _,_,⟨_,e⟩=>by subst e;exact .int _ _
 |.str _,_,⟨_,e⟩=>by subst e;exact .str _ _
 |.tup _,_,⟨a,o,qc,n,e,f,c,d,_,r⟩=>by subst e;exact .tup _ _ qc ⟨o,h _ _ f,c,n,d⟩ r
 |.lst _,_,⟨a,qc,n,e,f,_,r⟩=>by subst e;exact .lst _ _ qc ⟨_,h _ _ f,rfl,n,rfl⟩ r
 |.dic _ _,_,⟨a,o,es,ep,e,_⟩=>by subst e;exact .dic _ _ _
 |.adr _,_,⟨e,_⟩=>by subst e;exact .adr _
theorem tl:(Value.type "tuple")≠.type "list":=by decide +kernel
theorem td:(Value.type "tuple")≠.type "dict":=by decide +kernel
theorem ld:(Value.type "list")≠.type "dict":=by decide +kernel
mutual
theorem Rep.inj:∀{t1 t2:T}{u:Value},Rep w F t1 u->Rep w F t2 u->t1=t2
 |.non,t2,u,r1,r2=>by cases r1;cases t2<;>first|rfl|(cases r2;done)|(obtain⟨_,e⟩:=r2;cases e;done)|(obtain⟨_,_,_,_,e,_⟩:=r2;cases e)|(obtain⟨_,_,_,e,_⟩:=r2;cases e)|(obtain⟨e,_⟩:=r2;cases e)
 |.bl b,t2,u,r1,r2=>by cases r1;cases t2<;>first|(cases r2;first|rfl|done)|(obtain⟨_,e⟩:=r2;cases e;done)|(obtain⟨_,_,_,_,e,_⟩:=r2;cases e)|(obtain⟨_,_,_,e,_⟩:=r2;cases e)|(obtain⟨e,_⟩:=r2;cases e)
 |.int b,t2,u,⟨_,r1⟩,r2=>by subst r1;cases t2<;>first|(cases r2;done)|(obtain⟨_,e⟩:=r2;cases e;first|rfl|done)|(obtain⟨_,_,_,_,e,_⟩:=r2;cases e)|(obtain⟨_,_,_,e,_⟩:=r2;cases e)|(obtain⟨e,_⟩:=r2;cases e)
 |.str b,t2,u,⟨_,r1⟩,r2=>by subst r1;cases t2<;>first|(cases r2;done)|(obtain⟨_,e⟩:=r2;cases e;first|rfl|done)|(obtain⟨_,_,_,_,e,_⟩:=r2;cases e)|(obtain⟨_,_,_,e,_⟩:=r2;cases e)|(obtain⟨e,_⟩:=r2;cases e)
 |.tup ts,t2,u,⟨a,o,qc,n,e,f,c,d,_,r⟩,r2=>by
  subst e;cases t2 with
  |tup us=>obtain⟨a',o',its',n',e,f',c',d',_,r'⟩:=r2;cases e;rw[f]at f';cases f';rw[d]at d';cases d';rw[r.inj r']
  |lst us=>obtain⟨a',its',n',e,f',_⟩:=r2;cases e;rw[f]at f';cases f';exact absurd c.symm tl
  |dic ks vs=>obtain⟨a',o',es,ep,e,f',_,d',_⟩:=r2;cases e;rw[f]at f';cases f';exact absurd (c.symm.trans d'.ex.1) td
  |adr a=>obtain⟨e,o',f',d',_⟩:=r2;cases e;rw[f]at f';cases f';exact absurd d (d' _ _)
  |_=>first|(cases r2;done)|(obtain⟨_,e⟩:=r2;cases e)
 |.lst ts,t2,u,⟨a,qc,n,e,f,_,r⟩,r2=>by
  subst e;cases t2 with
  |lst us=>obtain⟨a',its',n',e,f',_,r'⟩:=r2;cases e;rw[f]at f';cases f';rw[r.inj r']
  |tup us=>obtain⟨a',o',its',n',e,f',c',d',_⟩:=r2;cases e;rw[f]at f';cases f';exact absurd c'.symm tl
  |dic ks vs=>obtain⟨a',o',es,ep,e,f',_,d',_⟩:=r2;cases e;rw[f]at f';cases f';exact absurd d'.ex.1 ld
  |adr a=>obtain⟨e,o',f',d',_⟩:=r2;cases e;rw[f]at f';cases f';exact absurd rfl (d' _ _)
  |_=>first|(cases r2;done)|(obtain⟨_,e⟩:=r2;cases e)
 |.dic ks vs,t2,u,⟨a,o,es,ep,e,f,_,d,r,q⟩,r2=>by
  subst e;cases t2 with
  |dic ks' vs'=>obtain⟨a',o',es',ep',e,f',_,d',r',q'⟩:=r2;cases e;rw[f]at f';cases f';have:=d.dt.symm.trans d'.dt;cases this;rw[r.inj r',q.inj q']
  |tup us=>obtain⟨a',o',its',n',e,f',c',d',_⟩:=r2;cases e;rw[f]at f';cases f';exact absurd (c'.symm.trans d.ex.1) td
  |lst us=>obtain⟨a',its',n',e,f',_⟩:=r2;cases e;rw[f]at f';cases f';exact absurd d.ex.1 ld
  |adr a=>obtain⟨e,o',f',_,d',_⟩:=r2;cases e;rw[f]at f';cases f';exact absurd d.dt (d' _ _)
  |_=>first|(cases r2;done)|(obtain⟨_,e⟩:=r2;cases e)
 |.adr a,t2,u,⟨e,o,f,d1,d2,_⟩,r2=>by
  subst e;cases t2 with
  |tup us=>obtain⟨a',o',its',n',e,f',c',d',_⟩:=r2;cases e;rw[f]at f';cases f';exact absurd d' (d1 _ _)
  |lst us=>obtain⟨a',its',n',e,f',_⟩:=r2;cases e;rw[f]at f';cases f';exact absurd rfl (d1 _ _)
  |dic ks' vs'=>obtain⟨a',o',es',ep',e,f',_,d',_⟩:=r2;cases e;rw[f]at f';cases f';exact absurd d'.dt (d2 _ _)
  |adr b=>obtain⟨e,_⟩:=r2;cases e;rfl
  |_=>first|(cases r2;done)|(obtain⟨_,e⟩:=r2;cases e)
theorem Reps.inj:∀{ts us:List T}{vs:List Value},Reps w F ts vs->Reps w F us vs->ts=us
 |[],us,vs,r1,r2=>by
  cases r1;cases us with
  |nil=>rfl
  |cons _ _=>obtain⟨_,_,e,_⟩:=r2;cases e
 |t::ts,us,vs,⟨u,r,e,h1,h2⟩,r2=>by
  subst e;cases us with
  |nil=>cases r2
  |cons _ _=>obtain⟨_,_,e,h3,h4⟩:=r2;cases e;rw[h1.inj h3,h2.inj h4]
end
def M8:T->T->Bool
 |.tup _,.tup _=>true
 |.lst _,.lst _=>true
 |.dic _ _,_=>true
 |_,.dic _ _=>true
 |.adr _,_=>true
 |_,.adr _=>true
 |_,_=>false
theorem via{P:Bool->Prop}{b b':Bool}(h:P b)(e:b=b'):P b':=e▸h
open SeqAt.EqAt in
theorem Xh(hu:A.units<cLine)(hb:M8 t1 t2≠true)(r1:Kd w F s t1 v)(r2:Kd w F s t2 u):SeqAt.EqAt A s v u (eqT t1 t2):=by
 cases r1<;>cases r2<;>first
  |exact absurd rfl hb
  |(apply via (P:=SeqAt.EqAt A s _ _);(with_reducible first|exact same .none|exact none_bool _|exact none_int _ _|exact none_str _ _|exact none_tuple ‹_› hu|exact none_list ‹_› hu|exact bool_none _|exact bool_bool _ _|exact bool_int _ _ _|exact bool_str _ _ _|exact bool_tuple _ ‹_› hu|exact bool_list _ ‹_› hu|exact int_none _ _|exact int_bool _ _ _|exact int_int _ _ _ _|exact int_str _ _ _ _|exact int_tuple _ _ ‹_› hu|exact int_list _ _ ‹_› hu|exact str_none _ _|exact str_bool _ _ _|exact str_int _ _ _ _|exact str_str _ _ _ _|exact str_tuple _ _ ‹_› hu|exact str_list _ _ ‹_› hu|exact tuple_none ‹_› hu|exact tuple_bool _ ‹_› hu|exact tuple_int _ _ ‹_› hu|exact tuple_str _ _ ‹_› hu|exact tuple_list ‹_› ‹_› hu|exact list_none ‹_› hu|exact list_bool _ ‹_› hu|exact list_int _ _ ‹_› hu|exact list_str _ _ ‹_› hu|exact list_tuple ‹_› ‹_› hu);rfl)
open SeqAt.RcAt in
theorem gV(hu:A.units<cLine)(hb:M8 t1 t2≠true)(r1:Kd w F s t1 v)(r2:Kd w F s t2 u):SeqAt.RcAt A s v u (eqT t1 t2):=by
 cases r1<;>cases r2<;>first
  |exact absurd rfl hb
  |(apply via (P:=SeqAt.RcAt A s _ _);(with_reducible first|exact none_none|exact none_bool _|exact none_int _ _|exact none_str _ _|exact none_tuple ‹_› hu|exact none_list ‹_› hu|exact bool_none _|exact bool_bool _ _|exact bool_int _ _ _|exact bool_str _ _ _|exact bool_tuple _ ‹_› hu|exact bool_list _ ‹_› hu|exact int_none _ _|exact int_bool _ _ _|exact int_int _ _ _ _|exact int_str _ _ _ _|exact int_tuple _ _ ‹_› hu|exact int_list _ _ ‹_› hu|exact str_none _ _|exact str_bool _ _ _|exact str_int _ _ _ _|exact str_str _ _ _ _|exact str_tuple _ _ ‹_› hu|exact str_list _ _ ‹_› hu|exact tuple_none ‹_› hu|exact tuple_bool _ ‹_› hu|exact tuple_int _ _ ‹_› hu|exact tuple_str _ _ ‹_› hu|exact tuple_list ‹_› ‹_› hu|exact list_none ‹_› hu|exact list_bool _ ‹_› hu|exact list_int _ _ ‹_› hu|exact list_str _ _ ‹_› hu|exact list_tuple ‹_› ‹_› hu);rfl)
open SeqAt.RcNeAt in
theorem iU(hu:A.units<cLine)(hb:M8 t1 t2≠true)(r1:Kd w F s t1 v)(r2:Kd w F s t2 u):SeqAt.RcNeAt A s v u (!eqT t1 t2):=by
 cases r1<;>cases r2<;>first
  |exact absurd rfl hb
  |(apply via (P:=SeqAt.RcNeAt A s _ _);(with_reducible first|exact none_none|exact none_bool _|exact none_int _ _|exact none_str _ _|exact none_tuple ‹_› hu|exact none_list ‹_› hu|exact bool_none _|exact bool_bool _ _|exact bool_int _ _ _|exact bool_str _ _ _|exact bool_tuple _ ‹_› hu|exact bool_list _ ‹_› hu|exact int_none _ _|exact int_bool _ _ _|exact int_int _ _ _ _|exact int_str _ _ _ _|exact int_tuple _ _ ‹_› hu|exact int_list _ _ ‹_› hu|exact str_none _ _|exact str_bool _ _ _|exact str_int _ _ _ _|exact str_str _ _ _ _|exact str_tuple _ _ ‹_› hu|exact str_list _ _ ‹_› hu|exact tuple_none ‹_› hu|exact tuple_bool _ ‹_› hu|exact tuple_int _ _ ‹_› hu|exact tuple_str _ _ ‹_› hu|exact tuple_list ‹_› ‹_› hu|exact list_none ‹_› hu|exact list_bool _ ‹_› hu|exact list_int _ _ ‹_› hu|exact list_str _ _ ‹_› hu|exact list_tuple ‹_› ‹_› hu);rfl)
end
section
variable {V:List Value->Prop}{p:Addr×a7 Obj}
variable {Y:Yc}{N:List Str}{F0 F G:Fz}{s0 s s1 s':Shared}{τ:List Sl}{ad:Nat->List Addr}{x y:Str}{i j:Nat}{a:Addr}{d:List Addr}{t:T}{u:Value}{ts:List T}{w:World}{h h':Heap}{sl:Sl}
def Loc(sc:Scope)(x:Str):Prop:=sc.names.lookup x=some .local\/sc.names.lookup x=some .cell
def OwnL(w:World)(F:Fz)(h:Heap)(a:Addr)(ts:List T):Prop:=∃qc n,h.get? a=some {cls:=.type "list",data:=.seq qc n}/\qc.size<=sizeLine/\Reps w F ts qc.toList
def OwnD(w:World)(F:Fz)(h:Heap)(a:Addr)(ks:List T)(V:List Value->Prop):Prop:=∃o es ep,h.get? a=some o/\(a==sysModules)=false/\Ll w ks o es ep/\Reps w F ks (es.toList.map (·.key))/\V (es.toList.map (·.val))
def Alls{α:Type}(R:Addr->α->Prop):List Addr->List α->Prop
 |[],xs=>xs=[]
 |a::as,xs=>∃x r,xs=x::r/\R a x/\Alls R as r
theorem Alls.to{α:Type}{R S:Addr->α->Prop}:∀{as:List Addr}{xs:List α},Alls R as xs->(∀a∈as,∀x,R a x->S a x)->Alls S as xs
 |[],_,h,_=>h
 |a::as,_,⟨x,r,e,h1,h2⟩,q=>⟨x,r,e,q a (.head _) x h1,h2.to fun b hb=>q b (.tail _ hb)⟩
def OwnOk(w:World)(F:Fz)(h:Heap):List Addr->Sl->Prop
 |a::as,.own ts=>as=[]/\OwnL w F h a ts
 |a::as,.dic ks vs=>as=[]/\OwnD w F h a ks (Reps w F vs)
 |a::as,.dl ks vs=>OwnD w F h a ks (·=as.map .ref)/\Alls (OwnL w F h) as vs/\(a::as).Nodup
 |a::as,.dd ks vs=>OwnD w F h a ks (·=as.map .ref)/\Alls (fun b p=>OwnD w F h b p.1 (Reps w F p.2)) as vs/\(a::as).Nodup
 |_,_=>False
theorem OwnL.to(q:OwnL w F h a ts)(k:∀o,h.get? a=some o->h'.get? a=some o)(le:F.le G):OwnL w G h' a ts:=let⟨qc,n,h1,h2,h3⟩:=q;⟨qc,n,k _ h1,h2,h3.mono le⟩
theorem OwnD.to{ks:List T}{V':List Value->Prop}(q:OwnD w F h a ks V)(k:∀o,h.get? a=some o->h'.get? a=some o)(le:F.le G)(hv:∀l,V l->V' l):OwnD w G h' a ks V':=let⟨o,es,ep,h1,h2,h3,h4,h5⟩:=q;⟨o,es,ep,k _ h1,h2,h3,h4.mono le,hv _ h5⟩
theorem OwnOk.to(q:OwnOk w F h d sl)(k:∀a∈d,∀o,h.get? a=some o->h'.get? a=some o)(le:F.le G):OwnOk w G h' d sl:=by
 cases d with
 |nil=>cases sl<;>exact q
 |cons a as=>
  have k0:=k a (.head _);cases sl with
  |own ts=>exact⟨q.1,q.2.to k0 le⟩
  |dic ks vs=>exact⟨q.1,q.2.to k0 le fun l h=>h.mono le⟩
  |dl ks vs=>exact⟨q.1.to k0 le fun l h=>h,q.2.1.to fun b hb x h=>h.to (k b (.tail _ hb)) le,q.2.2⟩
  |dd ks vs=>exact⟨q.1.to k0 le fun l h=>h,q.2.1.to fun b hb x h=>h.to (k b (.tail _ hb)) le fun l h=>h.mono le,q.2.2⟩
  |_=>exact q.elim
def SlOk(Y:Yc)(F:Fz)(s:Shared)(x:Str)(d:List Addr):Sl->Prop
 |.no=>True
 |.val t=>∃u,Look Y s.heap x u/\Rep Y.w F t u
 |sl=>(∃a,d.head?=some a/\Look Y s.heap x (.ref a))/\OwnOk Y.w F s.heap d sl
theorem SlOk.to(q:SlOk Y F s x d sl)(lk:∀u,Look Y s.heap x u->Look Y s'.heap x u)(k:∀a∈d,∀o,s.heap.get? a=some o->s'.heap.get? a=some o)(le:F.le G):SlOk Y G s' x d sl:=by
 cases sl with
 |no=>trivial
 |val t=>obtain⟨v,l,q⟩:=q;exact⟨v,lk v l,q.mono le⟩
 |_=>obtain⟨⟨a,e,l⟩,q⟩:=q;exact⟨⟨a,e,lk _ l⟩,q.to k le⟩
def Gh:Str:="law.<locals>.<lambda>"
def Ow(F:Fz)(h:Heap)(p:Addr):Prop:=∃vs:Array Value,h.get? p=some (W.tabObj vs)/\TriplesOk vs.toList/\∀pos cv,codeAmong pos vs.toList=some cv->∃cd oc ws t,cv=.ref cd/\F cd=some oc/\oc.data=.fields ws/\ws[1]?=some (.str Gh t)
def PinOk(F:Fz)(h:Heap)(p:Addr×a7 Obj):Prop:=match p.2 with
 |some o=>h.get? p.1=some o
 |none=>Ow F h p.1
theorem PinOk.ex(q:PinOk F h p):∃o,h.get? p.1=some o:=by
 obtain⟨a,o⟩:=p;cases o with
 |some o=>exact⟨o,q⟩
 |none=>obtain⟨vs,e,_⟩:=q;exact⟨_,e⟩
theorem PinOk.to(q:PinOk F h p)(le:F.le G)(k:∀o,h.get? p.1=some o->h'.get? p.1=some o):PinOk G h' p:=by
 obtain⟨a,o⟩:=p;cases o with
 |some o=>exact k _ q
 |none=>obtain⟨vs,e,t,c⟩:=q;exact⟨vs,k _ e,t,fun pos cv z=>let⟨cd,oc,ws,t,e1,e2,e3⟩:=c pos cv z;⟨cd,oc,ws,t,e1,le _ _ e2,e3⟩⟩
structure Fs(Y:Yc)(N:List Str)(F0:Fz)(s0:Shared):Prop where
 ok:Y.Ok
 it:Y.I F0
 st:∀{F s},Up F0 s0 F s->(F Y.env.locals=none/\∃m,s.heap.Ns Y.env.locals m)->St Y.toPc Y.A Y.stack F s
 lab:s0.heap.get? Y.env.locals=none
 cab:∀x∈N,∀c,Y.env.cells.lookup x=some c->s0.heap.get? c=none
 cin:∀x∈N,∀y∈N,∀c,Y.env.cells.lookup x=some c->Y.env.cells.lookup y=some c->x=y
 nd:N.Nodup
structure Mine(Y:Yc)(N:List Str)(s0:Shared)(F:Fz)(a:Addr):Prop where
 z:s0.heap.get? a=none
 f:F a=none
 l:a≠Y.env.locals
 c:∀x∈N,∀c,Y.env.cells.lookup x=some c->c≠a
structure Fr(Y:Yc)(N:List Str)(F0:Fz)(s0:Shared)(pn:List (Addr×Option Obj))(ad:Nat->List Addr)(τ:List Sl)(F:Fz)(s:Shared):Prop extends Fs Y N F0 s0 where
 up:Up F0 s0 F s
 len:τ.length=N.length
 ns:F Y.env.locals=none/\∃m,s.heap.Ns Y.env.locals m
 cell:∀x∈N,∀c,Y.env.cells.lookup x=some c->F c=none/\∃v,s.heap.IsCell c v
 own:∀i,∀a∈ad i,Mine Y N s0 F a/\∃o,s.heap.get? a=some o
 pin:∀p∈pn,Mine Y N s0 F p.1/\(PinOk F s.heap p/\∀q∈pn,q.1=p.1->q.2.isNone=p.2.isNone)/\∀i,p.1∉ad i
 inj:∀i j a,a∈ad i->a∈ad j->i=j
 slot:∀i x sl,N[i]?=some x->τ[i]?=some sl->SlOk Y F s x (ad i) sl
variable {pn:List (Addr×a7 Obj)}
theorem Fr.toSt(h:Fr Y N F0 s0 pn ad τ F s):St Y.toPc Y.A Y.stack F s:=h.st h.up h.ns
theorem Heap.Ns.has{h:Heap}{m:Str->a7 Value}(x:h.Ns a m):∃o,h.get? a=some o:=let⟨o,_,_,e,_⟩:=x;⟨o,e⟩
theorem Up.back(u:Up F s G s')(f:Fz.le F' F):Up F' s F' s':=⟨u.ext,u.os,u.bare,fun _ _ e=>e,fun b o e=>u.fh b o (u.ff b o (f b o e)),fun _ z=>.inl z⟩
structure UpX(fp:List Addr)(F:Fz)(s:Shared)(G:Fz)(s':Shared):Prop where
 ext:∀b o,b∉fp->s.heap.get? b=some o->s'.heap.get? b=some o
 os:s'.os=s.os
 bare:AllBare s.gens->AllBare s'.gens
 ff:F.le G
 fh:G.In s'.heap
 nw:∀b,G b≠none->F b≠none\/s.heap.get? b=none
 fn:∀b∈fp,G b=none
structure Off(Y:Yc)(N:List Str)(s0:Shared)(pn:List (Addr×Option Obj))(ad:Nat->List Addr)(b:Addr):Prop where
 z:s0.heap.get? b=none
 l:b≠Y.env.locals
 c:∀x∈N,∀c,Y.env.cells.lookup x=some c->c≠b
 a:∀i,b∉ad i
 p:∀p∈pn,p.1≠b
theorem Fr.turned{fp:List Addr}(h:Fr Y N F0 s0 pn ad τ F s)(hf:∀b∈fp,Off Y N s0 pn ad b)(u:UpX fp F s G s'):Fr Y N F0 s0 pn ad τ G s':=by
 have nil:∀{b},F b=none->(∃o,s.heap.get? b=some o)->G b=none:=fun{b}e z=>by
  cases q:G b with
  |none=>rfl
  |some o=>
   rcases u.nw b (by rw[q];simp)with w|w
   .exact absurd e w
   .obtain⟨_,z⟩:=z;rw[w]at z;cases z
 have ol:Y.env.locals∉fp:=fun hb=>(hf _ hb).l rfl;have oc:∀{x c},x∈N->Y.env.cells.lookup x=some c->c∉fp:=fun hx e hb=>(hf _ hb).c _ hx _ e rfl;have lk:∀{x v},x∈N->Look Y s.heap x v->Look Y s'.heap x v:=fun hx q=>by
  rcases q with⟨k,m,n,e⟩|⟨k,c,e,o,z,w⟩
  .exact .inl ⟨k,m,n.at fun o q=>u.ext _ o ol q,e⟩
  .exact .inr ⟨k,c,e,o,u.ext _ o (oc hx e) z,w⟩
 obtain⟨n2,m,n3⟩:=h.ns;refine⟨h.toFs,⟨fun b o e=>u.ext b o (fun hb=>by have:=(hf b hb).z;rw[e]at this;cases this) (h.up.ext b o e),u.os.trans h.up.os,fun e=>u.bare (h.up.bare e),fun b o e=>u.ff b o (h.up.ff b o e),u.fh,fun b e=>(u.nw b e).elim (h.up.nw b) fun z=>.inr (h.up.old z)⟩,
  h.len,⟨nil n2 (Heap.Ns.has n3),m,n3.at fun o q=>u.ext _ o ol q⟩,fun x hx c e=>?_,fun i a e=>?_,fun p hp=>?_,h.inj,fun i x sl e1 e2=>(h.slot i x sl e1 e2).to (fun _=>lk (Ee e1)) (fun a ha o q=>u.ext _ o (fun hb=>(hf _ hb).a i ha) q) u.ff⟩
 .obtain⟨c2,v,o,c3,c4⟩:=h.cell x hx c e;exact⟨nil c2 ⟨_,c3⟩,v,o,u.ext _ _ (oc hx e) c3,c4⟩
 .obtain⟨a1,a2⟩:=h.own i a e;exact⟨{a1 with f:=nil a1.f a2},a2.imp fun o q=>u.ext _ o (fun hb=>(hf _ hb).a i e) q⟩
 .obtain⟨p1,p2,p3⟩:=h.pin p hp;exact⟨{p1 with f:=nil p1.f p2.1.ex},⟨p2.1.to u.ff fun o=>u.ext _ o (fun hb=>(hf _ hb).p p hp rfl),p2.2⟩,p3⟩
theorem Fr.after(h:Fr Y N F0 s0 pn ad τ F s)(u:Up F s G s'):Fr Y N F0 s0 pn ad τ G s' :=
 h.turned (fp:=[]) (fun _ z=>nomatch z) ⟨fun b o _ e=>u.ext b o e,u.os,u.bare,u.ff,u.fh,u.nw,fun _ z=>nomatch z⟩
def grow(F:Fz)(h:Heap)(d:List Addr):Fz:=fun b=>if b∈d then h.get? b else F b
theorem dR(hd:∀a∈d,F a=none):F.le (grow F h d):=fun b o e=>by unfold grow;rw[if_neg fun z=>by rw[hd b z]at e;cases e];exact e
theorem jR(ha:a∈d):grow F h d a=h.get? a:=if_pos ha
theorem Fr.keep(h:Fr Y N F0 s0 pn ad τ F s)(hx:N[i]?=some x)(q:SlOk Y (grow F s.heap (ad i)) s x [] sl):F.le (grow F s.heap (ad i))/\Fr Y N F0 s0 pn (fun k=>if k=i then[]else ad k) (τ.set i sl) (grow F s.heap (ad i)) s:=by
 have le:=dR (h:=s.heap) fun a ha=>(h.own i a ha).1.f;have ne:∀{b:Addr},b∉ad i->F b=none->grow F s.heap (ad i) b=none:=fun hb q=>by unfold grow;rw[if_neg hb];exact q
 refine⟨le,h.toFs,{h.up with ff:=fun b v q=>le b v (h.up.ff b v q),fh:=fun b v q=>?_,nw:=fun b q=>?_},by rw[Of];exact h.len,⟨ne (fun z=>(h.own i _ z).1.l rfl) h.ns.1,h.ns.2⟩,fun x hx c e=>⟨ne (fun z=>(h.own i _ z).1.c _ hx _ e rfl) (h.cell x hx c e).1,(h.cell x hx c e).2⟩,fun k b e=>?_,fun p hp=>?_,fun k j b e1 e2=>?_,fun k y sl' e1 e2=>?_⟩
 .unfold grow at q;split at q
  .exact q
  .exact h.up.fh b v q
 .by_cases z:b∈ad i
  .exact .inr (h.own i b z).1.z
  .exact h.up.nw b fun w=>q (ne z w)
 .split at e
  .cases e
  .obtain⟨b1,b2⟩:=h.own k b e;exact⟨{b1 with f:=ne (fun z=>absurd (h.inj _ _ _ e z) (by assumption)) b1.f},b2⟩
 .obtain⟨p1,p2,p3⟩:=h.pin p hp;refine⟨{p1 with f:=ne (p3 i) p1.f},⟨p2.1.to le fun _ e=>e,p2.2⟩,fun k=>?_⟩;split
  .simp
  .exact p3 k
 .split at e1<;>split at e2<;>first|cases e1;done|cases e2;done|exact h.inj _ _ _ e1 e2
 .by_cases z:k=i
  .subst z;rw[hx]at e1;cases e1;rw[Ib (by rw[h.len];exact(ome hx).1)]at e2;cases e2;rw[if_pos rfl];exact q
  .rw[Jo (Ne.symm z)]at e2;rw[if_neg z];exact(h.slot k y sl' e1 e2).to (fun _ q=>q) (fun _ _ _ q=>q) le
theorem OwnL.frz(q:OwnL w F h a ts)(g:G a=h.get? a)(le:F.le G):Rep w G (.lst ts) (.ref a):=let⟨qc,n,h1,h2,h3⟩:=q;⟨a,qc,n,rfl,g.trans h1,h2,h3.mono le⟩
theorem OwnD.frz{ks vs:List T}(q:OwnD w F h a ks V)(g:G a=h.get? a)(le:F.le G)(hv:∀l,V l->Reps w G vs l):Rep w G (.dic ks vs) (.ref a):=let⟨o,es,ep,h1,h2,h3,h4,h5⟩:=q;⟨a,o,es,ep,rfl,g.trans h1,h2,h3,h4.mono le,hv _ h5⟩
theorem Alls.frz{α:Type}{R:Addr->α->Prop}{f:α->T}:∀{as:List Addr}{xs:List α},Alls R as xs->(∀a∈as,∀x,R a x->Rep w G (f x) (.ref a))->Reps w G (xs.map f) (as.map .ref)
 |[],_,h,_=>by cases h;rfl
 |a::as,_,⟨x,r,e,h1,h2⟩,q=>by subst e;exact .cons (q a (.head _) x h1) (h2.frz fun b hb=>q b (.tail _ hb))
theorem Fr.frz(h:Fr Y N F0 s0 pn ad τ F s)(hx:N[i]?=some x):∃G ad',F.le G/\Fr Y N F0 s0 pn ad' (τ.modify i Sl.frz) G s:=by
 have hl:i<τ.length:=by rw[h.len];exact(ome hx).1
 have e:τ[i]?=some τ[i]:=Dw hl;have em:τ.modify i Sl.frz=τ.set i τ[i].frz:=by rw[List.modify_eq_set,e];rfl
 rw[em];have w:=h.slot i x _ hx e;have le:=dR (h:=s.heap) fun a ha=>(h.own i a ha).1.f;have same:τ[i].frz=τ[i]->∃G ad',F.le G/\Fr Y N F0 s0 pn ad' (τ.set i τ[i].frz) G s:=fun z=>⟨F,ad,fun _ _ q=>q,by rw[z,List.set_getElem_self];exact h⟩;have key:∀t,(∀a as,ad i=a::as->OwnOk Y.w F s.heap (a::as) τ[i]->Rep Y.w (grow F s.heap (ad i)) t (.ref a))->((∃a,(ad i).head?=some a/\Look Y s.heap x (.ref a))/\OwnOk Y.w F s.heap (ad i) τ[i])->∃G ad',F.le G/\Fr Y N F0 s0 pn ad' (τ.set i (.val t)) G s:=fun t q w=>by
  obtain⟨⟨a,ha,lk⟩,w⟩:=w;cases hd:ad i with
  |nil=>rw[hd]at ha;cases ha
  |cons b as=>rw[hd]at ha;cases ha;exact⟨_,_,h.keep (sl:=.val t) hx ⟨_,lk,q _ as hd (by rw[<-hd];exact w)⟩⟩
 have at':∀{a as b},ad i=a::as->b∈a::as->grow F s.heap (ad i) b=s.heap.get? b:=fun e m=>jR (by rw[e];exact m);cases q:τ[i]with
 |own ts=>rw[q]at w key;exact key (.lst ts) (fun a as e z=>z.2.frz (at' e (.head _)) le) w
 |dic ks vs=>rw[q]at w key;exact key (.dic ks vs) (fun a as e z=>z.2.frz (at' e (.head _)) le fun l r=>r.mono le) w
 |dl ks vs=>rw[q]at w key;exact key (.dic ks (vs.map .lst)) (fun a as e z=>z.1.frz (at' e (.head _)) le fun l r=>by subst r;exact z.2.1.frz fun b hb x y=>y.frz (at' e (.tail _ hb)) le) w
 |dd ks vs=>rw[q]at w key;exact key (.dic ks (vs.map fun p=>.dic p.1 p.2)) (fun a as e z=>z.1.frz (at' e (.head _)) le fun l r=>by subst r;exact z.2.1.frz fun b hb x y=>y.frz (at' e (.tail _ hb)) le fun l r=>r.mono le) w
 |_=>rw[q]at same;exact same rfl
end
section
variable {n:Nat}{qc:Array Value}
variable {w:World}{F:Fz}{s:Shared}{t1 t2:T}{u v:Value}{A:Around}{Y:Yc}{E:Value->Shared->Prop}{ts us:List T}
theorem dF{A:Around}{jts:Array Value}(ih:∀(t1 t2:T)(v u:Value),Bc t1 t2<=n->Rep w F t1 v->Rep w F t2 u->SeqAt.EqAt A s v u (Ev.eqT t1 t2))(hd:Cz ts us<=n)(r1:Reps w F ts qc.toList)(r2:Reps w F us jts.toList):∀j(h1:j<qc.size)(h2:j<jts.size),SeqAt.EqAt A s qc[j] jts[j] (Ev.eqT (ts.getD j .non) (us.getD j .non)):=fun j h1 h2=>by
 have z1:j<ts.length:=by rw[<-r1.length];simpa using h1
 have z2:j<us.length:=by rw[<-r2.length];simpa using h2
 have e1:ts[j]?=some ts[j]:=Dw z1;have e2:us[j]?=some us[j]:=Dw z2;obtain⟨x,hx,rx⟩:=r1.get e1;obtain⟨y,hy,ry⟩:=r2.get e2;have g1:qc[j]=x:=by rw[Gb,Hb h1]at hx;exact Fe hx
 have g2:jts[j]=y:=by rw[Gb,Hb h2]at hy;exact Fe hy
 rw[g1,g2,Hj,Hj,e1,e2];exact ih _ _ x y (Cr (Yo e1 e2) hd) rx ry
theorem E8(r:Reps w F ts qc.toList):qc.size=ts.length:=by rw[<-r.length,E7]
theorem iA(h:ts.length=us.length):eqTs ts us=(List.range ts.length).all fun j=>Ev.eqT (ts.getD j .non) (us.getD j .non):=by rw[P7,h];simp
theorem f9(h:ts.length≠us.length):eqTs ts us=false:=by rw[P7,show(ts.length==us.length)=false by simpa using h,Bool.and_false]
theorem Yz(hb:M8 t1 t2=true)(hu:A.units<cLine)(hd:Bc t1 t2<=n)(hn:n<20000)(ih:∀m,n=m+1->∀(t1 t2:T)(v u:Value),Bc t1 t2<=m->Rep w F t1 v->Rep w F t2 u->SeqAt.EqAt A.in1 s v u (Ev.eqT t1 t2))(r1:Kd w F s t1 v)(r2:Kd w F s t2 u):∃a b,v=.ref a/\u=.ref b/\SeqAt.RcAt A s v u (Ev.eqT t1 t2)/\SeqAt.RcNeAt A s v u (!Ev.eqT t1 t2):=by
 cases r1 with
 |tup ts a qc p q=>
  cases r2 with
  |tup us b jts p' q'=>rw[Bc]at hd;obtain⟨m,rfl⟩:∃m,n=m+1:=⟨n-1,by lia⟩;have pa:=dF (ih m rfl) (by lia) q q';have h:=SeqAt.RcAt.tuples p p' hu pa;have g:=SeqAt.RcNeAt.tuples p p' hu pa;rw[E8 q,E8 q',<-P7]at h g;rw[Ev.eqT];exact⟨a,b,rfl,rfl,h,g⟩
  |dic=>rw[Bc]at hd;lia
  |adr=>rw[Bc]at hd;lia
  |_=>cases hb
 |lst ts a qc p q=>
  cases r2 with
  |lst us b jts p' q'=>
   rw[Bc]at hd;obtain⟨m,rfl⟩:∃m,n=m+1:=⟨n-1,by lia⟩;rw[Ev.eqT];by_cases hl:ts.length=us.length
   .have pa:=dF (ih m rfl) (by lia) q q';have hz:qc.size=jts.size:=by rw[E8 q,E8 q',hl]
    have h:=SeqAt.RcAt.lists p p' hz hu pa;have g:=SeqAt.RcNeAt.lists p p' hz hu pa;rw[E8 q]at h g;rw[iA hl];exact⟨a,b,rfl,rfl,h,g⟩
   .have hz:(qc.size != jts.size)=true:=by rw[E8 q,E8 q'];simpa using hl
    rw[f9 hl];exact⟨a,b,rfl,rfl,SeqAt.RcAt.lists_lengths p p' hz hu,SeqAt.RcNeAt.lists_lengths p p' hz hu⟩
  |dic=>rw[Bc]at hd;lia
  |adr=>rw[Bc]at hd;lia
  |_=>cases hb
 |dic=>rw[Bc]at hd;lia
 |_=>cases r2<;>first|(cases hb;done)|exact absurd hd (show ¬20000<=n by lia)
theorem Os(hF:F.In s.heap):∀(n:Nat)(A:Around)(t1 t2:T)(v u:Value),A.units+n<cLine->Bc t1 t2<=n->Rep w F t1 v->Rep w F t2 u->SeqAt.EqAt A s v u (Ev.eqT t1 t2):=fun n=>by
 induction n with
 |zero=>intro A t1 t2 v u hA hd r1 r2;refine Xh hA (fun h=>?_) (r1.kd hF) (r2.kd hF);cases t1<;>cases t2<;>first|(cases h;done)|exact absurd hd (show ¬20000<=0 by lia)|(rw[Bc]at hd;lia)
 |succ n ih=>
  intro A t1 t2 v u hA hd r1 r2;by_cases hb:M8 t1 t2=true
  .obtain⟨a,b,rfl,rfl,h,_⟩:=Yz (A:=A) hb (by lia) hd (by have:cLine=9900:=rfl;lia) (fun m e=>by cases e;exact fun t1 t2 v u=>ih A.in1 t1 t2 v u (show A.units+1+n<cLine by lia)) (r1.kd hF) (r2.kd hF);by_cases hs:a=b
   .subst hs;cases r1.inj r2;rw[Yl _ (by have:cLine=9900:=rfl;lia)];exact .same _
   .exact .of_refs hs h
  .exact Xh (by lia) hb (r1.kd hF) (r2.kd hF)
theorem Zy(hF:F.In s.heap)(hA:A.units+n<cLine)(hd:Bc t1 t2<=n)(r1:Rep w F t1 v)(r2:Rep w F t2 u):SeqAt.RcAt A s v u (Ev.eqT t1 t2)/\SeqAt.RcNeAt A s v u (!Ev.eqT t1 t2):=by
 by_cases hb:M8 t1 t2=true
 .obtain⟨a,b,_,_,h⟩:=Yz (A:=A) hb (by lia) hd (by have:cLine=9900:=rfl;lia) (fun m e=>by subst e;exact fun t1 t2 v u=>Os hF m A.in1 t1 t2 v u (show A.units+1+m<cLine by lia)) (r1.kd hF) (r2.kd hF);exact h
 .exact⟨gV (by lia) hb (r1.kd hF) (r2.kd hF),iU (by lia) hb (r1.kd hF) (r2.kd hF)⟩
abbrev Yc.Rm(Y:Yc):Prop:=Y.A.units+100<cLine
theorem bq(hu:Y.Rm):Op2 Y (compareOp .Eq) Gz:=fun{s F x y t u v E}S hx hy h=>by
 unfold Gz at h;split at h
 .cases h;exact(Zy S.fh (n:=30) (by lia) ‹_› hx hy).1 _ _ _ _ (Ej S.fh rfl)
 .cases h
theorem lP(hu:Y.Rm):Op2 Y (compareOp .NotEq) Qj:=fun{s F x y t u v E}S hx hy h=>by
 unfold Qj at h;split at h
 .cases h;exact(Zy S.fh (n:=30) (by lia) ‹_› hx hy).2 _ _ _ _ (Ej S.fh rfl)
 .cases h
theorem W0(hF:F.In s.heap)(hA:A.units+30<cLine)(r1:Rep w F t1 v):∃e:Value->Bool,∀{ts us},Do t1 ts=true->Reps w F ts us->(∀x∈us,SeqAt.EqAt A s x v (e x))/\us.map e=ts.map fun z=>Ev.eqT z t1:=by
 classical
 refine⟨fun x=>if h:∃t,Rep w F t x then Ev.eqT (Classical.choose h) t1 else false,fun{ts}=>?_⟩
 induction ts with
 |nil=>intro us _ r;cases r;exact⟨fun _ h=>(nomatch h),rfl⟩
 |cons t ts ih=>
  rintro us hd ⟨u,r,rfl,h1,h2⟩;unfold Do at hd;rw[List.all_cons,Cy,K8]at hd;have hx:∃t,Rep w F t u:=⟨t,h1⟩;have e:(if h:∃t,Rep w F t u then Ev.eqT (Classical.choose h) t1 else false)=Ev.eqT t t1:=by rw[dif_pos hx,(Classical.choose_spec hx).inj h1]
  obtain⟨i1,i2⟩:=ih hd.2 h2;refine⟨fun x hm=>?_,by rw[Ba,Ba,i2,e]⟩;rcases omc hm with rfl|hm
  .dsimp only;rw[e];exact Os hF 30 A _ _ _ _ hA hd.1 h1 r1
  .exact i1 x hm
theorem lU{e:Value->Bool}(h:qc.toList.map e=ts.map fun z=>Ev.eqT z t1):qc.any e=ts.any fun z=>Ev.eqT z t1:=by have:=Av (fun l:List Bool=>l.any id) h;rw[<-Array.any_toList];simpa[List.any_map,Function.comp_def]using this
theorem dX(hu:Y.Rm)(hF:F.In s.heap)(r1:Rep Y.w F t1 v)(hd:Do t1 ts=true){a:Addr}(p:s.heap.IsTuple a qc\/s.heap.IsList a qc)(r:Reps Y.w F ts qc.toList){Q:Value->Shared->Prop}:(Q (.bool (ts.any fun z=>Ev.eqT z t1)) s->wpAny Y.M Y.A (compareOp .In v (.ref a)) Q E s)/\(Q (.bool (!ts.any fun z=>Ev.eqT z t1)) s->wpAny Y.M Y.A (compareOp .NotIn v (.ref a)) Q E s):=by
 obtain⟨e,he⟩:=W0 hF (A:=Y.A.in1) (show Y.A.units+1+30<cLine by lia) r1;obtain⟨e1,e2⟩:=he hd r;have e3:=lU e2;have e4:∀x∈qc,SeqAt.EqAt Y.A.in1 s x v (e x):=fun x hx=>e1 x (by simpa using hx);rw[<-e3];rcases p with p|p
 .exact⟨SeqAt.in_tupleAt e p e4,SeqAt.notIn_tupleAt e p e4⟩
 .exact⟨SeqAt.in_listAt e p e4,SeqAt.notIn_listAt e p e4⟩
theorem iX:Op2 Y (compareOp .Lt) Pi:=fun{s F x y t u v E}S hx hy h=>by
 cases x with
 |int i=>cases y with
  |int j=>cases h;obtain⟨_,rfl⟩:=hx;obtain⟨_,rfl⟩:=hy;exact lt_int (Ej S.fh rfl)
  |_=>cases h
 |str i=>cases y with
  |str j=>cases h;obtain⟨_,rfl⟩:=hx;obtain⟨_,rfl⟩:=hy;exact lt_str (Ej S.fh rfl)
  |_=>cases h
 |_=>cases h
theorem gH:Op2 Y (compareOp .Gt) (Bt .gt):=fun{s F x y t u v E}S hx hy h=>by
 cases x with
 |int i=>cases y with
  |int j=>cases h;obtain⟨_,rfl⟩:=hx;obtain⟨_,rfl⟩:=hy;exact gt_int (Ej S.fh rfl)
  |_=>cases h
 |_=>cases y<;>cases h
end
section
variable {sl:Sl}{d:List Addr}
variable {Y:Yc}{N:List Str}{F0 F G:Fz}{s0 s s1 s':Shared}{τ:List Sl}{ad:Nat->List Addr}{x y:Str}{i j:Nat}{a:Addr}{t:T}{u:Value}{ts:List T}{pn:List (Addr×a7 Obj)}{E:Value->Shared->Prop}
abbrev Nn(N:List Str):Str->Nat->Prop:=fun x i=>N[i]?=some x
theorem Fr.at(h:Fr Y N F0 s0 pn ad τ F s):At Y (Nn N) (Au τ) F s:=⟨h.toSt,h.ok,h.ok.im h.up.ff h.it,fun x i t n e=>by
 unfold Au at e;rw[Dm]at e;cases q:τ[i]? with
 |none=>rw[q]at e;cases e
 |some sl=>
  rw[q]at e;have w:=h.slot i x sl n q;cases sl with
  |val t'=>cases e;exact w
  |_=>cases e⟩
theorem Fr.frzAt:∀(is:List Nat){τ:List Sl}{ad:Nat->List Addr}{F:Fz},Fr Y N F0 s0 pn ad τ F s->∃G ad',F.le G/\Fr Y N F0 s0 pn ad' (Ev.frzAt is τ) G s
 |[],_,ad,F,h=>⟨F,ad,fun _ _ q=>q,h⟩
 |i::is,τ,ad,F,h=>by
  by_cases hi:i<N.length
  .obtain⟨G,ad',le,h'⟩:=h.frz (i:=i) (Dw hi);obtain⟨G2,ad2,le2,h2⟩:=Fr.frzAt is h';exact⟨G2,ad2,fun b o q=>le2 b o (le b o q),h2⟩
  .have:τ.modify i Sl.frz=τ:=List.modify_eq_self (by rw[h.len];exact Nat.not_lt.mp hi);unfold Ev.frzAt;rw[this];exact Fr.frzAt is h
theorem Fr.touch{b:Addr}{h':Heap}(h:Fr Y N F0 s0 pn ad τ F s)(hb:F b=none)(b0:s0.heap.get? b=none)(hs:Heap.SameBut b s.heap h'):Up F0 s0 F {s with heap:=h'} :=
 ⟨fun c o e=>(hs.2 c (fun z=>by rw[z,b0]at e;cases e)).trans (h.up.ext c o e),h.up.os,h.up.bare,h.up.ff,fun c o e=>(hs.2 c (fun z=>by rw[z,hb]at e;cases e)).trans (h.up.fh c o e),h.up.nw⟩
theorem Look.but{b:Addr}{h':Heap}(hs:Heap.SameBut b s.heap h')(q:Look Y s.heap y u)(n1:Y.env.kindOf y=some .local->b≠Y.env.locals)(n2:∀c,Y.env.cells.lookup y=some c->b≠c):Look Y h' y u:=by
 rcases q with⟨k,m,n,e⟩|⟨k,c,e,o,z,w⟩
 .exact .inl ⟨k,m,n.sameBut hs (Ne.symm (n1 k)),e⟩
 .exact .inr ⟨k,c,e,o,(hs.2 c (Ne.symm (n2 c e))).trans z,w⟩
theorem Fr.cne(h:Fr Y N F0 s0 pn ad τ F s){c:Addr}(hx:x∈N)(e:Y.env.cells.lookup x=some c):c≠Y.env.locals:=fun z=>by obtain⟨v,o,ho,hd⟩:=(h.cell x hx c e).2;obtain⟨m,o',es,ep,ho',hd',_⟩:=h.ns.2;rw[z,ho']at ho;cases ho;rw[hd']at hd;cases hd
theorem Fr.nnd(h:Fr Y N F0 s0 pn ad τ F s){k:Nat}(e1:N[k]?=some x)(e2:N[i]?=some x):k=i:=(List.getElem?_inj (ome e1).1 h.nd).mp (e1.trans e2.symm)
theorem Fr.put{s':Shared}(h:Fr Y N F0 s0 pn ad τ F s)(hx:N[i]?=some x)(u1:Up F0 s0 F s')(nsx:∃m,s'.heap.Ns Y.env.locals m)(cl:∀y∈N,∀c,Y.env.cells.lookup y=some c->∃v,s'.heap.IsCell c v)(hd:∀a∈d,(Mine Y N s0 F a/\∃o,s'.heap.get? a=some o)/\(∀k,k≠i->a∉ad k)/\∀p∈pn,p.1≠a)(lk:∀y∈N,∀v,y≠x->Look Y s.heap y v->Look Y s'.heap y v)(kp:∀k,k≠i->∀a∈ad k,∀o,s.heap.get? a=some o->s'.heap.get? a=some o)(kq:∀p∈pn,∀o,s.heap.get? p.1=some o->s'.heap.get? p.1=some o)(q:SlOk Y F s' x d sl):Fr Y N F0 s0 pn (fun k=>if k=i then d else ad k) (τ.set i sl) F s':=by
 refine⟨h.toFs,u1,by rw[Of];exact h.len,⟨h.ns.1,nsx⟩,fun y hy c e=>⟨(h.cell y hy c e).1,cl y hy c e⟩,fun k a e=>?_,fun p hp=>?_,fun k j a e1 e2=>?_,fun k y sl' e1 e2=>?_⟩
 .split at e
  .exact(hd a e).1
  .rename_i z;obtain⟨w1,o,w2⟩:=h.own k a e;exact⟨w1,o,kp k z a e o w2⟩
 .obtain⟨p1,p2,p3⟩:=h.pin p hp;refine⟨p1,⟨p2.1.to (fun _ _ e=>e) (kq p hp),p2.2⟩,fun k=>?_⟩;split
  .exact fun z=>(hd _ z).2.2 p hp rfl
  .exact p3 k
 .split at e1<;>split at e2
  .simp_all
  .exact absurd e2 ((hd a e1).2.1 j (by assumption))
  .exact absurd e1 ((hd a e2).2.1 k (by assumption))
  .exact h.inj k j a e1 e2
 .by_cases z:k=i
  .subst z;rw[hx]at e1;cases e1;rw[Ib (by rw[h.len];exact(ome hx).1)]at e2;cases e2;rw[if_pos rfl];exact q
  .rw[Jo (Ne.symm z)]at e2;rw[if_neg z];exact(h.slot k y sl' e1 e2).to (fun v=>lk y (Ee e1) v fun w=>z (by subst w;exact h.nnd e1 hx)) (kp k z) fun _ _ e=>e
theorem Fr.store(h:Fr Y N F0 s0 pn ad τ F s)(hx:N[i]?=some x)(hl:Loc Y.env.scope x)(hd:∀a∈d,(Mine Y N s0 F a/\∃o,s.heap.get? a=some o)/\(∀k,k≠i->a∉ad k)/\∀p∈pn,p.1≠a)(q:∀{s':Shared},(∀a∈d,s'.heap.get? a=s.heap.get? a)->Look Y s'.heap x u->SlOk Y F s' x d sl){Q:Unit->Shared->Prop}(hQ:∀s',Look Y s'.heap x u->(∀y∈N,∀v,y≠x->Look Y s.heap y v->Look Y s'.heap y v)->Fr Y N F0 s0 pn (fun k=>if k=i then d else ad k) (τ.set i sl) F s'->Q () s'):wpAny Y.M Y.A (storeName Y.env x u) Q E s:=by
 have xN:=Ee hx;have main:∀(b:Addr)(h':Heap)(tk:Nat),Heap.SameBut b s.heap h'->(b=Y.env.locals\/Y.env.cells.lookup x=some b)->Look Y h' x u->(∃m,h'.Ns Y.env.locals m)->
   (∀y∈N,∀v,y≠x->Look Y s.heap y v->Look Y h' y v)->(∀y∈N,∀c,Y.env.cells.lookup y=some c->∃v,h'.IsCell c v)->Q () {s with heap:=h',toks:=tk}:=fun b h' tk hs hb lk nsx oth cl=>by
  have bF:F b=none:=hb.elim (fun z=>z▸h.ns.1) fun z=>(h.cell x xN b z).1;have b0:s0.heap.get? b=none:=hb.elim (fun z=>z▸h.lab) (h.cab x xN b);have u1:=h.touch bF b0 hs;have nb:∀{a},Mine Y N s0 F a->h'.get? a=s.heap.get? a:=fun m=>hs.2 _ fun z=>hb.elim (fun w=>m.l (z.trans w)) fun w=>m.c x xN b w z.symm;exact hQ _ lk oth (h.put (s':={s with heap:=h',toks:=tk}) hx ⟨u1.ext,u1.os,u1.bare,u1.ff,u1.fh,u1.nw⟩ nsx cl (fun a ha=>⟨⟨(hd a ha).1.1,(hd a ha).1.2.imp fun o e=>(nb (hd a ha).1.1).trans e⟩,(hd a ha).2⟩) oth (fun k _ a ha o e=>(nb (h.own k a ha).1).trans e) (fun p hp o e=>(nb (h.pin p hp).1).trans e) (q (fun a ha=>nb (hd a ha).1.1) lk))
 rcases hl with k|k
 .obtain⟨m,hn⟩:=h.ns.2;refine wpAny_storeName_local k hn (fun h' hn' hs=>main _ h' _ hs (.inl rfl) (.inl ⟨k,_,hn',by simp⟩) ⟨_,hn'⟩ (fun y yN v yx lk=>?_) fun y yN c e=>?_) (by rw[h.ok.kind];rfl)
  .rcases lk with⟨k',m',n',e'⟩|⟨k',c,e',z⟩
   .exact .inl ⟨k',_,hn',by simp only[if_neg yx];rw[<-e'];exact hn.agree n' y⟩
   .exact .inr ⟨k',c,e',z.sameBut hs (h.cne yN e')⟩
  .obtain⟨v,z⟩:=(h.cell y yN c e).2;exact⟨v,z.sameBut hs (h.cne yN e)⟩
 .obtain⟨c,hc⟩:=h.ok.has x (.inl k);obtain⟨v0,z0⟩:=(h.cell x xN c hc).2;refine wpAny_storeName_cell h.ok.kind k hc z0 (fun h' hc' hs=>main c h' s.toks hs (.inr hc) (.inr ⟨.inl k,c,hc,hc'⟩) ?_ (fun y yN v yx lk=>lk.but hs (fun _=>h.cne xN hc) fun c' e w=>?_) fun y yN c' e=>?_)
  .obtain⟨m,hn⟩:=h.ns.2;exact⟨m,hn.sameBut hs (Ne.symm (h.cne xN hc))⟩
  .subst w;exact yx (h.cin _ yN _ xN _ e hc)
  .by_cases w:c'=c
   .subst w;exact⟨_,hc'⟩
   .obtain⟨v,z⟩:=(h.cell y yN c' e).2;exact⟨v,z.sameBut hs w⟩
theorem Fr.own'{sl':Sl}{s':Shared}(h:Fr Y N F0 s0 pn ad τ F s)(hx:N[i]?=some x)(ht:τ[i]?=some sl)(hsub:∀a∈ad i,a∈d)(hnew:∀a∈d,a∈ad i\/Off Y N s0 pn ad a/\F a=none)(hex:∀a∈d,∃o,s'.heap.get? a=some o)(kp:∀b o,b∉d->s.heap.get? b=some o->s'.heap.get? b=some o)(os:s'.os=s.os)(br:AllBare s.gens->AllBare s'.gens)(q:(∀u,Look Y s.heap x u->Look Y s'.heap x u)->SlOk Y F s' x d sl'):Fr Y N F0 s0 pn (fun k=>if k=i then d else ad k) (τ.set i sl') F s':=by
 have md:∀{a},a∈d->Mine Y N s0 F a:=fun ha=>(hnew _ ha).elim (fun z=>(h.own i _ z).1) fun z=>⟨z.1.z,z.2,z.1.l,z.1.c⟩;have ol:Y.env.locals∉d:=fun z=>(md z).l rfl;have oc:∀{y c},y∈N->Y.env.cells.lookup y=some c->c∉d:=fun hy e z=>(md z).c _ hy _ e rfl;have lk:∀{y v},y∈N->Look Y s.heap y v->Look Y s'.heap y v:=fun hy q=>by
  rcases q with⟨k,m,n,e⟩|⟨k,c,e,o,z,w⟩
  .exact .inl ⟨k,m,n.at fun o q=>kp _ o ol q,e⟩
  .exact .inr ⟨k,c,e,o,kp _ o (oc hy e) z,w⟩
 obtain⟨m,n3⟩:=h.ns.2;refine h.put hx ⟨fun b o e=>kp b o (fun z=>by rw[(md z).z]at e;cases e) (h.up.ext b o e),os.trans h.up.os,fun e=>br (h.up.bare e),h.up.ff,fun b o e=>kp b o (fun z=>by rw[(md z).f]at e;cases e) (h.up.fh b o e),h.up.nw⟩ ⟨m,n3.at fun o q=>kp _ o ol q⟩ (fun y hy c e=>?_)
  (fun a ha=>⟨⟨md ha,hex a ha⟩,fun k hk z=>(hnew a ha).elim (fun w=>hk (h.inj _ _ _ z w)) fun w=>w.1.a k z,fun p hp z=>(hnew a ha).elim (fun w=>(h.pin p hp).2.2 i (z▸w)) fun w=>w.1.p p hp z⟩)
  (fun _ hy _ _=>lk hy) (fun k hk a ha o e=>kp a o (fun z=>(hnew a z).elim (fun w=>hk (h.inj _ _ _ ha w)) fun w=>w.1.a k ha) e) (fun p hp o e=>kp _ _ (fun z=>(hnew _ z).elim (fun w=>(h.pin p hp).2.2 i w) fun w=>w.1.p p hp rfl) e) (q fun _=>lk (Ee hx))
 obtain⟨_,v,o,c3,c4⟩:=h.cell y hy c e;exact⟨v,o,kp _ _ (oc hy e) c3,c4⟩
end
section
structure Flown(nt:Bool)(h:Heap)(a C dx L:Addr)(o:Obj):Prop where
 ob:h.get? a=some o
 cl:o.cls=.ref C
 di:o.dict=some dx
 tr:∃vs,o.data=.fields vs/\1<vs.size/\((nt=false/\vs[1]?=some .none)\/∃T oT ts,vs[1]?=some (.ref T)/\T≠a/\T≠dx/\h.get? T=some oT/\oT.data=.fields ts/\(ts[3]?=some .none\/ts[3]?=some (rawInt L)))
structure UpE(fs:List Addr)(s s':Shared):Prop where
 ext:∀b o,b∉fs->s.heap.get? b=some o->s'.heap.get? b=some o
 slt:∀b o,s.heap.get? b=some o->∃sl,s'.heap.get? b=some {o with slots:=sl}
 os:s'.os=s.os
 bare:AllBare s.gens->AllBare s'.gens
def Err(b:Bool)(P:Pc)(L:Addr)(fs:List Addr)(s0:Shared)(x:Str)(n:Int)(e:Value)(s':Shared):Prop :=
 ∃a C dx o k,e=.ref a/\P.mg x=some (.ref C)/\UpE fs s0 s'/\Flown b s'.heap a C dx L o/\s0.heap.get? a=none/\s0.heap.get? dx=none/\(∀T,(∃vs,o.data=.fields vs/\vs[1]?=some (.ref T))->s0.heap.get? T=none)/\dx≠a/\dx∉fs/\s'.heap.Ns1 dx fun f=>if f="at" then some (.int n k)else none
variable {F G:Fz}{s s0 s1 s':Shared}{fs gs:List Addr}{P:Pc}{x:Str}{n:Int}{e:Value}{L:Addr}{b:Bool}
theorem Up.toE(u:Up F s G s'):UpE fs s s':=⟨fun b o _ h=>u.ext b o h,fun b o h=>⟨o.slots,u.ext b o h⟩,u.os,u.bare⟩
theorem UpE.trans(a:UpE fs s0 s)(b:UpE fs s s'):UpE fs s0 s':=⟨fun c o n h=>b.ext c o n (a.ext c o n h),fun c o h=>by obtain⟨sl,h⟩:=a.slt c o h;obtain⟨sl',h⟩:=b.slt c _ h;exact⟨sl',h⟩,b.os.trans a.os,fun h=>b.bare (a.bare h)⟩
theorem UpE.mono(a:UpE fs s s')(h:∀b∈fs,b∈gs):UpE gs s s':=⟨fun b o n=>a.ext b o fun z=>n (h b z),a.slt,a.os,a.bare⟩
theorem UpE.old(u:UpE fs s0 s){b:Addr}(z:s.heap.get? b=none):s0.heap.get? b=none:=by
 cases q:s0.heap.get? b with
 |none=>rfl
 |some o=>obtain⟨_,w⟩:=u.slt b o q;rw[z]at w;cases w
theorem Err.from(u:UpE fs s0 s)(h:Err b P L fs s x n e s'):Err b P L fs s0 x n e s':=by obtain⟨a,C,dx,o,k,e1,e2,u2,fl,na,nd,nt,h⟩:=h;exact⟨a,C,dx,o,k,e1,e2,u.trans u2,fl,u.old na,u.old nd,fun T z=>u.old (nt T z),h⟩
theorem U7{base:Heap}{l:List PySem.Env}(u:UpE fs s s')(h:s.heap.FunFrames base l):s'.heap.FunFrames base l:=h.of_keeps fun b o q _=>let⟨sl,w⟩:=u.slt b o q;⟨_,w,rfl⟩
section
variable {M:Model}{A:Around}{E:Value->Shared->Prop}{base:Heap}{env:PySem.Env}{outer:List PySem.Env}{a C dx:Addr}{o:Obj}{vs:Array Value}{Q:Unit->Shared->Prop}{head:Value}{hn:Bool}
theorem ent(hfr:A.frames=some (env::outer))(hl:s.heap.FunFrames base (env::outer))(hf:env.frame=some L)(e0:s.heap.get? a=some o)(hv:o.data=.fields vs)(hz:1<vs.size)(h:∀h' T,s.heap.get? T=none->h'.get? a=some (o.mapFields (·.setIfInBounds 1 (.ref T)))->T≠a->(∃oT ts,h'.get? T=some oT/\oT.data=.fields ts/\ts[3]?=some (rawInt L)) ->(∀b u,b≠a->b∉frs (env::outer)->s.heap.get? b=some u->h'.get? b=some u)->(∀b u,b≠a->s.heap.get? b=some u->∃sl,h'.get? b=some {u with slots:=sl})->Q () {s with heap:=h'}):wpAny M A (do let f <-frameOf env;let pl <-entryPlaceOf L hn;let b <-EntryCells.newEntry head f .none (rawInt L) .none pl;setField (.ref a) 1 b) Q E s:=by
 have na:a∉(env::outer).filterMap (·.frame):=fun z=>by obtain⟨_,u,e1,e2⟩:=hl.mem z;rw[e0]at e1;cases e1;exact e2 vs hv
 refine Aa (wpAny_frameOf_fun hfr hl hf fun h1 ⟨z1,z2,z3⟩=>Aa (wpAny_entryPlaceOf fun pl hpl=>?_));unfold EntryCells.newEntry newFields;refine Aa (Gn ?_ (hpl.sizeOk5 _ _ _ _ _));have e1:h1.get? a=some o:=(z2 a na).trans e0;generalize hT:({cls:=.type "traceback",dict:=none,data:=.fields ([head,.ref L,.none,rawInt L,.none]++(if pl.isEmpty then List.replicate 6 Value.none else pl)).toArray}:Obj)=oT;have dT:oT.data=.fields ([head,.ref L,.none,rawInt L,.none]++(if pl.isEmpty then List.replicate 6 Value.none else pl)).toArray:=by rw[<-hT]
 have fT:oT.isFreed=false:=by rw[<-hT];rfl
 have e2:=Bb oT e1;refine wpAny_setField e2 hv hz ?_;have ne:h1.objs.size≠a:=Nat.ne_of_gt (Cu e1);have d3:=Ft hv (·.setIfInBounds 1 (Value.ref h1.objs.size));have e3:=Heap.get?_update_self (Obj.mapFields (·.setIfInBounds 1 (Value.ref h1.objs.size))) e2 (Obj.isFreed_of_fields d3);have t3:((h1.push oT).update a (Obj.mapFields (·.setIfInBounds 1 (Value.ref h1.objs.size)))).get? h1.objs.size=some oT:=(Heap.get?_update_other _ _ (Ne.symm ne)).trans (Cv h1 fT);have k:∀b u,b≠a->h1.get? b=some u->((h1.push oT).update a (Obj.mapFields (·.setIfInBounds 1 (Value.ref h1.objs.size)))).get? b=some u:=fun b u nb q=>by rw[Heap.get?_update_other _ _ (Ne.symm nb)];exact Bb _ q
 have nw:s.heap.get? h1.objs.size=none:=by
  cases q:s.heap.get? h1.objs.size with
  |none=>rfl
  |some u=>obtain⟨_,w⟩:=z3 _ u q;exact absurd (Cu w) (M6 _)
 exact h _ h1.objs.size nw e3 ne ⟨_,_,t3,dT,by simp⟩ (fun b u nb nf q=>k b u nb ((z2 b nf).trans q)) fun b u nb q=>by obtain⟨sl,e⟩:=z3 b u q;exact⟨sl,k b _ nb e⟩
theorem Rw(hfr:A.frames=some (env::outer))(hl:s.heap.FunFrames base (env::outer))(hf:env.frame=some L)(h:Err b P L (frs (env::outer)) s0 x n e s):wpAny M A (noteFrame e env) (fun _ s2=>Err true P L (frs (env::outer)) s0 x n e s2/\s2.heap.FunFrames base (env::outer)) E s:=by
 obtain⟨a,C,dx,o,k,rfl,e2,u2,⟨ob,cl,di,vs,hv,hz,ht⟩,na,nd,nt,ne,nf,ns⟩:=h;have fin:∀{s1:Shared}{h':Heap}{T:Addr},(∀b u,s.heap.get? b=some u->s1.heap.get? b=some u)->s1.os=s.os->s1.gens=s.gens->s1.heap.get? T=none->h'.get? a=some (o.mapFields (·.setIfInBounds 1 (.ref T)))->T≠a->(∃oT ts,h'.get? T=some oT/\oT.data=.fields ts/\ts[3]?=some (rawInt L))->
   (∀b u,b≠a->b∉frs (env::outer)->s1.heap.get? b=some u->h'.get? b=some u)->(∀b u,b≠a->s1.heap.get? b=some u->∃sl,h'.get? b=some {u with slots:=sl})->
   Err true P L (frs (env::outer)) s0 x n (.ref a) {s1 with heap:=h'}/\h'.FunFrames base (env::outer):=fun{s1 h' T}same eo eg g0 g1 g2 g3 g4 g5=>by
  have g0':s.heap.get? T=none:=by
   cases q:s.heap.get? T with
   |none=>rfl
   |some u=>rw[same _ _ q]at g0;cases g0
  have gd:∃od,s.heap.get? dx=some od:=let⟨od,_,_,q,_⟩:=ns;⟨od,q⟩
  have nt0:=u2.old g0';have n0:∀{b u},s0.heap.get? b=some u->b≠a:=fun q z=>by rw[z,na]at q;cases q
  refine⟨⟨a,C,dx,_,k,rfl,e2,⟨fun b u nb q=>g4 b u (n0 q) nb (same b u (u2.ext b u nb q)),fun b u q=>?_,eo.trans u2.os,fun q=>by show AllBare s1.gens;rw[eg];exact u2.bare q⟩,⟨g1,(Obj.cls_mapFields _ _).trans cl,?_,_,Ft hv _,by simpa using hz,.inr ?_⟩,na,nd,fun T' z=>?_,ne,nf,?_⟩,?_⟩
  .obtain⟨sl,q1⟩:=u2.slt b u q;obtain⟨sl',q2⟩:=g5 b _ (n0 q) (same b _ q1);exact⟨sl',q2⟩
  .obtain⟨c,d,dt,sl⟩:=o;cases dt<;>first|exact di|cases hv
  .obtain⟨oT,ts,t1,t2,t3⟩:=g3;refine⟨T,oT,ts,by simp[hz],g2,fun z=>?_,t1,t2,.inr t3⟩;obtain⟨od,q⟩:=gd;rw[<-z,g0']at q;cases q
  .obtain⟨ws,z1,z2⟩:=z;rw[Ft hv]at z1;cases z1;simp[hz]at z2;rw[<-z2];exact nt0
  .obtain⟨od,es,ep,q1,q2⟩:=ns;exact⟨od,es,ep,g4 dx od ne nf (same _ _ q1),q2⟩
  .refine hl.of_keeps fun b u q nv=>?_;by_cases hb:b=a
   .subst hb;rw[ob]at q;cases q;exact absurd hv (nv vs)
   .obtain⟨sl,w⟩:=g5 b u hb (same b u q);exact⟨_,w,rfl⟩
 unfold noteFrame;simp only[hf];rcases ht with⟨_,ht⟩|⟨T,oT,ts,h1,h2,hd,h3,h4,h5⟩
 .refine Aa (Di ob hv ht ?_);rw[if_neg (by decide)];exact ent hfr hl hf ob hv hz fun h' T g0 g1 g2 g3 g4 g5=>fin (s1:=s) (fun _ _ q=>q) rfl rfl g0 g1 g2 g3 g4 g5
 .refine Aa (Di ob hv h1 ?_);rw[if_pos (show(Value.ref T != Value.none)=true from by simp)];rcases h5 with h5|h5
  .refine Aa (Di h3 h4 h5 ?_);rw[if_neg (show ¬((Value.none==rawInt L)=true)from by simp[rawInt])];refine Aa (wpAny_setField h3 h4 (Array.getElem?_eq_some_iff.mp h5).1 ?_);have same:∀b u,s.heap.get? b=some u->(s.heap.update T (Obj.mapFields (·.setIfInBounds 3 Value.none))).get? b=some u:=fun b u q=>by
    by_cases hb:b=T
    .subst hb;rw[h3]at q;cases q;rw[Heap.get?_update_self _ h3 (Obj.isFreed_of_fields (Ft h4 _))];obtain⟨c,d,dt,sl⟩:=oT;cases h4;obtain⟨l1,l2⟩:=Array.getElem?_eq_some_iff.mp h5;have:ts.setIfInBounds 3 Value.none=ts:=by rw[<-l2];simp[Array.setIfInBounds,l1]
     simp[Obj.mapFields,this]
    .rw[Heap.get?_update_other _ _ (Ne.symm hb)];exact q
   exact ent (s:={s with heap:=s.heap.update T (Obj.mapFields (·.setIfInBounds 3 Value.none))}) hfr (hl.of_keeps fun b u q _=>⟨u,same b u q,rfl⟩) hf (same _ _ ob) hv hz fun h' T' g0 g1 g2 g3 g4 g5=>fin (s1:={s with heap:=s.heap.update T (Obj.mapFields (·.setIfInBounds 3 Value.none))}) same rfl rfl g0 g1 g2 g3 g4 g5
  .refine Aa (Di h3 h4 h5 ?_);rw[if_pos (by simp)];exact Af ⟨⟨a,C,dx,o,k,rfl,e2,u2,⟨ob,cl,di,vs,hv,hz,.inr ⟨T,oT,ts,h1,h2,hd,h3,h4,.inr h5⟩⟩,na,nd,nt,ne,nf,ns⟩,hl⟩
theorem eG{fs:List Addr}{L':Addr}(hfr:A.frames=some (env::outer))(hl:s.heap.FunFrames base (env::outer))(hf:env.frame=some L)(hz:s0.heap.get? L=none)(hs:∀b∈frs outer,b∈fs)(hd:∀b∈fs,∃o,s0.heap.get? b=some o)(h:Err b P L (frs (env::outer)) s0 x n e s):wpAny M A (leaving env e) (fun _ s2=>Err false P L' fs s0 x n e s2) E s:=by
 refine Aa (Eh (Rw hfr hl hf h) (fun _ s2 z=>?_) fun _ _ q=>q);obtain⟨⟨a,C,dx,o,k,rfl,e2,u2,⟨ob,cl,di,vs,hv,h1,ht⟩,na,nd,nt,ne,nf,ns⟩,hl2⟩:=z;have fe:∀b,b∈frs (env::outer)->b∈fs\/b=L:=fun b hb=>by
  unfold frs at hb;rw[Ht,hf]at hb;rcases omc hb with q|q
  .exact .inr q
  .exact .inl (hs b q)
 have up:UpE fs s0 s2:=⟨fun b u nb q=>u2.ext b u (fun z=>(fe b z).elim nb fun w=>by rw[w,hz]at q;cases q) q,u2.slt,u2.os,u2.bare⟩;have nf':dx∉fs:=fun z=>by obtain⟨o,q⟩:=hd dx z;rw[nd]at q;cases q
 unfold setFlight;rcases ht with⟨ht,_⟩|⟨T,oT,ts,t1,t2,t3,t4,t5,t6⟩
 .cases ht
 .refine Aa (Di ob hv t1 ?_);rw[if_pos (show(Value.ref T != Value.none)=true from by simp)];have l3:3<ts.size:=by rcases t6 with t6|t6<;>exact(Array.getElem?_eq_some_iff.mp t6).1
  have nT:=nt T ⟨vs,hv,t1⟩;have kp:∀b,b≠T->(s2.heap.update T (Obj.mapFields (·.setIfInBounds 3 Value.none))).get? b=s2.heap.get? b:=fun b hb=>Heap.get?_update_other _ _ (Ne.symm hb);refine wpAny_setField t4 t5 l3 ⟨a,C,dx,o,k,rfl,e2,⟨fun b u nb q=>(kp b fun z=>by rw[z,nT]at q;cases q).trans (up.ext b u nb q),fun b u q=>?_,up.os,up.bare⟩,⟨(kp a (Ne.symm t2)).trans ob,cl,di,vs,hv,h1,.inr ⟨T,_,_,t1,t2,t3,Heap.get?_update_self _ t4 (Obj.isFreed_of_fields (Ft t5 _)),Ft t5 _,.inl (by simp[l3])⟩⟩,na,nd,nt,ne,nf',?_⟩
  .obtain⟨sl,w⟩:=up.slt b u q;exact⟨sl,(kp b fun z=>by rw[z,nT]at q;cases q).trans w⟩
  .obtain⟨od,es,ep,q1,q2⟩:=ns;exact⟨od,es,ep,(kp dx (Ne.symm t3)).trans q1,q2⟩
theorem gU{fs:List Addr}{R:Value->Shared->Prop}(hf:env.frame=some L)(hl:s.heap.FunFrames base (env::outer))(h:Err true P L fs s0 x n e s)(q:∀s2,Err false P L fs s0 x n e s2->s2.heap.FunFrames base (env::outer)->R e s2):cameBackBy M A env R e s:=by
 obtain⟨a,C,dx,o,k,rfl,e2,up,⟨ob,cl,di,vs,hv,h1,ht⟩,na,nd,nt,ne,nf,ns⟩:=h;rcases ht with⟨ht,_⟩|⟨T,oT,ts,t1,t2,t3,t4,t5,t6⟩
 .cases ht
 .unfold cameBackBy;refine Aa (Di ob hv t1 ?_);rw[if_neg (by simp)];unfold setFlight;refine Aa (Di ob hv t1 ?_);rw[if_pos (show(Value.ref T != Value.none)=true from by simp),hf];have l3:3<ts.size:=by rcases t6 with t6|t6<;>exact(Array.getElem?_eq_some_iff.mp t6).1
  have nT:=nt T ⟨vs,hv,t1⟩;have kp:∀b,b≠T->(s.heap.update T (Obj.mapFields (·.setIfInBounds 3 (rawInt L)))).get? b=s.heap.get? b:=fun b hb=>Heap.get?_update_other _ _ (Ne.symm hb);refine wpAny_setField t4 t5 l3 (q _ ⟨a,C,dx,o,k,rfl,e2,⟨fun b u nb q=>(kp b fun z=>by rw[z,nT]at q;cases q).trans (up.ext b u nb q),fun b u q=>?_,up.os,up.bare⟩,⟨(kp a (Ne.symm t2)).trans ob,cl,di,vs,hv,h1,.inr ⟨T,_,_,t1,t2,t3,Heap.get?_update_self _ t4 (Obj.isFreed_of_fields (Ft t5 _)),Ft t5 _,.inr (by simp[l3])⟩⟩,na,nd,nt,ne,nf,?_⟩ (hl.of_keeps fun b u q nv=>?_))
  .obtain⟨sl,w⟩:=up.slt b u q;exact⟨sl,(kp b fun z=>by rw[z,nT]at q;cases q).trans w⟩
  .obtain⟨od,es,ep,q1,q2⟩:=ns;exact⟨od,es,ep,(kp dx (Ne.symm t3)).trans q1,q2⟩
  .exact⟨u,(kp b fun z=>by subst z;rw[t4]at q;cases q;exact nv _ t5).trans q,rfl⟩
end
end
section
structure Bd extends Yc where
 tbp:List (Addr×Option Obj)
 N:List Str
 F0:Fz
 s0:Shared
abbrev No:Value->Shared->Prop:=fun _ _=>False
abbrev Bd.Fr(B:Bd)(pn:List (Addr×a7 Obj))(ad:Nat->List Addr)(τ:List Sl)(F:Fz)(s:Shared):Prop:=Nb.Fr B.toYc B.N B.F0 B.s0 (B.tbp++pn) ad τ F s
def Bd.Post(B:Bd)(pn:List (Addr×a7 Obj))(F:Fz)(o:Out)(fl:Flow)(s':Shared):Prop :=
 match fl,o with
 |.next,.nx τ=>∃ad G,F.le G/\B.Fr pn ad τ G s'
 |.ret u,.rt t=>Res B.w B.F0 B.s0 t u s'/\∀p∈B.tbp,∃G,PinOk G s'.heap p
 |_,_=>False
def Bd.PE(B:Bd)(o:Out)(e:Value)(s':Shared):Prop:=∃x n,o=.rs x n/\Err false B.toPc B.env.locals (frs B.stack) B.s0 x n e s'/\s'.heap.FunFrames B.base B.stack
structure Bd.Fm(B:Bd):Prop where
 st:∃l,B.stack=B.env::l
 fr:B.env.frame=some B.env.locals
variable {B:Bd}{pn:List (Addr×a7 Obj)}{ad:Nat->List Addr}{τ:List Sl}{F G:Fz}{s s':Shared}{o:Out}{x:Str}{i:Nat}{t:T}{f g:List Sl->a7 Out}{e c:Expr}{h:Ev.Env->a7 T}{pos p:Pos}{st:Stmt}{ss a b:List Stmt}{E:Value->Shared->Prop}
def PS(B:Bd)(st:Stmt)(f:List Sl->a7 Out):Prop:=∀{pn ad τ F s o},B.Fr pn ad τ F s->f τ=some o->wpAny B.M B.A (exec st B.env) (B.Post pn F o) (B.PE o) s
def PSs(B:Bd)(ss:List Stmt)(f:List Sl->a7 Out):Prop:=∀{pn ad τ F s o},B.Fr pn ad τ F s->f τ=some o->wpAny B.M B.A (execs ss B.env) (B.Post pn F o) (B.PE o) s
theorem Fr.tbs(h:B.Fr pn ad τ F s):∀p∈B.tbp,∃G,PinOk G s.heap p:=fun p hp=>⟨F,(h.pin p (List.mem_append_left _ hp)).2.1.1⟩
theorem Fz.le.trans{F G H:Fz}(a:F.le G)(b:G.le H):F.le H:=fun c o e=>b c o (a c o e)
theorem Bd.Post.le{fl:Flow}(h:B.Post pn G o fl s)(l:F.le G):B.Post pn F o fl s:=by
 unfold Bd.Post at h ⊢;split at h
 .obtain⟨ad,G',l',h⟩:=h;exact⟨ad,G',l.trans l',h⟩
 .exact h
 .exact h
theorem N9:PSs B [] fun τ=>some (.nx τ):=fun h e=>by cases e;exact wpAny_execs_nil ⟨_,_,fun _ _ e=>e,h⟩
theorem Kh(ha:PS B st f)(hb:PSs B ss g):PSs B (st::ss) fun τ=>(f τ).bind fun o=>match o with
  |.nx τ'=>g τ'
  |o=>some o:=fun h e=>by
 obtain⟨o1,e1,e⟩:=obs e;refine wpAny_execs_cons (Eh (ha h e1) (fun fl s1 q=>?_) fun w s1 z=>by obtain⟨x,n,rfl,z⟩:=z;cases e;exact⟨x,n,rfl,z⟩);cases fl<;>cases o1<;>first|exact q.elim|skip
 .obtain⟨ad',G,le,h'⟩:=q;exact thn (hb h' e) fun fl s2 q=>q.le le
 .cases e;exact q
theorem aN(hF:B.Fr pn ad τ F s)(he:Oke B.toYc (Nn B.N) e h)(is:List Nat)(q:h (Au (frzAt is τ))=some t):wpAny B.M B.A (eval e B.env) (fun u s'=>∃ad' G,F.le G/\B.Fr pn ad' (frzAt is τ) G s'/\Rep B.w G t u) E s:=by
 obtain⟨G,ad',le,h'⟩:=hF.frzAt is;exact thn (he h'.at q) fun u s' ⟨G2,u2,q2⟩=>⟨ad',G2,le.trans u2.ff,h'.after u2,q2⟩
theorem iP(he:Oke B.toYc (Nn B.N) e h)(is:List Nat):PS B (.Return (some e) pos) fun τ=>(h (Au (frzAt is τ))).map .rt:=fun hF q=>by obtain⟨t,q1,rfl⟩:=oms q;exact wpAny_Return_some (thn (aN hF he is q1) fun u s' ⟨_,G,_,h',r⟩=>⟨⟨G,h'.up,r⟩,h'.tbs⟩)
theorem Mb(he:Oke B.toYc (Nn B.N) e h)(is:List Nat)(hx:B.N[i]?=some x)(hl:Loc B.env.scope x)(hs:swapsWith e (some (.Name x p)) pos.line B.env=pure false):PS B (.Assign [.Name x p] e pos) fun τ=>(h (Au (frzAt is τ))).bind fun t=>some (.nx ((frzAt is τ).set i (.val t))):=fun hF q=>by
 obtain⟨t,q1,e⟩:=obs q;cases e;refine wpAny_Assign_Name (thn (aN hF he is q1) fun u s' ⟨_,G,le,h',r⟩=>?_) hs;exact h'.store (d:=[]) (sl:=.val t) hx hl (fun _ w=>nomatch w) (fun _ lk=>⟨u,lk,r⟩) fun s2 _ _ h2=>⟨_,_,le,h2⟩
def Okb(Y:Yc)(N:Str->Nat->Prop)(e:Expr)(f:Ev.Env->a7 T):Prop :=
 ∀{s F r t E},At Y N r F s->f r=some t->wpAny Y.M Y.A (isTrue e Y.env (eval e Y.env)) (fun b s'=>∃G,Up F s G s'/\t=.bl b) E s
theorem cL(hc:Okb B.toYc (Nn B.N) c h)(is:List Nat)(ha:PSs B a f)(hb:PSs B b g):PS B (.If c a b pos) fun τ=>(h (Au (frzAt is τ))).bind fun t=>match t with
  |.bl true=>f τ
  |.bl false=>g τ
  |_=>none:=fun hF q=>by
 obtain⟨t,q,e⟩:=obs q;obtain⟨G,ad',le,h'⟩:=hF.frzAt is;refine wpAny_If (thn (hc h'.at q) fun d s1 ⟨G2,u,z⟩=>?_);subst z;cases d with
 |true=>exact ha (hF.after (u.back le)) e
 |false=>exact hb (hF.after (u.back le)) e
end
section
variable {ps:List Str}{scope:Scope}
structure Room(k:Nat)(A:Around):Prop where
 dp:A.depth+3*k+5<recursionLimit
 un:A.units+16*k+200<cLine
theorem Room.mono(r:Room k A)(h:j<=k):Room j A:=⟨by have:=r.dp;lia,by have:=r.un;lia⟩
theorem Room.deeper{A:Around}(r:Room (k+1) A)(env:PySem.Env):Room k (A.deeper env) :=
 ⟨by have:=r.dp;show A.depth+1+3*k+5<_;lia,by have:=r.un;show A.units+3+16*k+200<_;lia⟩
structure FnScope(N P:List Str)(sc:Scope):Prop where
 kind:sc.kind=.function
 co:sc.isCoroutine=false
 gen:sc.isGenerator=false
 nd:N.Nodup
 pre:N.take P.length=P
 par:∀x∈P,sc.names.lookup x=some .local\/sc.names.lookup x=some .cell
 nofree:∀y∈sc.names,y.2≠.free
structure Fn(P:Pc)(k:Nat)(f:Addr)(fd:FuncData)(ps:List Str)(sp:List T->Option T)(ex:List T->Option (Str×Int)):Prop where
 run:∀{A l F s args us ts t},Room k A->St P A l F s->BindsTo s fd args (ps.zip us)->Reps P.w F ts us->sp ts=some t->
  codeAny P.M A (.call (.ref f) args) (fun r s'=>∃u,r=.ok (.ret u)/\Res P.w F s t u s') s
 err:∀{A l F s args us ts x n}(L:Addr),Room k A->St P A l F s->BindsTo s fd args (ps.zip us)->Reps P.w F ts us->ex ts=some (x,n)->
  codeAny P.M A (.call (.ref f) args) (fun r s'=>∃e,r=.error e/\Err false P L (frs l) s x n e s') s
theorem Xi{kindOf:Str->a7 NameKind}{x:Str}:∀{binds:List (Str×Value)}{m:Str->a7 Value},(∀v,(x,v)∉binds)->bindL kindOf binds m x=m x
 |[],_,_=>rfl
 |(n,v)::r,m,h=>by
  unfold bindL;rw[Xi fun w hw=>h w (G8 _ hw)];split
  .have:x≠n:=by rintro rfl;exact h v J8
   simp[this]
  .rfl
theorem Y9{kindOf:Str->a7 NameKind}{x:Str}:∀{binds:List (Str×Value)}{m:Str->a7 Value},(∀v,(x,v)∉binds)->bindC kindOf binds m x=m x
 |[],_,_=>rfl
 |(n,v)::r,m,h=>by
  unfold bindC;rw[Y9 fun w hw=>h w (G8 _ hw)];split
  .rfl
  .have:x≠n:=by rintro rfl;exact h v J8
   simp[this]
theorem V9{kindOf:Str->a7 NameKind}{x:Str}{v:Value}:∀{P:List Str}{vs:List Value}{i:Nat}{m m':Str->a7 Value},P.Nodup->P[i]?=some x->vs[i]?=some v ->(kindOf x=some .local->bindL kindOf (P.zip vs) m x=some v)/\(kindOf x≠some .local->bindC kindOf (P.zip vs) m' x=some v)
 |[],_,_,_,_,_,h,_=>by simp at h
 |_::_,[],_,_,_,_,_,h=>by simp at h
 |p::P,w::vs,0,m,m',nd,h1,h2=>by simp at h1 h2;subst h1;subst h2;have z:∀v,(p,v)∉P.zip vs:=fun v hv=>(Er.mp nd).1 (List.of_mem_zip hv).1;exact⟨fun hk=>by show bindL kindOf ((p,w)::P.zip vs) m p=_;unfold bindL;rw[Xi z,if_pos hk];simp,fun hk=>by show bindC kindOf ((p,w)::P.zip vs) m' p=_;unfold bindC;rw[Y9 z,if_neg hk];simp⟩
 |p::P,w::vs,i+1,m,m',nd,h1,h2=>by have r:=fun m m'=>V9 (kindOf:=kindOf) (i:=i) (m:=m) (m':=m') (Er.mp nd).2 (by simpa using h1) (by simpa using h2);exact⟨fun hk=>by show bindL kindOf ((p,w)::P.zip vs) m x=_;unfold bindL;exact(r _ m').1 hk,fun hk=>by show bindC kindOf ((p,w)::P.zip vs) m' x=_;unfold bindC;exact(r m _).2 hk⟩
def Jp(P:Pc)(N:List Str)(qual:Str)(scope:Scope)(f:Addr)(cd:Value)(A:Around)(l:List PySem.Env)(F:Fz)(s:Shared):Bd where
 toPc:=P
 A:=A.deeper (envOfC qual scope s.heap.objs.size f cd)
 env:=envOfC qual scope s.heap.objs.size f cd
 stack:=envOfC qual scope s.heap.objs.size f cd::l
 I:=fun _=>True
 tbp:=[]
 N:=N
 F0:=F
 s0:=s
theorem Ry{P:Pc}{N:List Str}{qual:Str}{f:Addr}{cd:Value}{A:Around}{l:List PySem.Env}{F:Fz}{s s1:Shared}{us:List Value}{ts:List T}{D:Fd}(S:FnScope N ps scope)(h:St P A l F s)(r:Reps P.w F ts us)(hl:ts.length=ps.length)(hn:D.ns=N.length)(x:InCallC s s.heap.objs.size (bindL (envOfC qual scope s.heap.objs.size f cd).kindOf (ps.zip us) fun _=>none) (cellsFrom (s.heap.objs.size+1) scope.names []) (bindC (envOfC qual scope s.heap.objs.size f cd).kindOf (ps.zip us) fun _=>none) s1):(Jp P N qual scope f cd A l F s).Fr [] (fun _=>[]) (Dr D ts) F s1:=by
 have hpl:ps.length<=N.length:=by have:=Av List.length S.pre;rw[Kf]at this;lia
 obtain⟨h1,tk,rfl,hk⟩:=x.done;have has:∀y,scope.names.lookup y=some .cell->∃c,(cellsFrom (s.heap.objs.size+1) scope.names []).lookup y=some c:=fun y hy=>Option.isSome_iff_exists.mp (W.cellsFrom_some scope.names _ [] (.inl hy));have new:∀y c,(cellsFrom (s.heap.objs.size+1) scope.names []).lookup y=some c->s.heap.get? c=none:=fun y c e=>Heap.get?_none_of_le (Nat.le_of_lt (x.above y c (mem_of_lookup e)));have base0:P.base.get? s.heap.objs.size=none:=by
  cases e:P.base.get? s.heap.objs.size with
  |none=>rfl
  |some o=>have:=h.bk _ _ e;rw[Bs]at this;cases this
 refine⟨⟨⟨S.kind,rfl,rfl,fun y k=>k.elim (has y) fun k=>absurd rfl (S.nofree _ (mem_of_lookup k)),fun _ z=>z⟩,trivial,fun u ns=>⟨h.mod,h.hd,Around.frames_deeper h.frames,fun b o e=>u.ext b o (h.bk b o e),u.fh,u.bare h.bare,fun c=>?_,fun c b hb=>(omc hb).elim (fun e=>by rw[e];exact ns.1) ((h.up u).fo c b)⟩,Bs,fun y _=>new y,fun y _ z _ c e1 e2=>name_of_addr x.apart (mem_of_lookup e1) (mem_of_lookup e2),S.nd⟩,
  ⟨hk,rfl,id,fun _ _ e=>e,fun b o e=>hk b o (h.fh b o e),fun _ z=>.inl z⟩,?_,⟨h.fh.none Bs,_,x.toInCall.ns⟩,fun y _ c e=>⟨h.fh.none (new y c e),_,x.cell y c e⟩,fun _ _ e=>(nomatch e),fun _ z=>(nomatch z),fun _ _ _ e=>(nomatch e),fun i y sl e1 e2=>?_⟩
 .obtain⟨_,m,n⟩:=ns;exact .cons (by show scope.kind≠_;rw[S.kind];decide) rfl n base0 (Q1 u.ext (h.funs c))
 .show(Dr D ts).length=N.length;unfold Dr;rw[By,Aq,List.length_replicate];lia
 .unfold Dr at e2;by_cases hi:i<ts.length
  .rw[Xl (by simpa using hi),List.getElem?_map,List.getElem?_eq_getElem hi]at e2;cases e2;obtain⟨u,hu,ru⟩:=r.get (Dw hi);have hp:ps[i]?=some y:=by rw[<-S.pre,List.getElem?_take_of_lt (by lia)];exact e1
   have b:=V9 (kindOf:=(envOfC qual scope s.heap.objs.size f cd).kindOf) (m:=fun _=>none) (m':=fun _=>none) (by rw[<-S.pre];exact S.nd.sublist (List.take_sublist _ _)) hp hu;refine⟨u,?_,ru⟩;rcases S.par y (Ee hp)with k|k
   .exact .inl ⟨k,_,x.toInCall.ns,b.1 k⟩
   .obtain⟨c,e⟩:=has y k;have q:=x.cell y c e;rw[b.2 (by show scope.names.lookup y≠_;rw[k];decide)]at q;exact .inr ⟨.inl k,c,e,q⟩
  .rw[dE (by simpa using hi),List.getElem?_replicate]at e2;split at e2<;>cases e2;trivial
theorem qK{P:Pc}{k:Nat}{f:Addr}{name qual:Str}{params:Arguments}{body:List Stmt}{dV kV doc pm cdv ct oc:Value}{an od:a7 Addr}{osl:Array (a7 Value)}{N:List Str}{D:Fd}{G:Glo}(hca:P.calm)(lk:P.K.lookup f=some ⟨oc,od,.func (W.fnOf name qual params body scope dV kV doc pm an cdv ct),osl⟩)(hcd:W.codeIn P.K cdv qual=true)(S:FnScope N ps scope)(hn:D.ns=N.length)(hp:D.np=ps.length)(hb:∀{A l F s},Room k (A.deeper (envOfC qual scope s.heap.objs.size f cdv))->PSs (Jp P N qual scope f cdv A l F s) body (Bp G D.body)):Fn P (k+1) f (W.fnOf name qual params body scope dV kV doc pm an cdv ct) ps (fun ts=>if ts.length=D.np then Hq (Bp G D.body (Dr D ts))else none) (fun ts=>if ts.length=D.np then Mn (Bp G D.body (Dr D ts))else none):=by
 have main:∀{A l F s args us ts o}{R:Result->Shared->Prop},Room (k+1) A->St P A l F s->BindsTo s (W.fnOf name qual params body scope dV kV doc pm an cdv ct) args (ps.zip us)->Reps P.w F ts us->ts.length=D.np->Bp G D.body (Dr D ts)=some o->
   (∀u t s',Hq (some o)=some t->Res P.w F s t u s'->R (.ok (.ret u)) s')->∀L,(∀x n e s',o=.rs x n->Err false P L (frs l) s x n e s'->R (.error e) s')->codeAny P.M A (.call (.ref f) args) R s:=by
  intro A l F s args us ts o R hr h hbi r hl q h1 L h2;rw[hp]at hl;have KX:P.K.In s.heap:=h.mod.kin.keeps h.bk;have hkind:∀y∈ps.zip us,scope.names.lookup y.1=some .local\/(scope.names.lookup y.1=some .cell/\((cellsFrom (s.heap.objs.size+1) scope.names []).lookup y.1).isSome=true):=fun⟨n,v⟩ hy=>(S.par n (List.of_mem_zip hy).1).imp id fun q=>⟨q,W.cellsFrom_some _ _ _ (.inl q)⟩;refine codeAny_call_function (by have:=hr.dp;lia) (KX _ _ lk) rfl S.co S.gen rfl (W.codeRec_of KX hcd) (hbi _ _ _ _ ?_);refine wpAny_newFunctionEnv_cells S.kind hkind fun env he s1 x=>?_;subst he;refine⟨(h.mod.nolimit.keeps h.bk).keeps x.toInCall.keep,codeAny_func ?_⟩;have I:=Ry (D:=D) S h r hl hn x;refine Eh (hb (hr.deeper _) I q) (fun fl s' z=>?_) fun e s' z=>?_
  .cases fl<;>cases o<;>first|exact z.elim|skip
   .obtain⟨ad,F',_,z⟩:=z;exact h1 _ _ _ rfl ⟨F',z.up,rfl⟩
   .exact h1 _ _ _ rfl z.1
  .obtain⟨x,n,rfl,z1,z2⟩:=z;exact Eh (eG (E:=No) (L':=L) (I.toSt.frames) z2 rfl I.lab (fun b hb=>hb) (fun b hb=>let⟨_,o,q,_⟩:=(h.funs hca).mem hb;⟨o,q⟩) z1) (fun _ s2 q=>h2 x n e s2 rfl q) fun _ _ q=>q.elim
 refine⟨fun{A l F s args us ts t}hr h hbi r q=>?_,fun{A l F s args us ts x n}L hr h hbi r q=>?_⟩<;>split at q
 .rename_i hl;obtain⟨o,e,q⟩:∃o,Bp G D.body (Dr D ts)=some o/\Hq (some o)=some t:=by
   cases e:Bp G D.body (Dr D ts)with
   |none=>rw[e]at q;cases q
   |some o=>exact⟨o,rfl,by rw[<-e];exact q⟩
  refine main hr h hbi r hl e (fun u t' s' e1 z=>?_) 0 fun x n e s' e1 _=>?_
  .rw[q]at e1;cases e1;exact⟨u,rfl,z⟩
  .subst e1;cases q
 .cases q
 .rename_i hl;have e:Bp G D.body (Dr D ts)=some (.rs x n):=by
   cases e:Bp G D.body (Dr D ts)with
   |none=>rw[e]at q;cases q
   |some o=>rw[e]at q;cases o<;>cases q;rfl
  exact main hr h hbi r hl e (fun u t' s' e1 z=>by cases e1) L fun x' n' w s' e1 z=>by cases e1;exact⟨w,rfl,z⟩
 .cases q
end
section
variable {Y:Yc}{N:Str->Nat->Prop}{F:Fz}{s:Shared}{r:Ev.Env}{E:Value->Shared->Prop}{x:Str}{a b e:Expr}{es rest:List Expr}{f g:Ev.Env->a7 T}{pos p:Pos}{u:Value}{Q:Value->Shared->Prop}
def Gl(Y:Yc)(x:Str):Prop:=Y.env.kindOf x=some .globalImplicit
theorem M3(A:At Y N r F s)(hg:Gl Y x)(hm:Y.mg x=some u)(h:Q u s)(hd:(x==("__debug__":Str))=false):wpAny Y.M Y.A (eval (.Name x pos) Y.env) Q E s :=
 Calls.Name_function_global A.ok.kind hg (Calls.loadGlobal_global (by rw[A.ok.glob];exact A.mod.glob.keeps A.bk) hm h) hd
theorem It(A:At Y N r F s)(hg:Gl Y x)(hm:Y.mg x=none)(hv:bootBuiltins x=some u)(h:Q u s)(hn:x≠"__name__")(hd:(x==("__debug__":Str))=false):wpAny Y.M Y.A (eval (.Name x pos) Y.env) Q E s:=by obtain⟨mb,h1,h2⟩:=A.mod.blt;exact Calls.Name_function_global A.ok.kind hg (Calls.loadGlobal_builtin (by rw[A.ok.glob];exact A.mod.glob.keeps A.bk) hm (by rw[A.ok.blt];exact h1.keeps A.bk) ((h2 x hn).trans hv) h) hd
theorem l5{sp:List T->a7 T}{ex:List T->a7 (Str×Int)}{g:Ev.Env->a7 (List T)}{k:Nat}{f:Addr}{fd:FuncData}{ps:List Str}(hF:Fn Y.toPc k f fd ps sp ex)(hr:Room k Y.A)(hg:Gl Y x)(hm:Y.mg x=some (.ref f))(hk:W.keepIn Y.K (.ref f)=true)(hb:∀us:List Value,us.length=ps.length->bindArgs fd ⟨us,[]⟩=pure (ps.zip us))(hl:∀{ts t},sp ts=some t->ts.length=ps.length)(ha:Oks Y N (e::es) g)(hd:(x==("__debug__":Str))=false)(he:starEach (e::es) Y.env=(false,eval e Y.env)::starEach es Y.env)(hpl:(backTo pos (starEach es Y.env)).any (·.1)=false):Oke Y N (.Call (.Name x p) (e::es) [] pos) fun r=>(g r).bind sp:=fun{s F r t E}A q=>by
 obtain⟨ts,e1,q⟩:=obs q;refine wpAny_Call_Name_kw (M3 A hg hm ?_ hd);refine W.callWith_K (h₀:=Y.base) A.mod.kin hk (thn (ha pos A e1) fun us s1 z=>?_) he hpl;obtain⟨G,u,rs⟩:=z;have A1:=A.up u;refine⟨A.mod.kin.keeps A1.bk,wpAny_call (codeAny_mono (hF.run hr A1.toSt (.of_eq (hb us (by rw[rs.length];exact hl q))) rs q) fun r s2 z=>?_)⟩;obtain⟨v,rfl,z⟩:=z;exact Res.mk u z
theorem Y3(h:Oke Y N e f)(he:∀w,isTrue e Y.env w=(do let v <-w;standAt e.pos;holding [v] (truthy v)))(hf:∀{r t},f r=some t->∃b,t=.bl b):Okb Y N e f:=fun A q=>by obtain⟨b,rfl⟩:=hf q;refine isTrue_plain (thn (h A q) fun v s1 z=>?_) (he _);obtain⟨G,u,rfl⟩:=z;exact wpAny_truthy_bool ⟨G,u,rfl⟩
theorem dw(h:Okb Y N a f):Okb Y N (.UnaryOp .Not a pos) fun r=>(f r).bind fun x=>match x with
  |.bl b=>some (.bl (!b))
  |_=>none:=fun A q=>by
 obtain⟨x,e,q⟩:=obs q;refine isTrue_not (thn (h A e) fun b s1 z=>?_);obtain⟨G,u,rfl⟩:=z;cases q;exact⟨G,u,rfl⟩
end
end Nb
section
namespace HT
open PySem PyProof.Rows Ev
variable {t sl:Addr}{Q:Value->Shared->Prop}{vl vu:Value}{lo hi:a7 Int}
open AutoSeq1 (wpAny_loadPart')
section
variable {prog:Program}{w:World}{A:Around}{E:Value->Shared->Prop}{s:Shared}
theorem cat_tup{b:Addr}{vs ws:List Value}(ht:IsTup s.heap t vs.toArray)(hb:IsTup s.heap b ws.toArray)(hv:vs≠[])(h1:ws=[]->Q (.ref t) s)(h2:ws≠[]->Q (.ref s.heap.objs.size) {s with heap:=s.heap.push {cls:=.type "tuple",data:=.seq (vs++ws).toArray} })(hsz:vs.length+ws.length<=sizeLine):wpAny (model prog w) A (binaryOp .Add (.ref t) (.ref b)) Q E s:=by
 obtain⟨⟨cls,dd,data,sl⟩,ho,hc,n,hd⟩:=id ht;obtain⟨⟨cls2,dd2,data2,sl2⟩,ho2,hc2,n2,hd2⟩:=id hb;simp only at hc hd hc2 hd2;subst hc hd hc2 hd2;have e:vs.toArray++ws.toArray=(vs++ws).toArray:=by simp
 by_cases hw:ws=[]
 .exact concat_meets ⟨_,ho,rfl⟩ ⟨_,ho2,rfl⟩ noFill_tuple_add seq_tuple_add PySem.F.slot_tuple_add PySem.F.entry_tuple_add (PySem.F.args_tuple_add_2 _ _)
   (tuple_addW1 t b vs.toArray ws.toArray n n2 dd dd2 sl sl2 (by simpa using hv) (by simp[hw])) ⟨ho,ho2,h1 hw⟩
 .refine concat_meets ⟨_,ho,rfl⟩ ⟨_,ho2,rfl⟩ noFill_tuple_add seq_tuple_add PySem.F.slot_tuple_add PySem.F.entry_tuple_add (PySem.F.args_tuple_add_2 _ _)
   (tuple_addW2 t b vs.toArray ws.toArray n n2 dd dd2 sl sl2 (by simpa using hv) (by simpa using hw) (by rw[Ss,Ss];exact hsz)) ⟨ho,ho2,?_⟩
  rw[e];exact h2 hw
theorem iI(n d:Nat)(hd:d<=n)(o:a7 Int):Bg n d o<=n:=by
 cases o with
 |none=>exact hd
 |some v=>
  show(if v<0 then(v+(n:Int)).toNat else min v.toNat n)<=n;by_cases hv:v<0
  .rw[if_pos hv];lia
  .rw[if_neg hv];exact Nat.min_le_right _ _
theorem aX(v:Int)(n d:Nat):(if v<0 then max (v+(n:Int)) 0 else min v (n:Int))=((Bg n d (some v):Nat):Int):=by
 show(if v<0 then max (v+(n:Int)) 0 else min v (n:Int))=(((if v<0 then(v+(n:Int)).toNat else min v.toNat n):Nat):Int);by_cases hv:v<0
 .simp only[if_pos hv];lia
 .simp only[if_neg hv];lia
theorem nW(lo hi:a7 Int)(n:Nat):Builtin.Slice.sliceAdjust lo hi 1 (n:Int)=(((Bg n 0 lo:Nat):Int),((Bg n n hi:Nat):Int)):=by
 have h1:¬((1:Int)<0):=by lia
 unfold Builtin.Slice.sliceAdjust;simp only[h1,if_false];refine Prod.ext ?_ ?_
 .cases lo with
  |none=>rfl
  |some v=>exact aX v n 0
 .cases hi with
  |none=>rfl
  |some v=>exact aX v n n
theorem l6(i j:Nat):Builtin.Slice.slicePlaces (i:Int) (j:Int) 1=j-i:=by
 unfold Builtin.Slice.slicePlaces;have h1:(1:Int)>0:=by lia
 simp only[h1,if_true,Int.ediv_one];split<;>lia
theorem Xm{v:Value}{o:a7 Int}{Q:a7 Int->Shared->Prop}(p:IsPart v o)(h:Q o s):wpAny (model prog w) A (Builtin.Slice.slicePartIndex v) Q E s:=by
 cases p with
 |none=>exact slicePart_none h
 |int i t=>exact slicePart_int h
theorem Zx{n:Nat}{Q:Int×Int×Nat->Shared->Prop}(hs:s.heap.IsSliceOf sl vl vu .none)(pl:IsPart vl lo)(pu:IsPart vu hi)(h:Q (((Bg n 0 lo:Nat):Int),1,Bg n n hi-Bg n 0 lo) s):wpAny (model prog w) A (Builtin.Slice.sliceApplied (.ref sl) (pure (n:Int))) Q E s:=by
 obtain⟨os,hos,hcs,hds⟩:=id hs;unfold Builtin.Slice.sliceApplied Builtin.Slice.sliceFields;refine Aa (Aa (Di hos hds (x:=vl) rfl (Aa (Di hos hds (x:=vu) rfl (Aa (Di hos hds (x:=.none) rfl (Af ?_)))))));refine Aa (slicePart_none ?_);show wpAny _ _ (if((1:Int)==0)=true then _ else _) _ _ s;rw[if_neg (by decide)];refine Aa (Xm pl (Aa (Xm pu (Aa (Af ?_)))));show wpAny _ _ (match Builtin.Slice.sliceAdjust lo hi 1 (n:Int)with|(lo,hi)=>pure (lo,(1:Int),Builtin.Slice.slicePlaces lo hi 1)) _ _ s;rw[nW lo hi n];show wpAny _ _ (pure (((Bg n 0 lo:Nat):Int),(1:Int),Builtin.Slice.slicePlaces ((Bg n 0 lo:Nat):Int) ((Bg n n hi:Nat):Int) 1)) _ _ s;rw[l6];exact Af h
theorem mG(xs:Array Value)(i k:Nat):((List.range k).filterMap fun(m:Nat)=>xs[((i:Int)+(m:Int)*1).toNat]?).toArray=((xs.toList.drop i).take k).toArray:=by
 have e:(fun(m:Nat)=>xs[((i:Int)+(m:Int)*1).toNat]?)=fun m=>xs[i+m]?:=by
  funext m;have:((i:Int)+(m:Int)*1).toNat=i+m:=by lia
  rw[this]
 rw[e];have:=pick_run xs i k;rw[List.filterMap_map]at this;have e2:((fun x=>xs[x]?)∘fun x=>i+x)=fun m=>xs[i+m]?:=rfl;rw[e2]at this;rw[this]
theorem getItem_tuple_cut{items:Array Value}(ht:IsTup s.heap t items)(hs:s.heap.IsSliceOf sl vl vu .none)(pl:IsPart vl lo)(pu:IsPart vu hi)(hw:¬(Bg items.size 0 lo=0/\Bg items.size items.size hi=items.size))(h:Q (.ref s.heap.objs.size) {s with heap:=s.heap.push {cls:=.type "tuple",data:=.seq ((items.toList.drop (Bg items.size 0 lo)).take (Bg items.size items.size hi-Bg items.size 0 lo)).toArray} })(hsz:items.size<=sizeLine):wpAny (model prog w) A (getItem (.ref t) (.ref sl)) Q E s:=by
 have htake:sizeOk (.seq ((items.toList.drop (Bg items.size 0 lo)).take (Bg items.size items.size hi-Bg items.size 0 lo)).toArray):=by show((items.toList.drop (Bg items.size 0 lo)).take (Bg items.size items.size hi-Bg items.size 0 lo)).toArray.size<=sizeLine;rw[Mh,Kf,Vr,E7];lia
 have hj:Bg items.size items.size hi<=items.size:=iI _ _ (Dn _) hi;obtain⟨os,hos,hcs,hds⟩:=id hs;have hTs:s.TypeIs (.ref sl) "slice":=⟨os,hos,hcs⟩;unfold getItem
 try with_reducible refine E6 ?_
 first|refine Aa (Af ?_)|skip
 refine Aa (wpAny_sequenceKey ht.typeIs (by decide) ?_);refine Aa (Gi (name:=Str.ofString "__getitem__") ht.typeIs PyProof.Rows.slot_tuple_getitem
  (Ek PyProof.Rows.slot_tuple_getitem ht.typeIs entry_tuple_getitem ?_ (args_tuple_getitem _ _)))
 show wpAny _ _ (Builtin.Tuple.tupleItemsOf (.ref t) >>= _) _ _ s;refine Aa (tupleItemsOf_ ht ?_);refine Aa (wpAny_typeOf hTs ?_);rw[if_pos (by decide)];refine Aa (Zx hs pl pu ?_);have hno:¬((((Bg items.size 0 lo:Nat):Int)==0&&(1:Int)==1&&(Bg items.size items.size hi-Bg items.size 0 lo)==items.size)=true):=by intro q;rw[Cy,Cy]at q;have q1:((Bg items.size 0 lo:Nat):Int)=0:=Fh q.1.1;have q2:Bg items.size items.size hi-Bg items.size 0 lo=items.size:=Fh q.2;exact hw ⟨by lia,by lia⟩
 show wpAny _ _ (if(((Bg items.size 0 lo:Nat):Int)==0&&(1:Int)==1&&(Bg items.size items.size hi-Bg items.size 0 lo)==items.size)=true then _ else _) _ _ s;rw[if_neg hno,mG]
 first
  |exact Aa (m:=Builtin.Tuple.tupleExact _) (Gn (Af ⟨_,rfl,Af h⟩) htake)
  |exact Aa (m:=Builtin.Tuple.tupleExact _) (Gn (Aa (Af (Af ⟨_,rfl,Af h⟩))) htake)
  |exact Aa (Aa (m:=Builtin.Tuple.tupleExact _) (Gn (Af (Af ⟨_,rfl,Af h⟩)) htake))
  |exact Aa (Aa (m:=Builtin.Tuple.tupleExact _) (Gn (Af ⟨_,rfl,Af h⟩) htake))
theorem get_whole{zs:Array Value}(ht:IsTup s.heap t zs)(hs:s.heap.IsSliceOf sl vl vu .none)(pl:IsPart vl lo)(pu:IsPart vu hi)(hw:Bg zs.size 0 lo=0/\Bg zs.size zs.size hi=zs.size)(h:Q (.ref t) s):wpAny (model prog w) A (getItem (.ref t) (.ref sl)) Q E s:=by
 obtain⟨os,hos,hcs,hds⟩:=id hs;have hT:s.TypeIs (.ref sl) "slice":=⟨os,hos,hcs⟩;unfold getItem
 try with_reducible refine E6 ?_
 first|refine Aa (Af ?_)|skip
 refine Aa (wpAny_sequenceKey ht.typeIs (by decide) ?_);refine Aa (Gi (name:=Str.ofString "__getitem__") ht.typeIs PyProof.Rows.slot_tuple_getitem (Ek PyProof.Rows.slot_tuple_getitem ht.typeIs PyProof.Rows.entry_tuple_getitem ?_ (PyProof.Rows.args_tuple_getitem _ _)));show wpAny _ _ (Builtin.Tuple.tupleItemsOf (.ref t) >>= _) _ _ s;refine Aa (tupleItemsOf_ ht ?_);refine Aa (wpAny_typeOf hT ?_);rw[if_pos (by decide)];refine Aa (Zx hs pl pu ?_);have hyes:(((Bg zs.size 0 lo:Nat):Int)==0&&(1:Int)==1&&(Bg zs.size zs.size hi-Bg zs.size 0 lo)==zs.size)=true:=by rw[hw.1,hw.2];simp
 show wpAny _ _ (if(((Bg zs.size 0 lo:Nat):Int)==0&&(1:Int)==1&&(Bg zs.size zs.size hi-Bg zs.size 0 lo)==zs.size)=true then _ else _) _ _ s;rw[if_pos hyes];refine Aa (show wpAny _ _ (Builtin.Tuple.tupleIsExact (.ref t)) _ _ s from ?_);unfold Builtin.Tuple.tupleIsExact;refine Aa (wpAny_typeOf ht.typeIs (Af ?_));simp only[beq_self_eq_true,if_true];exact Aa (wpAny_rule (Af ⟨_,rfl,Af h⟩))
theorem fN(lo hi:a7 Int)(n:Nat):(sliceBounds lo hi none n).1=((Bg n 0 lo:Nat):Int)/\(sliceBounds lo hi none n).2.1=((Bg n n hi:Nat):Int)/\(sliceBounds lo hi none n).2.2=1:=by
 refine⟨?_,?_,rfl⟩
 .cases lo with
  |none=>simp[sliceBounds,Bg]
  |some i=>
   simp only[sliceBounds,Bg,Option.getD_none,show(1:Int)>0 by decide,if_true];by_cases h:i<0
   .simp only[h,if_true]<;>lia
   .simp only[h,if_false]<;>lia
 .cases hi with
  |none=>simp[sliceBounds,Bg]
  |some i=>
   simp only[sliceBounds,Bg,Option.getD_none,show(1:Int)>0 by decide,if_true];by_cases h:i<0
   .simp only[h,if_true]<;>lia
   .simp only[h,if_false]<;>lia
theorem slicePick_cut(qc:List Value)(lo hi:a7 Int):slicePick qc.toArray lo hi none=((qc.drop (Bg qc.length 0 lo)).take (Bg qc.length qc.length hi-Bg qc.length 0 lo)).toArray:=by obtain⟨h1,h2,h3⟩:=fN lo hi qc.toArray.size;unfold slicePick;rw[h1,h2,h3];simp only[sliceRange_one,pick_run,List.size_toArray]<;>rfl
theorem foldl_rep(qc:List Value):∀(k:Nat)(acc:List Value),List.foldl (fun x1 x2=>x1++x2) acc.toArray (List.replicate k qc.toArray)=(acc++(List.replicate k qc).flatten).toArray
 |0,acc=>by simp
 |k+1,acc=>by
  have e:acc.toArray++qc.toArray=(acc++qc).toArray:=by simp
  have e2:(acc++qc)++(List.replicate k qc).flatten=acc++(List.replicate (k+1) qc).flatten:=by rw[List.replicate_succ,List.flatten_cons,K9]
  rw[<-e2,<-foldl_rep qc k (acc++qc),<-e,List.replicate_succ,List.foldl_cons]
end
end HT
section
namespace Nb
open PySem Spec PyProof.Rows Ev
section
variable {n:Nat}{qc:Array Value}
theorem Kq(h:n<=SZ):n<=sizeLine:=Cr h (by rw[Ew];exact Dn _)
theorem Reps.app{F:Fz}{w:World}:∀{ts us:List T}{a b:List Value},Reps w F ts a->Reps w F us b->Reps w F (ts++us) (a++b)
 |[],_,_,_,h,q=>by cases h;exact q
 |_::_,_,_,_,⟨_,_,e,h1,h2⟩,q=>by subst e;exact .cons h1 (h2.app q)
theorem Reps.take{F:Fz}{w:World}:∀{ts:List T}{a:List Value}(n:Nat),Reps w F ts a->Reps w F (ts.take n) (a.take n)
 |_,_,0,_=>rfl
 |[],_,_+1,h=>by cases h;rfl
 |_::_,_,n+1,⟨_,_,e,h1,h2⟩=>by subst e;exact .cons h1 (h2.take n)
theorem Reps.drop{F:Fz}{w:World}:∀{ts:List T}{a:List Value}(n:Nat),Reps w F ts a->Reps w F (ts.drop n) (a.drop n)
 |_,_,0,h=>h
 |[],_,_+1,h=>by cases h;rfl
 |_::_,_,n+1,⟨_,_,e,h1,h2⟩=>by subst e;exact h2.drop n
theorem Reps.rep{F:Fz}{w:World}{ts:List T}{us:List Value}(h:Reps w F ts us):∀k:Nat,Reps w F (List.replicate k ts).flatten (List.replicate k us).flatten
 |0=>rfl
 |k+1=>by rw[List.replicate_succ,List.replicate_succ,List.flatten_cons,List.flatten_cons];exact h.app (h.rep k)
variable {Y:Yc}{N:Str->Nat->Prop}{F G:Fz}{s s1:Shared}{r:Ev.Env}{E:Value->Shared->Prop}{a b e:Expr}{f g h:Ev.Env->a7 T}{pos p2:Pos}{u v:Value}{ts us:List T}
theorem mq{k:Nat}(h:F.In s.heap)(q:Reps Y.w F ts qc.toList)(z:qc.size<=sizeLine):Res Y.w F s (.tup ts) (.ref s.heap.objs.size) {s with heap:=s.heap.push {cls:=.type "tuple",data:=.seq qc},toks:=k}:=Q7 (us:=qc.toList) h q (by simpa using z)
theorem mN{k:Nat}(h:F.In s.heap)(q:Reps Y.w F ts qc.toList)(z:qc.size<=sizeLine):Res Y.w F s (.lst ts) (.ref s.heap.objs.size) {s with heap:=s.heap.push {cls:=.type "list",data:=.seq qc},toks:=k}:=R2 (us:=qc.toList) h q (by simpa using z)
theorem fG{a b:Addr}{oa ob:Obj}{xs ys:Array Value}{m:Nat}(hF:F.In s.heap)(h1:F a=some oa)(c1:oa.cls=.type "tuple")(d1:oa.data=.seq xs n)(h2:F b=some ob)(c2:ob.cls=.type "tuple")(d2:ob.data=.seq ys m)(r1:Reps Y.w F ts xs.toList)(r2:Reps Y.w F us ys.toList)(hx:xs.size<=sizeLine)(hy:ys.size<=sizeLine)(hz:xs.size+ys.size<=sizeLine):wpAny Y.M Y.A (binaryOp .Add (.ref a) (.ref b)) (Res Y.w F s (.tup (ts++us))) E s:=by
 have ha:=hF _ _ h1;have hb:=hF _ _ h2;obtain⟨cls,dd,data,sl⟩:=oa;obtain⟨cls2,dd2,data2,sl2⟩:=ob;simp only at c1 d1 c2 d2;subst c1 d1 c2 d2;by_cases hxs:xs.toList=[]
 .have e:xs=#[]:=by simpa using hxs
  subst e;cases ts with
  |nil=>exact concat_meets ⟨_,ha,rfl⟩ ⟨_,hb,rfl⟩ noFill_tuple_add seq_tuple_add PySem.F.slot_tuple_add PySem.F.entry_tuple_add (PySem.F.args_tuple_add_2 _ _) (tuple_addW0 a b _ _ n m dd dd2 sl sl2 (by simp)) ⟨ha,hb,Ez hF ⟨b,_,ys,m,rfl,h2,rfl,rfl,hy,r2⟩⟩
  |cons _ _=>obtain⟨_,_,e,_⟩:=r1;cases e
 .refine HT.cat_tup (vs:=xs.toList) (ws:=ys.toList) ⟨_,ha,rfl,n,rfl⟩ ⟨_,hb,rfl,m,rfl⟩ hxs (fun hw=>?_) (fun _=>?_) (by simpa using hz)
  .cases us with
   |nil=>rw[Jv];exact Ej hF ⟨a,_,xs,n,rfl,h1,rfl,rfl,hx,r1⟩
   |cons _ _=>obtain⟨_,_,e,_⟩:=r2;rw[hw]at e;cases e
  .exact Q7 (k:=s.toks) hF (r1.app r2) (by simpa using hz)
theorem bZ:Op2 Y (binaryOp .Add) Lv:=fun{s F x y t u v E}S hx hy h=>by
 cases x with
 |int i=>cases y with
  |int j=>cases h;obtain⟨_,rfl⟩:=hx;obtain⟨_,rfl⟩:=hy;exact add_int (Ez S.fh ⟨_,rfl⟩)
  |_=>cases h
 |lst i=>cases y with
  |lst j=>
   replace h:(if i.length+j.length<=SZ then some (T.lst (i++j))else none)=some t:=h;split at h
   .rename_i hz;cases h;obtain⟨a,xs,n,rfl,h1,z1,r1⟩:=hx;obtain⟨b,ys,m,rfl,h2,z2,r2⟩:=hy;have hz:xs.size+ys.size<=sizeLine:=by rw[E8 r1,E8 r2];exact Kq hz
    exact PySem.P.add_list (S.fh _ _ h1) (S.fh _ _ h2) (mN (k:=s.toks) S.fh (by simpa using r1.app r2) (by simpa using hz)) hz
   .cases h
  |_=>cases h
 |tup i=>cases y with
  |tup j=>
   replace h:(if i.length+j.length<=SZ then some (T.tup (i++j))else none)=some t:=h;split at h
   .rename_i hz;cases h;obtain⟨a,oa,xs,n,rfl,h1,c1,d1,z1,r1⟩:=hx;obtain⟨b,ob,ys,m,rfl,h2,c2,d2,z2,r2⟩:=hy;exact fG S.fh h1 c1 d1 h2 c2 d2 r1 r2 z1 z2 (by rw[E8 r1,E8 r2];exact Kq hz)
   .cases h
  |_=>cases h
 |_=>cases h
theorem jW{a:Addr}{k:Int}{t:Tok}(hF:F.In s.heap)(h1:F a=some {cls:=.type "list",data:=.seq qc n})(r:Reps Y.w F ts qc.toList)(k0:0<=k)(k1:k<=1000)(hl:ts.length<=1000):wpAny Y.M Y.A (binaryOp .Mult (.ref a) (.int k t)) (Res Y.w F s (.lst (List.replicate k.toNat ts).flatten)) E s:=by
 have e:=hF _ _ h1;have hz:qc.size*k.toNat<=1000000:=by rw[E8 r];exact Nat.mul_le_mul hl (show k.toNat<=1000 by lia)
 have hsz:(1000000:Nat)<=sizeLine:=by decide
 have e63:(2:Int) ^ 63=9223372036854775808:=by decide
 have hfit:¬(!Builtin.List.listFitsIndex k)=true:=by rw[fitsIndex_both (by rw[e63];lia) (by rw[e63];lia)];exact Fg
 have hlong:¬Builtin.List.listTooLong (qc.size*k.toNat)=true:=by unfold Builtin.List.listTooLong;simp;lia
 have hnew:List.foldl (fun x1 x2=>x1++x2) #[] (List.replicate (if qc.isEmpty=true then 0 else k.toNat) qc)=(List.replicate k.toNat qc.toList).flatten.toArray:=by
  have f0:∀m:Nat,List.foldl (fun x1 x2=>x1++x2) #[] (List.replicate m qc)=(List.replicate m qc.toList).flatten.toArray:=fun m=>by have:=HT.foldl_rep qc.toList m [];rw[List.nil_append]at this;exact this
  rw[f0];rcases qc with⟨qc⟩;cases qc with
  |nil=>simp
  |cons a r'=>rw[if_neg (by simp)]
 refine wpAny_binaryOp_repeat_ref (T:="list") (U:="int") (by decide) ⟨_,e,rfl⟩ (fun s'=>typeIs_int s' k t) noFill_list_mul PySem.F.fills_int_mul PySem.F.slot_int_rmul repeat_list PySem.F.slot_int_index.lookup
  (call_meets PySem.F.slot_int_rmul (typeIs_int s k t) PySem.F.entry_int_rmul (PySem.F.args_int_rmul_2 _ _) (int___rmul___int_list k t a qc n)
   ⟨e,rfl,⟨_,e,rfl⟩,call_meets PySem.F.slot_list_mul ⟨_,e,rfl⟩ PySem.F.entry_list_mul (PySem.F.args_list_mul_2 _ _) (AutoListH.list___mul___list_int_3 a qc n k t hfit (by lia) hlong) ⟨e,?_⟩⟩)
 rw[hnew];refine R2 (k:=s.toks) hF (r.rep k.toNat) ?_;rw[(r.rep k.toNat).length];have:(List.replicate k.toNat ts).flatten.length=k.toNat*ts.length:=by simp
 rw[this,Nat.mul_comm,<-E8 r];lia
theorem oq:Op2 Y (binaryOp .Mult) Nh:=fun{s F x y t u v E}S hx hy h=>by
 cases x with
 |int i=>cases y with
  |int j=>
   replace h:(if(Jm i||Jm j)=true then some (T.int (i*j))else none)=some t:=h;split at h
   .rename_i hz;cases h;obtain⟨_,rfl⟩:=hx;obtain⟨_,rfl⟩:=hy;refine mul_int (Ez S.fh ⟨_,rfl⟩) ?_;rw[Bool.or_eq_true]at hz;have e64:(2:Int) ^ 64=18446744073709551616:=by decide
    rcases hz with hz|hz<;>simp only[Jm,Bool.and_eq_true,decide_eq_true_eq]at hz
    .exact .of_left (intBits_le_64 (by rw[e64];exact hz.1) (by rw[e64];exact hz.2))
    .exact .of_right (intBits_le_64 (by rw[e64];exact hz.1) (by rw[e64];exact hz.2))
   .cases h
  |_=>cases h
 |lst i=>cases y with
  |int j=>
   replace h:(if 0<=j/\j<=1000/\i.length<=1000 then some (T.lst (List.replicate j.toNat i).flatten)else none)=some t:=h;split at h
   .rename_i hz;cases h;obtain⟨a,xs,n,rfl,h1,z1,r1⟩:=hx;obtain⟨_,rfl⟩:=hy;exact jW S.fh h1 r1 hz.1 hz.2.1 hz.2.2
   .cases h
  |_=>cases h
 |_=>cases h
theorem fy:Op2 Y (binaryOp .FloorDiv) Z8:=fun{s F x y t u v E}S hx hy h=>by
 cases x with
 |int i=>cases y with
  |int j=>
   replace h:(if 0<j/\j<1073741824 then some (T.int (i/j))else none)=some t:=h;split at h
   .cases h;obtain⟨_,rfl⟩:=hx;obtain⟨_,rfl⟩:=hy;exact floordiv_int (by lia) (by rw[Int.fdiv_eq_ediv_of_nonneg i (by lia)];exact Ez S.fh ⟨_,rfl⟩) (.inl (PyProof.noPylong_small (by lia)))
   .cases h
  |_=>cases h
 |_=>cases h
theorem eY:Op2 Y (binaryOp .Mod) N5:=fun{s F x y t u v E}S hx hy h=>by
 cases x with
 |int i=>cases y with
  |int j=>
   replace h:(if 0<j then some (T.int (i%j))else none)=some t:=h;split at h
   .cases h;obtain⟨_,rfl⟩:=hx;obtain⟨_,rfl⟩:=hy;exact mod_int' (by lia) (by rw[Int.fmod_eq_emod_of_nonneg i (by lia)];exact Ez S.fh ⟨_,rfl⟩)
   .cases h
  |_=>cases h
 |_=>cases h
end
section
mutual
def Dq:T->Nat
 |.tup xs=>Hv xs+1
 |_=>1
def Hv:List T->Nat
 |[]=>0
 |x::r=>Dq x+Hv r
end
theorem az:∀a b:List T,Hv (a++b)=Hv a+Hv b
 |[],b=>by simp[Hv]
 |x::a,b=>by simp[Hv,az a b,Nat.add_assoc]
theorem V0{w:World}:∀a b:List T,Fb w (a++b)=Fb w a++Fb w b
 |[],b=>by simp[Fb]
 |x::a,b=>by simp[Fb,V0 a b]
variable {prog:Program}{w:World}{F:Fz}{E:Value->Shared->Prop}
theorem Ql:∀(n:Nat)(t:T){A:Around}{s:Shared}{v:Value}{Q:Int->Shared->Prop},Bm n t=true->A.units+n<cLine->F.In s.heap->Rep w F t v->Q (Iw w t) {s with toks:=s.toks+Dq t}->wpAny (model prog w) A (pyHash v) Q E s:=fun n=>by
 induction n with
 |zero=>
  intro t A s v Q hk hA hF r q;cases t with
  |int i=>obtain⟨_,rfl⟩:=r;exact wpAny_pyHash_int q
  |str i=>obtain⟨_,rfl⟩:=r;exact wpAny_pyHash_str q
  |_=>simp[Bm]at hk
 |succ n ih=>
  intro t A s v Q hk hA hF r h;cases t with
  |int i=>obtain⟨_,rfl⟩:=r;exact wpAny_pyHash_int h
  |str i=>obtain⟨_,rfl⟩:=r;exact wpAny_pyHash_str h
  |tup ts=>
   have hk:∀x∈ts,Bm n x=true:=by simpa[Bm]using hk
   obtain⟨a,o,items,m,rfl,f1,hc,hd,_,rs⟩:=r;have ho:=hF _ _ f1;have hT:s.TypeIs (.ref a) "tuple":=⟨o,ho,hc⟩;unfold pyHash
   first|unfold pyHashByItsType|skip
   first|refine Aa (wpAny_cRoomFor_or (.inr (by lia)) ?_)|skip
   refine Aa (wpAny_specialOf hT PySem.F.slot_tuple_hash.lookup ?_);show wpAny _ _ (if(some (Value.builtin "tuple.__hash__")==some Value.none)=true then _ else _) Q E s;rw[if_neg (by rw[beq_builtin_none];exact Fg)];refine Aa (wpAny_specialOf hT PySem.F.slot_tuple_hash.lookup ?_);show wpAny _ _ (callSpecialIfBoundUnlessNone? (.ref a) "__hash__" _ >>= _) Q E s;refine Aa (wpAny_callSpecialIfBoundUnlessNone?_slot hT PySem.F.slot_tuple_hash (Ek PySem.F.slot_tuple_hash hT PySem.F.entry_tuple_hash ?_ (PySem.F.args_tuple_hash_1 _)));show wpAny _ _ (Builtin.Tuple.tupleItemsOf (.ref a) >>= _) _ _ s;refine Aa (wpAny_tupleItemsOf ho hd ?_);refine Aa ?_;rw[<-Array.forIn_toList];refine wpAny_forIn_list _
    (fun rest(b:Array Int)s'=>∃dn left,ts=dn++left/\Reps w F left rest/\b.toList=Fb w dn/\s'={s with toks:=s.toks+Hv dn})
    _ ?_ ?_ _ _ ⟨[],ts,rfl,rs,rfl,rfl⟩
   .rintro x rest b s' ⟨dn,left,rfl,hl,hb,rfl⟩;cases left with
    |nil=>cases hl
    |cons k left=>
     obtain⟨u,r',e,h1,h2⟩:=hl;cases e;refine wpAny_bind (ih k (hk k (by simp)) (show A.units+1+n<cLine by lia) hF h1 ?_);have fin:∃dn' left',dn++k::left=dn'++left'/\Reps w F left' rest/\(b.push (Iw w k)).toList=Fb w dn'/\({s with toks:=s.toks+Hv dn+Dq k}:Shared)={s with toks:=s.toks+Hv dn'}:=⟨dn++[k],left,by simp,h2,by rw[Array.toList_push,hb,V0];rfl,by rw[az];simp[Hv,Nat.add_assoc]⟩
     first
      |exact Af fin
      |exact Aa (Af (Af fin))
   .rintro b s' ⟨dn,left,rfl,hl,hb,rfl⟩;cases left with
    |cons _ _=>obtain⟨_,_,e,_⟩:=hl;cases e
    |nil=>
    rw[Jv]at h;show wpAny _ _ (retInt (Builtin.Tuple.tupleHashOf b.toList)) _ _ _;rw[hb];refine wpAny_ret_mkInt ?_;show wpAny _ _ (if(decide (-(2:Int) ^ 63<=Builtin.Tuple.tupleHashOf (Fb w dn))&&decide (Builtin.Tuple.tupleHashOf (Fb w dn)<2 ^ 63))=true then _ else _) Q E _;rw[Iw,Dq]at h;unfold reduceHash at h;by_cases hr:(decide (-(2:Int) ^ 63<=Builtin.Tuple.tupleHashOf (Fb w dn))&&decide (Builtin.Tuple.tupleHashOf (Fb w dn)<2 ^ 63))=true
    .rw[if_pos hr];rw[if_pos hr]at h;exact wpAny_pure (by simpa[Nat.add_assoc]using h)
    .rw[if_neg hr];rw[if_neg hr]at h;exact wpAny_bind (wpAny_rule (wpAny_pure (by simpa[Nat.add_assoc]using h)))
  |_=>simp[Bm]at hk
theorem om:∀(n m:Nat)(t:T){A:Around}{s:Shared}{v:Value}{Q:Bool->Shared->Prop},Bm n t=true->n<=m->F.In s.heap->Rep w F t v->Q true s->wpAny (model prog w) A (eqIsQuiet m v) Q E s:=fun n=>by
 induction n with
 |zero=>
  intro m t A s v Q hk hm hF r q;cases t with
  |int i=>obtain⟨_,rfl⟩:=r;rw[eqIsQuiet_byValue _ rfl];exact Af q
  |str i=>obtain⟨_,rfl⟩:=r;rw[eqIsQuiet_byValue _ rfl];exact Af q
  |_=>simp[Bm]at hk
 |succ n ih=>
  intro m t A s v Q hk hm hF r h;cases t with
  |int i=>obtain⟨_,rfl⟩:=r;rw[eqIsQuiet_byValue _ rfl];exact Af h
  |str i=>obtain⟨_,rfl⟩:=r;rw[eqIsQuiet_byValue _ rfl];exact Af h
  |tup ts=>
   have hk:∀x∈ts,Bm n x=true:=by simpa[Bm]using hk
   obtain⟨m,rfl⟩:∃k,m=k+1:=⟨m-1,by lia⟩;obtain⟨a,o,items,_,rfl,f1,hc,hd,_,rs⟩:=r;have ho:=hF _ _ f1;have hT:s.TypeIs (.ref a) "tuple":=⟨o,ho,hc⟩;unfold eqIsQuiet;refine Aa (wpAny_specialOf hT PySem.F.slot_tuple_eq.lookup ?_);show wpAny _ _ (isInstance (.ref a) (.type "tuple") >>= _) _ _ s;refine Aa (wpAny_isInstance hT isSubtype_tuple_tuple ?_);simp only[Bool.not_true,Bool.false_eq_true,if_false];refine Aa (Hi ho hd ?_);refine Aa ?_;show wpAny _ _ (forIn items _ _) _ _ s;rw[<-Array.forIn_toList];refine wpAny_forIn_list _ (fun rest r s'=>r.1=none/\s'=s/\∃left,Reps w F left rest/\∀x∈left,Bm n x=true) _ ?_ ?_ _ _ ⟨rfl,rfl,ts,rs,hk⟩
   .rintro v rest r s' ⟨hr,rfl,left,hl,hall⟩;cases left with
    |nil=>cases hl
    |cons k left=>obtain⟨u,r',e,h1,h2⟩:=hl;cases e;refine Aa (ih m k (hall k J8) (by lia) hF h1 ?_);simp only[Bool.not_true,Bool.false_eq_true,if_false];exact Af ⟨rfl,rfl,left,h2,fun u hu'=>hall u (G8 _ hu')⟩
   .rintro⟨r1,r2⟩ s' ⟨hr,rfl,_⟩;simp only at hr;subst hr;exact Af h
  |_=>simp[Bm]at hk
open Classical in
instance:DecidableEq T:=Classical.typeDecidableEq T
theorem Wz:∀(n:Nat)(x y:T),Bm n x=true->Bm n y=true->Bc x y<=n/\Ev.eqT x y=decide (x=y):=fun n=>by
 induction n with
 |zero=>intro x y hx hy;cases x<;>cases y<;>first|(simp[Bm]at hx hy;done)|(rename_i a b;exact⟨Nat.zero_le _,by by_cases h:a=b<;>simp[Ev.eqT,h]⟩)|exact⟨Nat.zero_le _,by simp[Ev.eqT]⟩
 |succ n ih=>
  intro x y hx hy;have two:∀xs ys:List T,(∀x∈xs,Bm n x=true)->(∀y∈ys,Bm n y=true)->Cz xs ys<=n/\eqTs xs ys=decide (xs=ys):=fun xs=>by
   induction xs with
   |nil=>intro ys _ _;cases ys<;>simp[Cz,eqTs]
   |cons x xs ih2=>
    intro ys hx hy;cases ys with
    |nil=>simp[Cz,eqTs]
    |cons y ys=>obtain⟨a1,a2⟩:=ih x y (hx _ (by simp)) (hy _ (by simp));obtain⟨b1,b2⟩:=ih2 ys (fun z hz=>hx z (by simp[hz])) (fun z hz=>hy z (by simp[hz]));rw[Cz,eqTs,a2,b2];exact⟨Nat.max_le.mpr ⟨a1,b1⟩,by by_cases h1:x=y<;>by_cases h2:xs=ys<;>simp[h1,h2]⟩
  cases x<;>cases y<;>first
   |(simp[Bm]at hx hy;done)
   |(rename_i xs ys;rw[Bc,Ev.eqT];obtain⟨a,b⟩:=two xs ys (by simpa[Bm]using hx) (by simpa[Bm]using hy);exact⟨by lia,by rw[b];by_cases h:xs=ys<;>simp[h]⟩)
   |(rename_i a b;exact⟨Nat.zero_le _,by by_cases h:a=b<;>simp[Ev.eqT,h]⟩)
   |exact⟨Nat.zero_le _,by simp[Ev.eqT]⟩
def Sh(w:World)(h:Heap)(t:T)(a:Addr):Prop:=Em t=true/\Rep w (fun b=>h.get? b) t (.ref a)
theorem Ig{t:T}(h:Em t=true):Bm 4 t=true:=by
 cases t with
 |tup xs=>simpa[Em,Bm]using h
 |_=>simp[Em]at h
theorem k6{F G:Fz}(k:∀b o,F b=some o->(∀es ep,o.data≠.dict es ep)->G b=some o):∀(n:Nat)(t:T){v:Value},Bm n t=true->Rep w F t v->Rep w G t v:=fun n=>by
 induction n with
 |zero=>intro t v hk r;cases t<;>first|exact r|(simp[Bm]at hk;done)
 |succ n ih=>
  intro t v hq r;cases t with
  |tup ts=>
   have hk:∀x∈ts,Bm n x=true:=by simpa[Bm]using hq
   obtain⟨a,o,qc,m,e,f,c,d,z,r⟩:=r;refine⟨a,o,qc,m,e,k _ _ f (fun _ _ w=>by rw[d]at w;cases w),c,d,z,?_⟩;clear e f d z hq
   induction ts generalizing qc with
   |nil=>exact r
   |cons t ts ih2=>obtain⟨u,r',e,r1,r2⟩:=r;have:=ih2 (fun x hx=>hk x (by simp[hx])) r'.toArray (by simpa using r2);exact⟨u,r',e,ih t (hk t (by simp)) r1,by simpa using this⟩
  |int _=>exact r
  |str _=>exact r
  |_=>simp[Bm]at hq
def bM(prog:Program)(w:World):HeapKind prog w T where
 is:=Sh w
 hash:=Iw w
 draws:=Dq
 room:=fun A=>A.units+50<cLine
 inj:=fun hx hy=>hx.2.inj hy.2
 keeps:=fun{h h' k a d o es ep}x ho hd hs=>⟨x.1,k6 (fun b o' e c=>(hs.2 b fun z=>by subst z;rw[ho]at e;cases e;exact c _ _ hd).trans e) 4 k (Ig x.1) x.2⟩
 pyHash:=fun hu hk h=>Ql (F:=fun b=>_) 4 _ (Ig hk.1) (by lia) (fun _ _ e=>e) hk.2 h
 eqBool:=fun{A E s x y a b Q}hu hx hy h=>by obtain⟨d1,d2⟩:=Wz 4 x y (Ig hx.1) (Ig hy.1);exact Os (F:=fun b=>s.heap.get? b) (fun _ _ e=>e) 4 A x y _ _ (by lia) d1 hx.2 hy.2 _ _ _ _ (by rw[d2];exact h)
 quiet:=fun hk h=>om (F:=fun b=>_) 4 8 _ (Ig hk.1) (by lia) (fun _ _ e=>e) hk.2 h
end
section
variable {prog:Program}{w:World}{F G:Fz}{A:Around}{E:Value->Shared->Prop}{s:Shared}{d b:Addr}{k:T}{ks:List T}{us:List Value}{es:Array DictEntry}{v u kv:Value}{o:Obj}{ep:Nat}
def Df(ks:List T)(k:T):a7 Nat:=ks.findIdx? fun x=>Ev.eqT x k
theorem d5:Bq ks k=(Df ks k).isSome:=by unfold Bq Df;rw[List.findIdx?_isSome]
theorem Hl{β:Type}:∀{ks:List T}{us:List β},us.length=ks.length->Aw ks us k=(Df ks k).bind fun i=>us[i]?
 |[],us,_=>by cases us<;>rfl
 |x::ks,[],h=>by cases h
 |x::ks,u::us,h=>by
  have ih:=Hl (ks:=ks) (us:=us) (by simpa using h);unfold Df at ih ⊢;rw[Aw,List.findIdx?_cons];by_cases z:Ev.eqT x k=true
  .simp[z]
  .rw[if_neg z,if_neg z,ih];cases List.findIdx? (fun x=>Ev.eqT x k) ks<;>rfl
theorem K6{β:Type}{x:β}:∀{ks:List T}{us:List β},us.length=ks.length->Bh ks us k x=match Df ks k with
  |some i=>us.set i x
  |none=>us++[x]
 |[],us,h=>by cases us<;>first|rfl|cases h
 |y::ks,[],h=>by cases h
 |y::ks,u::us,h=>by
  have ih:=K6 (x:=x) (ks:=ks) (us:=us) (by simpa using h);unfold Df at ih ⊢;rw[Bh,List.findIdx?_cons];by_cases z:Ev.eqT y k=true
  .simp[z]
  .rw[if_neg z,if_neg z,ih];cases List.findIdx? (fun x=>Ev.eqT x k) ks<;>rfl
theorem Mz:Ax ks k=match Df ks k with
  |some _=>ks
  |none=>ks++[k]:=by unfold Ax;rw[d5];cases Df ks k<;>rfl
theorem c7(h:Bj ks k=true):(Hc k=true/\∀x∈ks,Hc x=true)\/(Em k=true/\∀x∈ks,Em x=true):=by unfold Bj at h;rw[Bool.or_eq_true,Cy,Cy,En,En]at h;exact h
theorem V6(h:Bj ks k=true):Bm 4 k=true:=by
 rcases c7 h with⟨h,_⟩|⟨h,_⟩
 .cases k<;>first|rfl|cases h
 .exact Ig h
theorem Y7{k:T}(h:Hc k=true):∃x,k=.str x:=by cases k<;>first|exact⟨_,rfl⟩|cases h
theorem Reps.ix:∀{ts:List T}{us:List Value}{i:Nat}(r:Reps w F ts us)(h:i<us.length),∃t,ts[i]?=some t/\Rep w F t us[i]
 |[],_,_,r,h=>by cases r;cases h
 |t::ts,_,0,⟨u,r,e,r1,_⟩,h=>by subst e;exact⟨t,rfl,r1⟩
 |t::ts,_,i+1,⟨u,r,e,_,r2⟩,h=>by subst e;exact r2.ix (by simpa using h)
theorem au:∀{ts:List T}{i:Nat},(Fb w ts)[i]?=ts[i]?.map (Iw w)
 |[],_=>rfl
 |t::ts,0=>rfl
 |t::ts,i+1=>by rw[Fb];exact au
theorem entry{i:Nat}(hs:es.toList.map (·.hash)=Fb w ks)(r:Reps w F ks (es.toList.map (·.key)))(h:i<es.size):∃t,ks[i]?=some t/\Rep w F t es[i].key/\es[i].hash=Iw w t:=by obtain⟨t,e,q⟩:=r.ix (i:=i) (by simpa using h);refine⟨t,e,by simpa using q,?_⟩;have:=Av (·[i]?) hs;simp only[List.getElem?_map,au,e,Array.getElem?_toList,Array.getElem?_eq_getElem h,xms]at this;exact Fe this
theorem eM(h:Df ks k=none):∀x∈ks,Ev.eqT x k=false:=by simpa[Df,List.findIdx?_eq_none_iff]using h
theorem T5{Q:a7 Nat->Shared->Prop}(hA:A.units+50<cLine)(hF:F.In s.heap)(ho:s.heap.get? d=some o)(hd:Ll w ks o es ep)(r:Reps w F ks (es.toList.map (·.key)))(hk:Bj ks k=true)(rk:Rep w F k kv)(q:Q (Df ks k) s):wpAny (model prog w) A (dictFind d kv (Iw w k)) Q E s:=by
 have hl:es.size=ks.length:=by rw[<-r.length];simp
 rcases c7 hk with⟨h1,h2⟩|⟨h1,h2⟩
 .obtain⟨x,rfl⟩:=Y7 h1;obtain⟨tk,rfl⟩:=rk;have at':∀i(h:i<es.size),∃y t,ks[i]?=some (.str y)/\es[i].key=.str y t/\es[i].hash=hashStr w y:=fun i h=>by obtain⟨t,e,e1,e2⟩:=entry hd.hs r h;obtain⟨y,rfl⟩:=Y7 (h2 t (Ee e));obtain⟨t',e1⟩:=e1;exact⟨y,t',e,e1,e2⟩
  refine wpAny_dictFind_of (knd:=PySem.strKind prog w) (k:=x) (strKind_is ..) ho hd.dt (fun e he=>?_) ?_
  .obtain⟨i,hi,rfl⟩:=Array.getElem_of_mem he;obtain⟨y,t,_,e1,e2⟩:=at' i hi;exact⟨y,by rw[e1];exact strKind_is ..,e2⟩
  .have e:(es.findIdx? fun e=>(PySem.strKind prog w).is x e.key)=Df ks (.str x):=by
    unfold Df;rw[show(es.findIdx? fun e=>(PySem.strKind prog w).is x e.key)=es.toList.findIdx? fun e=>(PySem.strKind prog w).is x e.key by rcases es with⟨l⟩;simp];have hks:ks.length=es.toList.length:=by simpa using hl.symm
    rw[show(List.findIdx? (fun x_1=>Ev.eqT x_1 (T.str x)) ks)=List.findIdx? id (ks.map fun t=>Ev.eqT t (.str x)) by rw[List.findIdx?_map];rfl,show(List.findIdx? (fun e=>(PySem.strKind prog w).is x e.key) es.toList)=List.findIdx? id (es.toList.map fun e=>(PySem.strKind prog w).is x e.key) by rw[List.findIdx?_map];rfl];congr 1;refine List.ext_getElem? fun i=>?_;rw[Dm,Dm,Gb];by_cases hi:i<es.size
    .obtain⟨y,t,e,e1,e2⟩:=at' i hi;rw[e,Hb hi,Option.map_some,Option.map_some,e1,Ev.eqT]
     first|rfl|(congr 1;done)
    .rw[Array.getElem?_eq_none (by lia),Gx (by lia)];rfl
   rw[e];exact q
 .have kr:∀{t:T}{u:Value},Em t=true->Rep w F t u->∃a,u=.ref a/\Sh w s.heap t a:=fun{t u}h r=>by
   cases t with
   |tup ts=>obtain⟨a,_,_,_,e,_⟩:=id r;exact⟨a,e,h,by rw[<-e];exact r.mono fun b o e=>hF b o e⟩
   |_=>cases h
  obtain⟨a,rfl,ik⟩:=kr h1 rk;have eq:∀{x},x∈ks->Ev.eqT x k=decide (x=k):=fun hx=>(Wz 4 _ _ (Ig (h2 _ hx)) (Ig h1)).2;have ad:∀i:Fin es.size,∃p:T×Addr×Value,ks[i.1]?=some p.1/\es[i.1]=entryOfKey (bM prog w) p/\Sh w s.heap p.1 p.2.1:=fun⟨i,h⟩=>by obtain⟨t,e,e1,e2⟩:=entry hd.hs r h;obtain⟨a,e3,e4⟩:=kr (h2 t (Ee e)) e1;refine⟨(t,a,es[i].val),e,?_,e4⟩;show es[i]=⟨Iw w t,.ref a,es[i].val⟩;rw[<-e2,<-e3]
  obtain⟨p,hp⟩:=Classical.axiomOfChoice ad;have hget:∀{j:Nat}{k':T}{z},(List.ofFn p)[j]?=some (k',z)->ks[j]?=some k':=fun{j k' z}h=>by
   obtain⟨hj,e⟩:=ome h;have hj':j<es.size:=by simpa using hj
   have:=(hp ⟨j,hj'⟩).1;rw[List.getElem_ofFn]at e;rw[e]at this;exact this
  have hmap:(List.ofFn p).map (·.1)=ks:=List.ext_getElem? fun i=>by
   rw[Dm];by_cases hi:i<es.size
   .rw[List.getElem?_eq_getElem (by simpa using hi),List.getElem_ofFn,Option.map_some,(hp ⟨i,hi⟩).1]
   .rw[Gx (by simpa using hi),Gx (by lia)];rfl
  refine wpAny_dictFind_heap (knd:=bM prog w) (xs:=List.ofFn p) (k:=k) hA ik ho hd.dt ?_ (fun x hx=>?_) ?_ (fun h=>?_) fun j z h=>?_
  .refine List.ext_getElem? fun i=>?_;rw[Dm];by_cases hi:i<es.size
   .rw[List.getElem?_eq_getElem (by simpa using hi),List.getElem?_eq_getElem (by simpa using hi),List.getElem_ofFn,Option.map_some,<-(hp ⟨i,hi⟩).2.1];simp
   .rw[Gx (by simpa using hi),Gx (by simpa using hi)];rfl
  .obtain⟨i,rfl⟩:=List.mem_ofFn.mp hx;exact(hp i).2.2
  .rw[hmap];exact List.Pairwise.imp_of_mem (fun{x y}hx hy e z=>by subst z;rw[(Wz 4 _ _ (Ig (h2 _ hx)) (Ig (h2 _ hx))).2]at e;simp at e) hd.nd
  .have e:Df ks k=none:=by unfold Df;rw[List.findIdx?_eq_none_iff];intro x hx;rw[eq hx,decide_eq_false_iff_not];rintro rfl;rw[<-hmap]at hx;obtain⟨⟨x',z⟩,hz,e⟩:=omm hx;obtain⟨j,hj⟩:=List.mem_iff_getElem?.mp hz;cases e;exact h j z hj
   rw[e]at q;exact q
  .have e:=hget h;have:Df ks k=some j:=by unfold Df;rw[List.findIdx?_eq_some_iff_getElem];obtain⟨hj,e'⟩:=ome e;refine⟨hj,by rw[e',eq (e'▸Jy hj)];simp,fun i hi=>?_⟩;have:=(List.pairwise_iff_getElem.mp hd.nd) i j (by lia) hj hi;rw[e']at this;simpa using this
   rw[this]at q;exact q
end
section
open W
variable {A':Around}
variable {prog:Program}{w:World}{F G:Fz}{A:Around}{E:Value->Shared->Prop}{s:Shared}{d b:Addr}{k:T}{ks:List T}{us:List Value}{v u kv:Value}{h h':Heap}
abbrev Dat(w:World)(F:Fz)(h:Heap)(d:Addr)(ks:List T)(us:List Value):Prop:=OwnD w F h d ks (·=us)
theorem Dat.len(q:Dat w F h d ks us):us.length=ks.length:=by obtain⟨o,es,ep,_,_,_,r,e⟩:=q;subst e;rw[<-r.length];simp
theorem Dat.ty(q:Dat w F s.heap d ks us):s.TypeIs (.ref d) "dict":=by obtain⟨o,es,ep,h1,_,h2,_⟩:=q;exact⟨o,h1,h2.ex.1⟩
structure Rdy(A:Around)(w:World)(F:Fz)(s:Shared)(d:Addr)(ks:List T)(us:List Value)(k:T)(kv:Value):Prop where
 hA:A.units+52<cLine
 hF:F.In s.heap
 D:Dat w F s.heap d ks us
 hk:Bj ks k=true
 rk:Rep w F k kv
theorem Rdy.in1(r:Rdy A w F s d ks us k kv):A.in1.units+50<cLine:=show A.units+1+50<cLine by have:=r.hA;lia
section
variable {Q:a7 Value->Shared->Prop}
theorem dget(hu:A'.units+50<cLine)(r:Rdy A w F s d ks us k kv)(q:Q (Aw ks us k) {s with toks:=s.toks+Dq k}):wpAny (model prog w) A' (dictGet d kv) Q E s:=by
 obtain⟨hA,hF,D,hk,rk⟩:=r;have hl:=D.len;obtain⟨o,es,ep,h1,_,h2,r,e⟩:=D;subst e;rw[Hl hl]at q;unfold dictGet
 try with_reducible refine E6 ?_
 refine Aa (Ql 4 k (V6 hk) (by lia) hF rk (Aa (T5 (s:={s with toks:=s.toks+Dq k}) hu hF h1 h2 r hk rk ?_)));cases e:Df ks k with
 |none=>rw[e]at q;exact Af q
 |some i=>rw[e]at q;refine Aa (Jw (s:={s with toks:=s.toks+Dq k}) h1 h2.dt (Af ?_));simpa[List.getElem?_map]using q
end
theorem qS(nd:ks.Pairwise fun a b=>Ev.eqT a b=false)(e:Df ks k=none):(ks++[k]).Pairwise fun a b=>Ev.eqT a b=false :=
 List.pairwise_append.mpr ⟨nd,List.pairwise_singleton _ _,fun x hx y hy=>by rw[omg hy];exact eM e x hx⟩
theorem Dat.push(D:Dat w F s.heap d ks us)(e:Df ks k=none)(rk:Rep w F k kv)(hz:ks.length<sizeLine):Dat w F (s.heap.update d (Obj.mapDictKeys (·.push ⟨Iw w k,kv,v⟩))) d (Ax ks k) (Bh ks us k v):=by
 have hl:=D.len;obtain⟨o,es,ep,h1,hm,h2,r,z⟩:=D;subst z;have hz':es.size=ks.length:=by rw[<-r.length];simp
 rw[Mz,K6 hl,e];refine⟨_,_,ep+1,Heap.get?_update_self _ h1 (Obj.isFreed_of_dict (Obj.data_mapDictKeys h2.dt _)),hm,⟨h2.ex.mapDictKeys _,Obj.data_mapDictKeys h2.dt _,?_,qS h2.nd e,?_⟩,?_,?_⟩
 .rw[Array.toList_push,Dx,h2.hs,V0];rfl
 .rw[Array.size_push];lia
 .rw[Array.toList_push,Dx];exact r.app ⟨_,_,rfl,rk,rfl⟩
 .rw[Array.toList_push,Dx];rfl
theorem Dat.mod{i:Nat}(D:Dat w F s.heap d ks us)(e:Df ks k=some i):Dat w F (s.heap.update d (Obj.mapDict (·.modify i fun e=>{e with val:=v}))) d (Ax ks k) (Bh ks us k v):=by
 have hl:=D.len;obtain⟨o,es,ep,h1,hm,h2,r,z⟩:=D;subst z;rw[Mz,K6 hl,e];have same:∀{α:Type}(f:DictEntry->α),(∀e:DictEntry,f {e with val:=v}=f e)->(es.modify i fun e=>{e with val:=v}).toList.map f=es.toList.map f:=fun f hf=>by
  refine List.ext_getElem? fun j=>?_;rw[Array.toList_modify,Dm,Dm,List.getElem?_modify];cases es.toList[j]? with
  |none=>rfl
  |some x=>by_cases hj:i=j<;>simp[hj,hf]
 refine⟨_,_,ep,Heap.get?_update_self _ h1 (Obj.isFreed_of_dict (Obj.data_mapDict h2.dt _)),hm,⟨h2.ex.mapDict _,Obj.data_mapDict h2.dt _,?_,h2.nd,?_⟩,?_,?_⟩
 .rw[same _ fun _=>rfl];exact h2.hs
 .simpa using h2.sz
 .rw[same _ fun _=>rfl];exact r
 .refine List.ext_getElem? fun j=>?_;rw[Array.toList_modify,Dm,List.getElem?_modify];by_cases hj:i=j
  .subst hj;by_cases hl:i<es.toList.length
   .rw[List.getElem?_eq_getElem hl,Ib (by simpa using hl)];simp
   .rw[Gx (by lia),Gx (by simpa using hl)];rfl
  .rw[Jo hj,Dm];cases es.toList[j]?<;>simp[hj]
section
variable {Q:Unit->Shared->Prop}
theorem Ru(hu:A'.units+50<cLine)(r:Rdy A w F s d ks us k kv)(hz:ks.length<sizeLine)(q:∀h',Dat w F h' d (Ax ks k) (Bh ks us k v)->Heap.SameBut d s.heap h'->Q () {s with heap:=h',toks:=s.toks+Dq k}):wpAny (model prog w) A' (dictSet d kv v) Q E s:=by
 obtain⟨hA,hF,D,hk,rk⟩:=r;obtain⟨o,es,ep,h1,hm,h2,r,e⟩:=id D;unfold dictSet
 try with_reducible refine E6 ?_
 refine Aa (Ql 4 k (V6 hk) (by lia) hF rk ?_);unfold dictSetHashed
 try with_reducible refine E6 ?_
 refine Aa (T5 (s:={s with toks:=s.toks+Dq k}) hu hF h1 h2 r hk rk ?_);cases e:Df ks k with
 |none=>exact Aa (wpAny_rule (wpAny_updateDictKeys (hz:=h2.sz) (s:={s with toks:=s.toks+Dq k}) h1 h2.dt (q _ (D.push e rk hz) (Ij ..))))
 |some i=>exact Aa (wpAny_rule (Aa (wpAny_updateDict (s:={s with toks:=s.toks+Dq k}) h1 h2.dt (wpAny_point (q _ (D.mod e) (Ij ..))))))
end
variable {Q:Value->Shared->Prop}
theorem dsd(hu:A'.units+50<cLine)(r:Rdy A w F s d ks us k kv)(hz:ks.length<sizeLine)(q1:∀u,Aw ks us k=some u->Q u {s with toks:=s.toks+Dq k})(q2:Aw ks us k=none->∀h',Dat w F h' d (Ax ks k) (Bh ks us k v)->Heap.SameBut d s.heap h'->Q v {s with heap:=h',toks:=s.toks+Dq k}):wpAny (model prog w) A' (dictSetDefault d kv v) Q E s:=by
 obtain⟨hA,hF,D,hk,rk⟩:=r;have hl:=D.len;obtain⟨o,es,ep,h1,hm,h2,r,e⟩:=id D;subst e;rw[Hl hl]at q1 q2;unfold dictSetDefault;refine E6 (Aa (Ql 4 k (V6 hk) (by lia) hF rk ?_));refine Aa (T5 (s:={s with toks:=s.toks+Dq k}) hu hF h1 h2 r hk rk ?_);cases e:Df ks k with
 |none=>rw[e]at q2;exact Aa (wpAny_rule (Aa (wpAny_updateDictKeys (hz:=h2.sz) (s:={s with toks:=s.toks+Dq k}) h1 h2.dt (Af (q2 rfl _ (D.push e rk hz) (Ij ..))))))
 |some i=>
  rw[e]at q1;refine Aa (Jw (s:={s with toks:=s.toks+Dq k}) h1 h2.dt ?_);have hi:i<es.size:=by rw[<-E7,<-Aq (f:=fun e=>e.val),hl];unfold Df at e;rw[List.findIdx?_eq_some_iff_getElem]at e;exact e.1
  rw[Hb hi];exact wpAny_bind (wpAny_rule (wpAny_pure (q1 _ (by simp[hi]))))
theorem Z7{Q:Bool->Shared->Prop}(r:Rdy A w F s d ks us k kv)(q:Q (Bq ks k) {s with toks:=s.toks+Dq k}):wpAny (model prog w) A (contains (.ref d) kv) Q E s:=by
 have hd:(d==sysModules)=false:=by obtain⟨_,_,_,_,h,_⟩:=r.D;exact h
 unfold contains
 try with_reducible refine E6 ?_
 refine Aa (wpAny_specialOf r.D.ty slot_dict_contains.lookup ?_);show wpAny _ _ (if(some (Value.builtin "dict.__contains__")==some Value.none)=true then _ else _) _ E s;rw[if_neg (by rw[beq_builtin_none];exact Fg)];refine Aa (wpAny_callSpecialUnlessNone?_slot (name:=Str.ofString "__contains__") r.D.ty slot_dict_contains
  (Ek slot_dict_contains r.D.ty entry_dict_contains ?_ (args_dict_contains _ _)))
 show wpAny _ _ (dictGet d kv >>= _) _ _ s;refine Aa (dget r.in1 r ?_);have hl:=r.D.len;rw[d5]at q;rw[Hl hl];cases e:Df ks k with
 |some i=>
  rw[e]at q;have hi:i<us.length:=by rw[hl];unfold Df at e;rw[List.findIdx?_eq_some_iff_getElem]at e;exact e.1
  rw[Bi,Dw hi];show wpAny _ _ (ret (.bool true)) _ _ _;exact Af ⟨_,rfl,wpAny_truthy_bool q⟩
 |none=>rw[e]at q;show wpAny _ _ (Builtin.Dict.pendingKey? d kv >>= _) _ _ _;exact Aa (wpAny_pendingKey_other hd (Af ⟨_,rfl,wpAny_truthy_bool q⟩))
theorem mE(r:Rdy A w F s d ks us k kv)(q:Q (.bool (Bq ks k)) {s with toks:=s.toks+Dq k}):wpAny (model prog w) A (compareOp .In kv (.ref d)) Q E s :=
 show wpAny _ _ (do return .bool (<-contains (.ref d) kv)) Q E s from Aa (Z7 r (Af q))
theorem jI(r:Rdy A w F s d ks us k kv)(q:Q (.bool (!Bq ks k)) {s with toks:=s.toks+Dq k}):wpAny (model prog w) A (compareOp .NotIn kv (.ref d)) Q E s :=
 show wpAny _ _ (do return .bool (!(<-contains (.ref d) kv))) Q E s from Aa (Z7 r (Af q))
theorem fR(r:Rdy A w F s d ks us k kv)(hv:Aw ks us k=some v)(q:Q v {s with toks:=s.toks+Dq k}):wpAny (model prog w) A (getItem (.ref d) kv) Q E s:=by
 unfold getItem
 try with_reducible refine E6 ?_
 refine Aa (wpAny_sequenceKey r.D.ty (by decide) ?_);refine Aa (Gi (name:=Str.ofString "__getitem__") r.D.ty slot_dict_getitem (Ek slot_dict_getitem r.D.ty entry_dict_getitem ?_ (args_dict_getitem _ _)));show wpAny _ _ (dictGet d kv >>= _) _ _ s;refine Aa (dget r.in1 r ?_);rw[hv];exact Af ⟨v,rfl,Af q⟩
theorem a8{Q:Unit->Shared->Prop}(r:Rdy A w F s d ks us k kv)(hz:ks.length<sizeLine)(q:∀h',Dat w F h' d (Ax ks k) (Bh ks us k v)->Heap.SameBut d s.heap h'->Q () {s with heap:=h',toks:=s.toks+Dq k}):wpAny (model prog w) A (setItem (.ref d) kv v) Q E s:=by
 unfold setItem
 try with_reducible refine E6 ?_
 refine Aa (wpAny_sequenceKey r.D.ty (by decide) ?_);refine Aa (Gi (name:=Str.ofString "__setitem__") r.D.ty slot_dict_setitem (Ek slot_dict_setitem r.D.ty entry_dict_setitem ?_ (args_dict_setitem _ _ _)));show wpAny _ _ (Builtin.Dict.notOrdered "__setitem__" ⟨[.ref d,kv,v],[]⟩ >>= _) _ _ s;refine Aa (wpAny_notOrdered_dict r.D.ty ?_);show wpAny _ _ (dictSet d kv v >>= _) _ _ s;exact Aa (Ru r.in1 r hz fun h' D hs=>Af ⟨.none,rfl,Af (q h' D hs)⟩)
theorem pv(r:Rdy A w F s d ks us k kv)(hz:ks.length<sizeLine)(q1:∀u,Aw ks us k=some u->Q u {s with toks:=s.toks+Dq k})(q2:Aw ks us k=none->∀h',Dat w F h' d (Ax ks k) (Bh ks us k v)->Heap.SameBut d s.heap h'->Q v {s with heap:=h',toks:=s.toks+Dq k}):wpAny (model prog w) A (call (.builtin "dict.setdefault") [.ref d,kv,v]) Q E s:=by
 have hd:(d==sysModules)=false:=by obtain⟨_,_,_,_,h,_⟩:=r.D;exact h
 refine Ek PySem.F.slot_dict_setdefault r.D.ty PySem.F.entry_dict_setdefault ?_ (PySem.F.args_dict_setdefault_3 _ _ _);unfold Builtin.«dict.setdefault»;refine Aa ?_;unfold Builtin.Dict.keyAndDefault;refine Aa (wpAny_notOrdered_dict r.D.ty ?_);show wpAny _ _ (pure (d,kv,some v)) _ _ s;refine Af ?_;show wpAny _ _ (if(d==sysModules)=true then _ else(dictSetDefault d kv v >>= _)) _ _ s;rw[if_neg (by rw[hd];exact Fg)];exact Aa (dsd r.in1 r hz (fun u e=>Af ⟨_,rfl,q1 u e⟩) fun e h' D hs=>Af ⟨_,rfl,q2 e h' D hs⟩)
theorem mH(r:Rdy A w F s d ks us k kv)(q:Q ((Aw ks us k).getD v) {s with toks:=s.toks+Dq k}):wpAny (model prog w) A (call (.builtin "dict.get") [.ref d,kv,v]) Q E s:=by
 have hd:(d==sysModules)=false:=by obtain⟨_,_,_,_,h,_⟩:=r.D;exact h
 refine Ek PySem.F.slot_dict_get r.D.ty PySem.F.entry_dict_get ?_ (PySem.F.args_dict_get_3 _ _ _);unfold Builtin.«dict.get»;refine Aa ?_;unfold Builtin.Dict.keyAndDefault;refine Aa (wpAny_notOrdered_dict r.D.ty ?_);show wpAny _ _ (pure (d,kv,some v)) _ _ s;refine Af ?_;show wpAny _ _ (dictGet d kv >>= _) _ _ s;refine Aa (dget r.in1 r ?_);cases e:Aw ks us k with
 |some u=>rw[e]at q;exact Af ⟨_,rfl,q⟩
 |none=>rw[e]at q;exact Aa (wpAny_missed_other hd (Af ⟨_,rfl,q⟩))
end
section
variable {Y:Yc}{N:Str->Nat->Prop}{F G:Fz}{s s1:Shared}{r:Ev.Env}{E:Value->Shared->Prop}{a b c e:Expr}{f g h:Ev.Env->a7 T}{pos p2:Pos}{u v:Value}{ts us ks vs:List T}{t:T}{rest:List Expr}
theorem Rep.dat(hF:F.In s.heap)(r:Rep Y.w F (.dic ks vs) u):∃d us,u=.ref d/\Dat Y.w F s.heap d ks us/\Reps Y.w F vs us:=by obtain⟨d,o,es,ep,e,f,m,q,r1,r2⟩:=r;exact⟨d,_,e,⟨o,es,ep,hF _ _ f,m,q,r1,rfl⟩,r2⟩
theorem rdy{d:Addr}{us:List Value}(hu:Y.Rm)(S:F.In s.heap)(D:Dat Y.w F s.heap d ks us)(hk:Bj ks t=true)(rk:Rep Y.w F t v):Rdy Y.A Y.w F s d ks us t v:=⟨by have:Y.A.units+100<cLine:=hu;lia,S,D,hk,rk⟩
theorem aY(hu:Y.Rm)(neg:Bool):Op2 Y (compareOp (if neg then .NotIn else .In)) fun x y=>(Gy x y).map fun b=>.bl (neg != b):=fun{s F x y t u v E}S hx hy h=>by
 obtain⟨bb,h1,rfl⟩:=oms h;have seq:∀{ts:List T}{a:Addr}{qc:Array Value},(if Do x ts=true then some (ts.any fun z=>Ev.eqT z x)else none)=some bb->(s.heap.IsTuple a qc\/s.heap.IsList a qc)->Reps Y.w F ts qc.toList->wpAny Y.M Y.A (compareOp (if neg then .NotIn else .In) u (.ref a)) (Res Y.w F s (.bl (neg != bb))) E s:=fun{ts a qc}h p r=>by
  split at h
  .rename_i hd;cases h;cases neg with
   |true=>exact(dX hu S.fh hx hd p r).2 (Ej S.fh (by cases ts.any fun z=>Ev.eqT z x<;>rfl))
   |false=>exact(dX hu S.fh hx hd p r).1 (Ej S.fh (by cases ts.any fun z=>Ev.eqT z x<;>rfl))
  .cases h
 cases y with
 |tup ts=>obtain⟨a,o,qc,n,rfl,f,c,d,_,r⟩:=hy;exact seq h1 (.inl ⟨o,S.fh _ _ f,c,n,d⟩) r
 |lst ts=>obtain⟨a,qc,n,rfl,f,_,r⟩:=hy;exact seq h1 (.inr ⟨_,S.fh _ _ f,rfl,n,rfl⟩) r
 |dic ks vs=>
  replace h1:(if Bj ks x=true then some (Bq ks x)else none)=some bb:=h1;split at h1
  .rename_i hk;cases h1;obtain⟨d,us,rfl,D,_⟩:=hy.dat S.fh;cases neg with
   |true=>exact jI (rdy hu S.fh D hk hx) (Ez S.fh (by cases Bq ks x<;>rfl))
   |false=>exact mE (rdy hu S.fh D hk hx) (Ez S.fh (by cases Bq ks x<;>rfl))
  .cases h1
 |_=>cases h1
theorem pH(hu:Y.Rm):Op2 Y (compareOp .In) (Bt .isin):=fun S hx hy h=>aY hu false S hx hy (by simpa[Bt]using h)
theorem j4(hu:Y.Rm):Op2 Y (compareOp .NotIn) (Bt .notin):=fun S hx hy h=>aY hu true S hx hy (by simpa[Bt]using h)
theorem Rep.none(r:Rep Y.w F t u):(u==Value.none)=(match t with|.non=>true|_=>false):=by cases t<;>first|(cases r;rfl)|(obtain⟨_,e⟩:=r;subst e;rfl)|(obtain⟨_,_,_,_,e,_⟩:=r;subst e;rfl)|(obtain⟨_,_,_,e,_⟩:=r;subst e;rfl)|(obtain⟨e,_⟩:=r;subst e;rfl)
theorem my:Op2 Y (compareOp .Is) (Bt .isN):=fun{s F x y t u v E}S hx hy h=>by
 cases y with
 |non=>cases hy;refine is_none_gen (Ej S.fh ?_);rw[hx.none];cases x<;>cases h<;>rfl
 |_=>cases x<;>cases h
theorem gA:Op2 Y (compareOp .IsNot) (Bt .notN):=fun{s F x y t u v E}S hx hy h=>by
 cases y with
 |non=>cases hy;refine isnot_none_gen (Ej S.fh ?_);rw[hx.none];cases x<;>cases h<;>rfl
 |_=>cases x<;>cases h
theorem oP:Op2 Y (compareOp .IsNot) (Bt .notF):=fun{s F x y t u v E}S hx hy h=>by
 cases y with
 |bl b=>
  cases b with
  |true=>cases x<;>cases h
  |false=>
   cases hy;cases x with
   |bl b=>cases h;cases hx;refine isnot_bool (Ej S.fh ?_);cases b<;>rfl
   |non=>cases h;cases hx;exact Af (a:=Value.bool (Value.none != Value.bool false)) (Ej S.fh rfl)
   |_=>cases h
 |_=>cases x<;>cases h
theorem lE{op:BoolOp}(h:Oke Y N a f):Oke Y N (.BoolOp op [a] pos) f:=fun A q=>BoolOp_one (h A q)
theorem jE(ha:Oke Y N a f)(hb:Oke Y N (.BoolOp .And (b::rest) pos) g):Oke Y N (.BoolOp .And (a::b::rest) pos) fun r=>(f r).bind fun x=>match x with
  |.bl true=>g r
  |.bl false=>some (.bl false)
  |_=>none:=fun A q=>by
 obtain⟨x,e,q⟩:=obs q;refine BoolOp_and (thn (ha A e) fun v s1 z=>?_);obtain⟨G,u,q1⟩:=z;cases x with
 |bl d=>
  cases q1;refine wpAny_truthy_bool ?_;cases d with
  |true=>exact thn (hb (A.up u) q) fun w s2 z=>Res.mk u z
  |false=>cases q;exact⟨G,u,rfl⟩
 |_=>cases q
theorem gz(ha:Oke Y N a f)(hb:Oke Y N (.BoolOp .Or (b::rest) pos) g):Oke Y N (.BoolOp .Or (a::b::rest) pos) fun r=>(f r).bind fun x=>match x with
  |.bl true=>some (.bl true)
  |.bl false=>g r
  |_=>none:=fun A q=>by
 obtain⟨x,e,q⟩:=obs q;refine BoolOp_or (thn (ha A e) fun v s1 z=>?_);obtain⟨G,u,q1⟩:=z;cases x with
 |bl d=>
  cases q1;refine wpAny_truthy_bool ?_;cases d with
  |false=>exact thn (hb (A.up u) q) fun w s2 z=>Res.mk u z
  |true=>cases q;exact⟨G,u,rfl⟩
 |_=>cases q
theorem kz(ha:Oke Y N a f):Oke Y N (.UnaryOp .Not a pos) fun r=>(f r).bind fun x=>match x with
  |.bl b=>some (.bl (!b))
  |_=>none:=fun A q=>by
 obtain⟨x,e,q⟩:=obs q;refine UnaryOp_ (thn (ha A e) fun v s1 z=>?_);obtain⟨G,u,q1⟩:=z;cases x with
 |bl d=>cases q;cases q1;exact not_of (wpAny_truthy_bool ⟨G,u,rfl⟩)
 |_=>cases q
theorem bB(ha:Oke Y N a f):Oke Y N (.UnaryOp .USub a pos) fun r=>(f r).bind fun x=>match x with
  |.int i=>some (.int (-i))
  |_=>none:=fun A q=>by
 obtain⟨x,e,q⟩:=obs q;refine UnaryOp_ (thn (ha A e) fun v s1 z=>?_);obtain⟨G,u,q1⟩:=z;cases x with
 |int d=>cases q;obtain⟨_,rfl⟩:=q1;exact P.neg_int (Res.mk u (Ez u.fh ⟨_,rfl⟩))
 |_=>cases q
def Okw(Y:Yc)(N:Str->Nat->Prop)(e:Expr)(f:Ev.Env->a7 T):Prop :=
 ∀{s F r t E}(wh:Sem Value),At Y N r F s->f r=some t->wpAny Y.M Y.A (isTrue e Y.env wh) (fun b s'=>∃G,Up F s G s'/\t=.bl b) E s
theorem Okw.okb(h:Okw Y N e f):Okb Y N e f:=fun A q=>h _ A q
theorem cZ(ha:Okb Y N a f):Okw Y N (.BoolOp .And [a] pos) f:=fun wh A q=>isTrue_and (thn (ha A q) fun c s1 z=>by cases c with
 |true=>exact isTrue_and_nil z
 |false=>exact z)
theorem fU(ha:Okb Y N a f):Okw Y N (.BoolOp .Or [a] pos) f:=fun wh A q=>isTrue_or (thn (ha A q) fun c s1 z=>by cases c with
 |false=>exact isTrue_or_nil z
 |true=>exact z)
theorem Xb(ha:Okb Y N a f)(hb:Okw Y N (.BoolOp .And (b::rest) pos) g):Okw Y N (.BoolOp .And (a::b::rest) pos) fun r=>(f r).bind fun x=>match x with
  |.bl true=>g r
  |.bl false=>some (.bl false)
  |_=>none:=fun wh A q=>by
 obtain⟨x,e,q⟩:=obs q;refine isTrue_and (thn (ha A e) fun d s1 z=>?_);obtain⟨G,u,rfl⟩:=z;cases d with
 |true=>exact thn (hb wh (A.up u) q) fun w s2 ⟨G2,u2,z⟩=>⟨G2,u.trans u2,z⟩
 |false=>cases q;exact⟨G,u,rfl⟩
theorem jx(ha:Okb Y N a f)(hb:Okw Y N (.BoolOp .Or (b::rest) pos) g):Okw Y N (.BoolOp .Or (a::b::rest) pos) fun r=>(f r).bind fun x=>match x with
  |.bl true=>some (.bl true)
  |.bl false=>g r
  |_=>none:=fun wh A q=>by
 obtain⟨x,e,q⟩:=obs q;refine isTrue_or (thn (ha A e) fun d s1 z=>?_);obtain⟨G,u,rfl⟩:=z;cases d with
 |false=>exact thn (hb wh (A.up u) q) fun w s2 ⟨G2,u2,z⟩=>⟨G2,u.trans u2,z⟩
 |true=>cases q;exact⟨G,u,rfl⟩
theorem aq{op:CmpOp}{R:T->T->a7 T}(ho:Op2 Y (compareOp op) R)(ha:Oke Y N a f)(hb:Oke Y N b g)(hm:behindInMarks op b=false)(hR:∀{x y t},R x y=some t->∃b,t=.bl b):Okb Y N (.Compare a [op] [b] pos) fun r=>(f r).bind fun x=>(g r).bind fun y=>R x y:=fun{s F r t E}A e=>by
 obtain⟨bb,rfl⟩:∃b,t=.bl b:=by obtain⟨x,_,e⟩:=obs e;obtain⟨y,_,e⟩:=obs e;exact hR e
 exact wpAny_isTrue_Compare1 (thn (two ha hb A e ho) fun v s1 z=>thn z fun u s2 z=>thn z fun c s3 z=>by obtain⟨G,u,rfl⟩:=z;exact wpAny_truthy_bool ⟨G,u,rfl⟩) hm
theorem aa{o:Co}{x y:T}(h:Bt o x y=some t):∃b,t=.bl b:=by
 cases o<;>simp only[Bt,Gz,Qj]at h
 all_goals first
  |(split at h<;>first|(cases h;done)|(cases h;exact⟨_,rfl⟩))
  |(obtain⟨_,_,rfl⟩:=oms h;exact⟨_,rfl⟩)
  |(cases x<;>cases y<;>simp[Pi]at h<;>exact⟨_,h.symm⟩)
theorem gJ{tk:Nat}{Q:Bool->Shared->Prop}{bb:Bool}(hF:F.In s.heap)(r:Rep Y.w F t u)(h:Sx t=some bb)(q:∀tk,Q bb {s with toks:=tk}):wpAny Y.M Y.A (truthy u) Q E s:=by
 have hl:(sizeLine:Nat)<2 ^ 63:=by rw[Ew];decide
 have emp:∀{ts:List T}{qc:Array Value},Reps Y.w F ts qc.toList->(!qc.isEmpty)=!ts.isEmpty:=fun{ts qc}r=>by
  rcases qc with⟨l⟩;cases ts with
  |nil=>cases r;rfl
  |cons _ _=>obtain⟨_,_,e,_⟩:=r;simp only at e;subst e;rfl
 cases t with
 |non=>cases r;cases h;exact truthy_none (q s.toks)
 |bl b=>cases r;cases h;exact wpAny_truthy_bool (q s.toks)
 |int i=>obtain⟨_,rfl⟩:=r;cases h;exact P.truthy_int (q s.toks)
 |lst ts=>obtain⟨a,qc,n,rfl,f,z,r⟩:=r;cases h;exact wpAny_truthy_list ⟨_,hF _ _ f,rfl,n,rfl⟩ (by lia) (by rw[emp r];exact q _)
 |tup ts=>obtain⟨a,o,qc,n,rfl,f,c,d,z,r⟩:=r;cases h;exact truthy_tuple ⟨o,hF _ _ f,c,n,d⟩ (by lia) (by rw[emp r];exact q _)
 |_=>cases h
theorem jS(h:Oke Y N e f)(he:∀w,isTrue e Y.env w=(do let v <-w;standAt e.pos;holding [v] (truthy v))):Okb Y N e fun r=>(f r).bind fun x=>(Sx x).map .bl:=fun A q=>by obtain⟨x,e,q⟩:=obs q;obtain⟨bb,q1,rfl⟩:=oms q;refine isTrue_plain (thn (h A e) fun v s1 z=>?_) (he _);obtain⟨G,u,r⟩:=z;exact gJ (tk:=0) u.fh r q1 fun tk=>⟨G,u.trans (Up.tok u.fh),rfl⟩
end
section
structure Walk(Y:Yc)(tg:Expr)(qc:List T)(F:Fz)(fp:List Addr)(it:Addr)(tn:Nat->Heap->Prop):Prop where
 obj:∀{i h},tn i h->∀b∈fp,∃o,h.get? b=some o
 keep:∀{i h h'},tn i h->(∀b∈fp,∀o,h.get? b=some o->h'.get? b=some o)->tn i h'
 item:∀{i x s G E},F.le G->G.In s.heap->(∀b∈fp,G b=none)->tn i s.heap->qc[i]?=some x->
  wpAny Y.M Y.A (pyNext (.ref it)) (fun r s1=>∃u,r=some u/\wpAny Y.M Y.A (letOwnedTupleGo tg (.ref it) u) (fun _ s2=>∃G2,UpX fp G s G2 s2/\Rep Y.w G2 x u/\tn (i+1) s2.heap) E s1) E s
 done:∀{i s G E},F.le G->G.In s.heap->(∀b∈fp,G b=none)->tn i s.heap->qc.length=i->
  wpAny Y.M Y.A (pyNext (.ref it)) (fun r s1=>r=none/\UpX fp G s G s1) E s
 self:∀{i s Q E},tn i s.heap->Q (.ref it) s->wpAny Y.M Y.A (pyIter (.ref it)) Q E s
variable {B:Bd}{pn:List (Addr×a7 Obj)}{ad:Nat->List Addr}{τ:List Sl}{F G:Fz}{s s':Shared}{fp:List Addr}
end
section
variable {B:Bd}{pn:List (Addr×a7 Obj)}{ad:Nat->List Addr}{τ:List Sl}{F G:Fz}{s s':Shared}{fp:List Addr}{tg iter:Expr}{body:List Stmt}{pos:Pos}{g:Ev.Env->a7 (List T)}{f:List Sl->a7 Out}{E:Value->Shared->Prop}
def Jk(fp:List Addr)(h:Heap):List (Addr×a7 Obj):=fp.filterMap fun b=>(h.get? b).map fun o=>(b,some o)
theorem Vp{F:Fz}{h:Heap}{p:Addr×a7 Obj}(hp:p∈Jk fp h):p.1∈fp/\PinOk F h p:=by obtain⟨b,hb,e⟩:=Hx.mp hp;obtain⟨o,q,rfl⟩:=oms e;exact⟨hb,q⟩
theorem Fr.pinned(h:B.Fr pn ad τ F s)(hf:∀b∈fp,F b=none/\Off B.toYc B.N B.s0 (B.tbp++pn) ad b):B.Fr (pn++Jk fp s.heap) ad τ F s:=by
 have sp:∀{p},p∈B.tbp++(pn++Jk fp s.heap)->p∈B.tbp++pn\/p∈Jk fp s.heap:=fun hp=>oma ((K9 ..).symm▸hp);have sm:∀{p},p∈Jk fp s.heap->p.2.isNone=false:=fun hp=>by obtain⟨b,_,e⟩:=Hx.mp hp;obtain⟨o,_,rfl⟩:=oms e;rfl
 refine{h with pin:=fun p hp=>?_};rcases sp hp with q|q
 .obtain⟨p1,p2,p3⟩:=h.pin p q;exact⟨p1,⟨p2.1,fun q' h' e=>(sp h').elim (fun w=>p2.2 q' w e) fun w=>absurd e.symm ((hf _ (Vp (F:=F) w).1).2.p p q)⟩,p3⟩
 .obtain⟨hb,e⟩:=Vp q;obtain⟨n,o⟩:=hf _ hb;exact⟨⟨o.z,n,o.l,o.c⟩,⟨e,fun q' h' e'=>(sp h').elim (fun w=>absurd e' (o.p q' w)) fun w=>(sm w).trans (sm q).symm⟩,o.a⟩
theorem Fr.unpin{q:List (Addr×a7 Obj)}(h:B.Fr (pn++q) ad τ F s):B.Fr pn ad τ F s:={h with pin:=fun p hp=>let⟨p1,p2,p3⟩:=h.pin p (by rw[<-K9];exact List.mem_append_left _ hp);⟨p1,⟨p2.1,fun q hq=>p2.2 q (by rw[<-K9];exact List.mem_append_left _ hq)⟩,p3⟩}
theorem Fr.off(h:B.Fr pn ad τ F s){b:Addr}(z:s.heap.get? b=none):Off B.toYc B.N B.s0 (B.tbp++pn) ad b:=by
 have w:∀{c},(∃o,s.heap.get? c=some o)->c≠b:=fun⟨o,hc⟩ e=>by rw[e,z]at hc;cases hc
 obtain⟨m,n⟩:=h.ns.2;exact⟨h.up.old z,(w (Heap.Ns.has n)).symm,fun x hx c e=>by obtain⟨v,o,q,_⟩:=(h.cell x hx c e).2;exact w ⟨o,q⟩,fun i e=>w (h.own i b e).2 rfl,fun p hp=>w (h.pin p hp).2.1.1.ex⟩
def Hm(Y:Yc)(N:Str->Nat->Prop)(tg iter:Expr)(g:Ev.Env->a7 (List T)):Prop :=
 ∀{s F r qc E},At Y N r F s->g r=some qc->wpAny Y.M Y.A (eval iter Y.env) (fun v s1=>wpAny Y.M Y.A (pyIter v) (fun itv s2=>∃it fp tn G,itv=.ref it/\Up F s G s2/\(∀b∈fp,s.heap.get? b=none/\G b=none)/\Walk Y tg qc G fp it tn/\tn 0 s2.heap) E s1) E s
def PG(B:Bd)(tg:Expr)(is:List Nat):Prop:=∀{pn ad τ F s x u τ'},B.Fr pn ad τ F s->Rep B.w F x u->G6 is x τ=some τ'->wpAny B.M B.A (assign tg B.env u) (fun _ s'=>∃ad',B.Fr pn ad' τ' F s') No s
theorem no{α:Type}{t:Sem α}{Q:α->Shared->Prop}{M:Model}{A:Around}(h:wpAny M A t Q No s):wpAny M A t Q E s:=Eh h (fun _ _ q=>q) fun _ _ q=>q.elim
theorem cx{e:Value}(hm:B.Fm)(hF:B.Fr pn ad τ F s)(z:B.PE o e s'):notedBy B.M B.A B.env (fun e s2=>cameBackBy B.M B.A B.env (B.PE o) e s2) e s':=by obtain⟨x,n,rfl,z1,z2⟩:=z;obtain⟨l,hl⟩:=hm.st;have fr:=hF.toSt.frames;rw[hl]at fr z1 z2;exact Eh (Rw (E:=No) fr z2 hm.fr z1) (fun _ s2 ⟨q1,q2⟩=>gU hm.fr q2 q1 fun s3 w1 w2=>⟨x,n,rfl,by rw[hl];exact w1,by rw[hl];exact w2⟩) fun _ _ q=>q.elim
theorem oZ{is:List Nat}(hm:B.Fm)(vs:List Nat)(hi:Hm B.toYc (Nn B.N) tg iter g)(hg:PG B tg is)(hb:PSs B body f)(hs:∀x,foldedSetIterable iter B.env x=pure x):PS B (.For tg iter body [] pos) fun τ=>(g (Au (frzAt vs τ))).bind fun qc=>Ho (fun x τ=>(G6 is x τ).bind f) qc (frzAt vs τ):=fun{pn ad τ F s o}hF q=>by
 obtain⟨qc,e1,q⟩:=obs q;obtain⟨G,ad',le,h'⟩:=hF.frzAt vs;refine wpAny_For (thn (hi h'.at e1) fun v s1 h1=>thn h1 fun itv s2 h2=>?_) hs;obtain⟨it,fp,tn,G2,rfl,u2,fr,W,t0⟩:=h2;have h2:=h'.after u2;refine codeAny_forLoop_any (fun n s'=>∃i ad τ F,B.Fr pn ad τ F s'/\G2.le F/\tn i s'.heap/\(∀b∈fp,F b=none/\Off B.toYc B.N B.s0 (B.tbp++pn) ad b)/\n+i=qc.length/\Ho (fun x τ=>(G6 is x τ).bind f) (qc.drop i) τ=some o) ?_ qc.length
  ⟨0,ad',_,G2,h2,fun _ _ e=>e,t0,fun b hb=>⟨(fr b hb).2,h'.off (fr b hb).1⟩,rfl,q⟩
 rintro n s3 ⟨i,ad3,τ3,F3,h3,le3,t3,of3,hn,q3⟩;cases hx:qc[i]? with
 |none=>have hl:=List.getElem?_eq_none_iff.mp hx;rw[List.drop_eq_nil_of_le hl]at q3;cases q3;refine thn (W.done le3 h3.up.fh (fun b hb=>(of3 b hb).1) t3 (by lia)) fun r s4 z=>?_;obtain⟨rfl,u4⟩:=z;exact wpAny_execs_nil ⟨_,_,(le.trans u2.ff).trans (le3.trans u4.ff),Fr.turned h3 (fun b hb=>(of3 b hb).2) u4⟩
 |some x=>
  obtain⟨hil,ex⟩:=ome hx;rw[List.drop_eq_getElem_cons hil,ex]at q3;obtain⟨o1,q4,q3⟩:=obs q3;obtain⟨τ4,eb,q4⟩:=obs q4;refine thn (W.item le3 h3.up.fh (fun b hb=>(of3 b hb).1) t3 hx) fun r s4 z=>?_;obtain⟨u,rfl,z⟩:=z;refine thn z fun _ s5 z=>?_;obtain⟨G5,u5,r5,t5⟩:=z;have h5:=Fr.turned h3 (fun b hb=>(of3 b hb).2) u5;have h5p:=Fr.pinned (fp:=fp) h5 fun b hb=>⟨u5.fn b hb,(of3 b hb).2⟩;refine thn (no (hg h5p r5 eb)) fun _ s6 z=>?_;obtain⟨ad6,h6⟩:=z;refine Eh (hb h6 q4) (fun fl s7 z7=>?_) fun e s7 z7=>cx (o:=o) hm hF (by obtain⟨x,n,rfl,z7⟩:=z7;cases q3;exact⟨x,n,rfl,z7⟩);cases fl<;>cases o1<;>first|exact z7.elim|skip
  .obtain⟨ad7,F7,le7,h7⟩:=z7;have pk:∀b∈fp,∃o,s5.heap.get? b=some o/\s7.heap.get? b=some o/\F7 b=none/\Off B.toYc B.N B.s0 (B.tbp++pn) ad7 b:=fun b hb=>by obtain⟨o,eo⟩:=W.obj t5 b hb;obtain⟨p1,⟨p3,_⟩,p6⟩:=h7.pin (b,some o) (Hk _ (Hk _ (Hx.mpr ⟨b,hb,by rw[eo];rfl⟩)));exact⟨o,eo,p3,p1.f,p1.z,p1.l,p1.c,p6,(of3 b hb).2.p⟩
   refine⟨n-1,by lia,i+1,ad7,_,F7,h7.unpin,(le3.trans u5.ff).trans le7,W.keep t5 fun b hb o e=>?_,fun b hb=>(pk b hb).choose_spec.2.2,by lia,q3⟩;obtain⟨o',w1,w2,_⟩:=pk b hb;rw[e]at w1;cases w1;exact w2
  .cases q3;exact z7
end
end Nb
section
namespace Nb
open PySem W Spec PyProof.Rows
section
variable {Q:a7 Value->Shared->Prop}
def RawD(g:Heap)(d:Addr)(en:Array DictEntry)(ep:Nat):Prop:=∃o,g.get? d=some o/\o.ExactDict/\o.data=.dict en ep
section
variable {prog:Program}{w:World}{A:Around}{E:Value->Shared->Prop}{s:Shared}{d j:Addr}{en:Array DictEntry}{ep i:Nat}
theorem RawD.ty(r:RawD s.heap d en ep):s.TypeIs (.ref d) "dict":=let⟨o,a,b,_⟩:=r;⟨o,a,b.1⟩
theorem RawD.to{g g':Heap}(r:RawD g d en ep)(k:∀o,g.get? d=some o->g'.get? d=some o):RawD g' d en ep:=let⟨o,a,b⟩:=r;⟨o,k o a,b⟩
theorem Yk{Q:Value->Shared->Prop}(hm:(d==sysModules)=false)(r:RawD s.heap d en ep)(q:Q (.ref s.heap.objs.size) {s with heap:=s.heap.push {cls:=.type "dict_keyiterator",data:=.fields #[.ref d,.int 0 0,.int en.size 0,.int ep 0]} }):wpAny (model prog w) A (pyIter (.ref d)) Q E s:=by
 obtain⟨o,a,b,c⟩:=id r;refine wpAny_pyIter_slot r.ty PySem.F.slot_dict_iter (Ek PySem.F.slot_dict_iter r.ty PySem.F.entry_dict_iter ?_ (PySem.F.args_dict_iter_1 _));unfold Builtin.«dict.__iter__»;refine Aa ?_;unfold Builtin.Dict.dictSlotNone;refine Aa (wpAny_notOrdered_dict r.ty ?_);show wpAny _ _ (pure (Value.ref d)) _ _ s;refine Af (show wpAny _ _ (Builtin.Dict.showsAll d >>= _) _ _ s from ?_);unfold Builtin.Dict.showsAll;rw[if_neg (by rw[hm];exact Fg)];refine Aa (Af (Aa (Jw a c (Aa (wpAny_dictEpoch a c ?_)))));refine Aa (Gn (Af ⟨_,rfl, "dict_keyiterator",_,⟨_,Cv _ rfl,rfl⟩,PySem.F.slot_dict_keyiterator_next.lookup,?_⟩));simpa[rawInt]using q
theorem aD(t:s.heap.IsKeyIter j d i en.size ep)(r:RawD s.heap d en ep)(hi:i<en.size)(q:∀g,g.IsKeyIter j d (i+1) en.size ep->Heap.SameBut j s.heap g->Q (some en[i].key) {s with heap:=g}):wpAny (model prog w) A (pyNext (.ref j)) Q E s:=by
 obtain⟨o,a,b,c⟩:=id t;obtain⟨od,ad,bd,cd⟩:=id r;unfold pyNext;refine Aa (Ir (Gi (name:=Str.ofString "__next__") t.typeIs PySem.F.slot_dict_keyiterator_next (Ek PySem.F.slot_dict_keyiterator_next t.typeIs PySem.F.entry_dict_keyiterator_next ?_ (PySem.F.args_dict_keyiterator_next_1 _))));refine Aa (Af (Aa (Aa ?_)))
 first|refine Aa (R8 t.typeIs (Af (Aa (K0 a c ?_))))|refine Aa (wpAny_typeNameOf_keyiter t.typeIs (Af (Aa (K0 a c ?_))))
 simp only[show Builtin.Dict_items.ownsTuple "dict_keyiterator"=false by decide,Ng,if_false];refine(show wpAny _ _ (if(Value.ref d==Value.none)=true then _ else _) _ _ s from ?_);rw[if_neg (show ¬((Value.ref d==Value.none)=true)from Fg)];refine Aa (Af (Aa (Jw ad cd ?_)));rw[if_neg (by simp)];refine Aa (Af (Aa (wpAny_dictEpoch ad cd ?_)));rw[if_neg (by simp)];refine Af ?_;simp only[show ¬((i:Int)<0)from by lia,if_false,Int.toNat_natCast,Array.getElem?_eq_getElem hi];refine Aa ?_
 first|refine Aa (R8 t.typeIs (Af (Aa (wpAny_isOneOf_keyiter t.typeIs ?_))))|refine Aa (wpAny_typeNameOf_keyiter t.typeIs (Af (Aa (wpAny_isOneOf_keyiter t.typeIs ?_))))
 refine(show wpAny _ _ (setField (.ref j) 1 (rawInt ((i:Int)+1)) >>= _) _ _ s from wpAny_bind (wpAny_setField a c (by simp) ?_));have t':(s.heap.update j (Obj.mapFields (·.setIfInBounds 1 (rawInt ((i:Int)+1))))).IsKeyIter j d (i+1) en.size ep :=
  ⟨_,Heap.get?_update_self _ a (Obj.isFreed_of_fields (Ft c _)),(Obj.cls_mapFields ..).trans b,by rw[Ft c];simp[rawInt]⟩
 refine Aa (E6 (Aa (wpAny_isOneOf_keyiter (s:={s with heap:=s.heap.update j (Obj.mapFields (·.setIfInBounds 1 (rawInt ((i:Int)+1))))}) t'.typeIs ?_)));show wpAny _ _ (pure en[i].key) _ _ _;exact Af (Af ⟨_,rfl,Af (q _ t' (Ij ..))⟩)
theorem Yw(hh:A.handled=none)(t:s.heap.IsKeyIter j d i en.size ep)(r:RawD s.heap d en ep)(hi:en.size<=i)(q:∀g,Heap.ExtBut j s.heap g->Q none {s with heap:=g}):wpAny (model prog w) A (pyNext (.ref j)) Q E s:=by
 obtain⟨o,a,b,c⟩:=id t;obtain⟨od,ad,bd,cd⟩:=id r;unfold pyNext;refine Aa (Ir (Gi (name:=Str.ofString "__next__") t.typeIs PySem.F.slot_dict_keyiterator_next (Ek PySem.F.slot_dict_keyiterator_next t.typeIs PySem.F.entry_dict_keyiterator_next ?_ (PySem.F.args_dict_keyiterator_next_1 _))));refine Aa (Af (Aa (Aa ?_)))
 first|refine Aa (R8 t.typeIs (Af (Aa (K0 a c ?_))))|refine Aa (wpAny_typeNameOf_keyiter t.typeIs (Af (Aa (K0 a c ?_))))
 simp only[show Builtin.Dict_items.ownsTuple "dict_keyiterator"=false by decide,Ng,if_false];refine(show wpAny _ _ (if(Value.ref d==Value.none)=true then _ else _) _ _ s from ?_);rw[if_neg (show ¬((Value.ref d==Value.none)=true)from Fg)];refine Aa (Af (Aa (Jw ad cd ?_)));rw[if_neg (by simp)];refine Aa (Af (Aa (wpAny_dictEpoch ad cd ?_)));rw[if_neg (by simp)];refine Af ?_;simp only[show ¬((i:Int)<0)from by lia,if_false,Int.toNat_natCast,Array.getElem?_eq_none hi];refine Aa ?_
 first|refine Aa (R8 t.typeIs (Af ?_))|refine Aa (wpAny_typeNameOf_keyiter t.typeIs (Af ?_))
 refine(show wpAny _ _ (setField (.ref j) 0 .none >>= _) _ _ s from wpAny_bind (wpAny_setField a c (by simp) ?_));refine(show wpAny _ _ (newExc (.type "StopIteration") [] >>= _) _ _ _ from Aa ?_);simp only[newExc,newTuple];refine Aa (Gn ?_ (by size_fits));refine wpAny_bind (m:=firstArgMember _ _) (wpAny_of_eq (a:=Value.none) (by first|rfl|(simp only[firstArgMember];rfl)) (wpAny_newObj_type ?_ (by size_fits)));simp only[raiseNew];refine Aa (wpAny_handled ?_);rw[show A.in1.handled=none from hh];refine Aa (Af (wpAny_throw ?_));exact Aa (wpAny_isInstance (T:="StopIteration") (b:=true) ⟨_,Cv _ rfl,rfl⟩ isSubtype_stop (Af (q _ (((Ij ..).extBut.push _).push _))))
end
end
end Nb
section
namespace Nb
open PySem Spec PyProof.Rows Ev
section
variable {Y:Yc}{tg:Expr}{F G:Fz}{s s':Shared}{a it:Addr}{ts:List T}{E:Value->Shared->Prop}
theorem UpX.one{h':Heap}{k:Nat}(hf:F.In s.heap)(hn:F it=none)(hs:∀b o,b≠it->s.heap.get? b=some o->h'.get? b=some o):UpX [it] F s F {s with heap:=h',toks:=k} :=
 ⟨fun b o hb e=>hs b o (by simpa using hb) e,rfl,id,fun _ _ e=>e,fun b o e=>hs b o (fun w=>by rw[w,hn]at e;cases e) (hf b o e),fun _ w=>.inl w,fun b hb=>by rw[omg hb];exact hn⟩
theorem O0{M:Model}{A:Around}{u:Value}{o:Obj}{n:String}{vs:Array Value}{Q:Unit->Shared->Prop}(ho:s.heap.get? it=some o)(hc:o.cls=.type n)(hd:o.data=.fields vs)(hn:["enumerate", "zip", "dict_itemiterator", "dict_reverseitemiterator", "odict_iterator", "itertools.zip_longest", "itertools.pairwise"].contains n=false)(hQ:Q () s):wpAny M A (letOwnedTupleGo tg (.ref it) u) Q E s:=by
 unfold letOwnedTupleGo;cases tg<;>first
  |exact Af hQ
  |(cases u<;>first
    |exact Af hQ
    |(refine Aa (wpAny_load ho ?_)
      rw[hc,hd];show wpAny M A (if(["enumerate", "zip", "dict_itemiterator", "dict_reverseitemiterator", "odict_iterator", "itertools.zip_longest", "itertools.pairwise"].contains n&&vs[0]?==some (rawInt _))=true then _ else _) Q E s;rw[if_neg (by intro h;rw[hn,Bool.false_and]at h;cases h)];exact Af hQ))
theorem nE(hh:Y.A.handled=none)(h:Rep Y.w F (.lst ts) (.ref a)):Walk Y tg ts F [it] it fun i h=>h.IsListIter it a i:=by
 obtain⟨_,qc,n,e,h1,h2,h3⟩:=h;cases e;refine⟨fun q b hb=>?_,fun q k=>?_,fun{i x s G E}le hi fn q e=>?_,fun{i s G E}le hi fn q e=>?_,fun q=>wpAny_pyIter_listiter q⟩
 .rw[omg hb];obtain⟨o,e,_⟩:=q;exact⟨o,e⟩
 .exact q.at fun o e=>k it (by simp) o e
 .obtain⟨u,hu,ru⟩:=h3.get e;refine wpAny_pyNext_list_item q ⟨_,hi _ _ (le _ _ h1),rfl,n,rfl⟩ (x:=u) (by simpa using hu) fun h' st' sb=>?_;obtain⟨o,e,c,d⟩:=id st';exact⟨u,rfl,O0 (s:={s with heap:=h'}) e c d (by decide) ⟨G,UpX.one (k:=s.toks) hi (fn it (by simp)) (fun b o hb e=>(sb.2 b hb).trans e) ,ru.mono le,st'⟩⟩
 .refine wpAny_pyNext_list_end hh q ⟨_,hi _ _ (le _ _ h1),rfl,n,rfl⟩ (by rw[Array.getElem?_eq_none_iff,<-Array.length_toList,h3.length];exact Nat.le_of_eq e) fun h' eb=>⟨rfl,UpX.one (k:=s.toks) hi (fn it (by simp)) fun b o hb e=>eb b o hb e⟩
theorem mB(hh:Y.A.handled=none)(h:Rep Y.w F (.tup ts) (.ref a)):Walk Y tg ts F [it] it fun i h=>h.IsTupleIter it a i:=by
 obtain⟨_,o,qc,n,e,h1,hc,hd,h2,h3⟩:=h;cases e;have tp:∀{s:Shared}{G:Fz},F.le G->G.In s.heap->s.heap.IsTuple a qc:=fun le hi=>⟨o,hi _ _ (le _ _ h1),hc,n,hd⟩;refine⟨fun q b hb=>?_,fun q k=>?_,fun{i x s G E}le hi fn q e=>?_,fun{i s G E}le hi fn q e=>?_,fun q=>wpAny_pyIter_tupleiter q⟩
 .rw[omg hb];obtain⟨o,e,_⟩:=q;exact⟨o,e⟩
 .exact q.at fun o e=>k it (by simp) o e
 .obtain⟨u,hu,ru⟩:=h3.get e;refine wpAny_pyNext_tuple_item q (tp le hi) (x:=u) (by simpa using hu) fun h' st' sb=>?_;obtain⟨o,e,c,d⟩:=id st';exact⟨u,rfl,O0 (s:={s with heap:=h'}) e c d (by decide) ⟨G,UpX.one (k:=s.toks) hi (fn it (by simp)) (fun b o hb e=>(sb.2 b hb).trans e),ru.mono le,st'⟩⟩
 .exact wpAny_pyNext_tuple_end hh q (tp le hi) (by rw[Array.getElem?_eq_none_iff,<-Array.length_toList,h3.length];exact Nat.le_of_eq e) fun h' eb=>⟨rfl,UpX.one (k:=s.toks) hi (fn it (by simp)) fun b o hb e=>eb b o hb e⟩
theorem i4{ks vs:List T}(hh:Y.A.handled=none)(h:Rep Y.w F (.dic ks vs) (.ref a)):∃en ep,(∀{s:Shared}{G:Fz},Fz.le F G->G.In s.heap->RawD s.heap a en ep)/\Walk Y tg ks F [it] it fun i h=>h.IsKeyIter it a i en.size ep:=by
 obtain⟨_,o,en,ep,e,h1,_,d,h2,_⟩:=h;cases e;have rd:∀{s:Shared}{G:Fz},F.le G->G.In s.heap->RawD s.heap a en ep:=fun le hi=>⟨o,hi _ _ (le _ _ h1),d.ex,d.dt⟩;have hl:en.size=ks.length:=by rw[<-h2.length,Aq,E7]
 refine⟨en,ep,rd,fun q b hb=>?_,fun q k=>?_,fun{i x s G E}le hi fn q e=>?_,fun{i s G E}le hi fn q e=>?_,fun q=>wpAny_pyIter_keyiter q⟩
 .rw[omg hb];obtain⟨o,e,_⟩:=q;exact⟨o,e⟩
 .exact q.at fun o e=>k it (by simp) o e
 .obtain⟨u,hu,ru⟩:=h2.get e;have hi':i<en.size:=by rw[hl];exact(ome e).1
  refine aD (Q:=_) q (rd le hi) hi' fun h' st' sb=>?_;obtain⟨o,e,c,d⟩:=id st';have ek:en[i].key=u:=by rw[Dm,Gb,Hb hi']at hu;exact Fe hu
  exact⟨_,rfl,O0 (s:={s with heap:=h'}) e c d (by decide) ⟨G,UpX.one (k:=s.toks) hi (fn it (by simp)) (fun b o hb e=>(sb.2 b hb).trans e),ek▸ru.mono le,st'⟩⟩
 .have:i=en.size\/en.size<i:=by lia
  exact Yw hh q (rd le hi) (by lia) fun h' eb=>⟨rfl,UpX.one (k:=s.toks) hi (fn it (by simp)) fun b o hb e=>eb b o hb e⟩
theorem Up.side{o:Obj}{k:Nat}(h:F.In s.heap):Up F s F {s with heap:=s.heap.push o,toks:=k}:=⟨fun _ _ e=>Bb _ e,rfl,id,fun _ _ e=>e,fun b u e=>Bb _ (h b u e),fun _ z=>.inl z⟩
theorem dA(cm:Y.calm){N:Str->Nat->Prop}{e:Expr}{f:Ev.Env->a7 T}(he:Oke Y N e f):Hm Y N tg e fun r=>(f r).bind fun x=>items .plain [x]:=fun{s F r qc E}A q=>by
 obtain⟨x,e1,q⟩:=obs q;refine thn (he A e1) fun v s1 z=>?_;obtain⟨G,u,r1⟩:=z;have fn:∀b∈[s1.heap.objs.size],s.heap.get? b=none/\G b=none:=fun b hb=>by rw[omg hb];exact⟨u.old Bs,u.fh.none Bs⟩
 cases x with
 |lst ts=>cases q;obtain⟨a,ts',n,rfl,h1,_⟩:=id r1;exact wpAny_pyIter_list ⟨_,u.fh _ _ h1,rfl,n,rfl⟩ ⟨_,_,_,G,rfl,u.trans (Up.side (k:=s1.toks) u.fh),fn,nE (A.hd cm) r1,_,Cv _ rfl,rfl,rfl⟩
 |tup ts=>cases q;obtain⟨a,o,ts',n,rfl,h1,hc,hd,_⟩:=id r1;exact Ks ⟨o,u.fh _ _ h1,hc,n,hd⟩ ⟨_,_,_,G,rfl,u.trans (Up.side (k:=s1.toks) u.fh),fn,mB (A.hd cm) r1,_,Cv _ rfl,rfl,rfl⟩
 |dic ks vs=>cases q;obtain⟨a,o,en,ep,rfl,h1,hm,d,_⟩:=id r1;obtain⟨en',ep',rd,W⟩:=i4 (tg:=tg) (it:=s1.heap.objs.size) (A.hd cm) r1;exact Yk hm (rd (fun _ _ e=>e) u.fh) ⟨_,_,_,G,rfl,u.trans (Up.side (k:=s1.toks) u.fh),fn,W,_,Cv _ rfl,rfl,rfl⟩
 |_=>cases q
end
section
variable {B:Bd}{pn:List (Addr×a7 Obj)}{ad:Nat->List Addr}{τ:List Sl}{F G:Fz}{s s':Shared}{x:Str}{i:Nat}{is:List Nat}{e:Expr}{es:List Expr}{pos:Pos}{t:T}{u:Value}
theorem Fr.setv(h:B.Fr pn ad τ F s)(hx:B.N[i]?=some x)(hl:Loc B.env.scope x)(r:Rep B.w F t u):wpAny B.M B.A (storeName B.env x u) (fun _ s'=>∃ad',B.Fr pn ad' (τ.set i (.val t)) F s') No s :=
 h.store (d:=[]) (sl:=.val t) hx hl (fun _ w=>nomatch w) (fun _ lk=>⟨u,lk,r⟩) fun s2 _ _ h2=>⟨_,h2⟩
theorem pj(hx:B.N[i]?=some x)(hl:Loc B.env.scope x):PG B (.Name x pos) [i]:=fun h r e=>by cases e;exact wpAny_assign_Name (Fr.setv h hx hl r)
def PGs(B:Bd)(es:List Expr)(is:List Nat):Prop:=∀{pn ad τ F s xs us τ'},B.Fr pn ad τ F s->Reps B.w F xs us->Jl is xs τ=some τ'->wpAny B.M B.A (assignInOrder ((assignEach es B.env).map (·.2)) us) (fun _ s'=>∃ad',B.Fr pn ad' τ' F s') No s
theorem mW:PGs B [] []:=fun{pn ad τ F s xs us τ'}h r e=>by
 cases xs with
 |nil=>cases e;cases r;exact assignInOrder_nil ⟨_,h⟩
 |cons _ _=>cases e
theorem mh{p:Pos}(hx:B.N[i]?=some x)(hl:Loc B.env.scope x)(h2:PGs B es is)(hs:(assignEach (.Name x p::es) B.env).map (·.2)=assign (.Name x p) B.env::(assignEach es B.env).map (·.2)):PGs B (.Name x p::es) (i::is):=fun{pn ad τ F s xs us τ'}h r e=>by
 cases xs with
 |nil=>cases e
 |cons t ts=>obtain⟨u,ur,rfl,r1,r2⟩:=r;rw[hs];refine assignInOrder_cons (thn (wpAny_assign_Name (Fr.setv h hx hl r1)) fun _ s1 z=>?_);obtain⟨ad1,h1⟩:=z;exact h2 h1 r2 e
theorem dU:∀{is:List Nat}{xs:List T}{τ τ':List Sl},Jl is xs τ=some τ'->xs.length=is.length
 |[],[],_,_,_=>rfl
 |[],_::_,_,_,e=>nomatch e
 |_::_,[],_,_,e=>nomatch e
 |_::_,_::_,_,_,e=>Av (·+1) (dU e)
theorem oJ{k}(cm:B.calm)(h:PGs B es is)(h2:2<=is.length)(hn:(assignEach es B.env).length=is.length)(hst:(assignEach es B.env).findIdx? (·.1)=none):PG B (.Tuple es k pos) is:=fun{pn ad τ F s x u τ'}hF r e=>by
 have:∃xs,x=.tup xs/\Jl is xs τ=some τ':=by
  rcases is with _|⟨i0,_|⟨i1,ir⟩⟩
  .simp at h2
  .simp at h2
  .cases x with
   |tup xs=>exact⟨xs,rfl,e⟩
   |_=>cases e
 obtain⟨xs,rfl,e'⟩:=this;obtain⟨a,o,qc,n,rfl,h1,hc,hd,_,rs⟩:=r;have hl:=dU e';refine assign_Tuple_tuple (hF.toSt.hd cm) ⟨o,hF.up.fh _ _ h1,hc,n,hd⟩ (by rw[hn,<-hl,<-rs.length,E7]) hst fun h' hx=>?_;have u:Up F s F {s with heap:=h'}:=⟨fun b o e=>hx b o (Es (Cu e)) e,rfl,id,fun _ _ e=>e,fun b o e=>hx b o (Es (Cu (hF.up.fh b o e))) (hF.up.fh b o e),fun _ z=>.inl z⟩;exact h (hF.after u) rs e'
end
section
variable {a:Addr}{d:List Addr}
variable {B:Bd}{pn:List (Addr×a7 Obj)}{ad:Nat->List Addr}{τ:List Sl}{F G:Fz}{s s':Shared}{x:Str}{i:Nat}{is:List Nat}{e:Expr}{es:List Expr}{pos p:Pos}{Y:Yc}{N:Str->Nat->Prop}
def Lj(Y:Yc)(N:Str->Nat->Prop)(e:Expr)(g:Ev.Env->a7 Sl):Prop :=
 ∀{s F r sl E},At Y N r F s->g r=some sl->wpAny Y.M Y.A (eval e Y.env) (fun u s'=>∃a G,u=.ref a/\Up F s G s'/\G a=none/\s.heap.get? a=none/\OwnOk Y.w G s'.heap [a] sl) E s
theorem lq{f:Ev.Env->a7 (List T)}{n:Nat}(hl:∀{r ts},f r=some ts->ts.length=n)(h:Oks Y N es f):Lj Y N (.List es pos) fun r=>if n<=1000 then(f r).map .own else none:=fun A q=>by
 split at q
 .rename_i hn;obtain⟨ts,q1,rfl⟩:=oms q;refine wpAny_List_spliced (thn (h pos A q1) fun us s1 z=>?_);obtain⟨G,u,r⟩:=z;have z:us.length<=sizeLine:=Yn (by rw[r.length,hl q1];exact hn);exact⟨z,_,G,rfl,u.trans (Up.side (k:=s1.toks) u.fh),u.fh.none Bs,u.old Bs,rfl,us.toArray,0,Heap.get?_push_size _ rfl,by simpa using z,by simpa using r⟩
 .cases q
theorem Fr.ownOff(h:B.Fr pn ad τ F s)(sa:s.heap.get? a=none)(u1:Up F s G s')(ga:G a=none)(ho:∃o,s'.heap.get? a=some o):∀b∈[a],(Mine B.toYc B.N B.s0 G b/\∃o,s'.heap.get? b=some o)/\(∀k,k≠i->b∉ad k)/\∀p∈B.tbp++pn,p.1≠b:=fun b hb=>by obtain⟨o1,o2,o3,o4,o5⟩:=Fr.off h sa;rw[omg hb];exact⟨⟨⟨o1,ga,o2,o3⟩,ho⟩,fun k _=>o4 k,o5⟩
theorem OwnOk.ex{sl:Sl}{h:Heap}{w:World}(q:OwnOk w F h (a::d) sl):∃o,h.get? a=some o:=by
 cases sl with
 |own _=>obtain⟨_,_,_,q,_⟩:=q;exact⟨_,q⟩
 |dic _ _=>obtain⟨_,_,_,_,q,_⟩:=q;exact⟨_,q⟩
 |dl _ _=>obtain⟨⟨_,_,_,q,_⟩,_⟩:=q;exact⟨_,q⟩
 |dd _ _=>obtain⟨⟨_,_,_,q,_⟩,_⟩:=q;exact⟨_,q⟩
 |_=>exact q.elim
theorem SlOk.mk{sl:Sl}(lk:Look Y s.heap x (.ref a))(q:OwnOk Y.w F s.heap (a::d) sl):SlOk Y F s x (a::d) sl:=by cases sl<;>first|exact q.elim|exact⟨⟨a,rfl,lk⟩,q⟩
theorem M4{g:Ev.Env->a7 Sl}(he:Lj B.toYc (Nn B.N) e g)(is:List Nat)(hx:B.N[i]?=some x)(hl:Loc B.env.scope x)(hs:swapsWith e (some (.Name x p)) pos.line B.env=pure false):PS B (.Assign [.Name x p] e pos) fun τ=>(g (Au (frzAt is τ))).bind fun sl=>some (.nx ((frzAt is τ).set i sl)):=fun hF q=>by
 obtain⟨sl,q1,e⟩:=obs q;cases e;obtain⟨G,ad',le,h'⟩:=hF.frzAt is;refine wpAny_Assign_Name (thn (he h'.at q1) fun u s1 z=>?_) hs;obtain⟨a,G1,rfl,u1,ga,sa,ow⟩:=z;exact(h'.after u1).store (d:=[a]) (sl:=sl) hx hl (Fr.ownOff h' sa u1 ga ow.ex) (fun k lk=>.mk lk (ow.to (fun b hb o e=>(k b hb).trans e) fun _ _ e=>e)) fun s2 _ _ h2=>⟨_,_,le.trans u1.ff,h2⟩
end
section
variable {Q:Value->Shared->Prop}
variable {B:Bd}{pn:List (Addr×a7 Obj)}{ad:Nat->List Addr}{τ:List Sl}{F G:Fz}{s s' s1:Shared}{x y:Str}{i j:Nat}{is:List Nat}{e:Expr}{es:List Expr}{pos p px apos cpos:Pos}{Y:Yc}{E:Value->Shared->Prop}{t:T}{ts us:List T}{u:Value}{a:Addr}{g:Ev.Env->a7 (List T)}{h:Ev.Env->a7 T}
def Nm(x:Str):Prop:=(x==("__debug__":Str))=false/\(x==("__classdict__":Str))=false
theorem Mm(ok:Y.Ok)(n:Nm x)(l:Look Y s.heap x u)(q:Q u s):wpAny Y.M Y.A (eval (.Name x pos) Y.env) Q E s:=by
 rcases l with⟨k,m,z,e⟩|⟨k|k,c,e,z⟩
 .exact wpAny_Name (wpAny_loadName_local ok.kind k z e q) n.1
 .exact wpAny_Name (wpAny_loadName_cell ok.kind k e z q) n.1
 .exact wpAny_Name (wpAny_loadName_free ok.kind k e z q n.2) n.1
theorem quiet(ok:Y.Ok):interactive Y.env=false:=by simp[interactive,ok.kind]
structure Plain(Y:Yc)(pos:Pos)(es:List Expr):Prop where
 few:((backTo pos (starEach es Y.env)).all (fun x=>!x.1)&&(backToKw pos (keywordEach [] Y.env)).all (fun x=>x.1.isSome)&&decide (es.length+([]:List Keyword).length+(if([]:List Keyword).isEmpty then 0 else 1)<30))=true
 pl:(backTo pos (starEach es Y.env)).any (·.1)=false
 hd:es=[]\/∃x r,backTo pos (starEach es Y.env)=(false,x)::r
theorem Vt{id:String}{v:Value}(pl:Plain Y pos es)(h:wpAny Y.M Y.A (spliced (backTo pos (starEach es Y.env))) (fun us s1=>wpAny Y.M Y.A (call (.builtin id) (v::us)) Q E s1) E s):wpAny Y.M Y.A (callWith pos (.builtin id) [v] (backTo pos (starEach es Y.env)) []) Q E s:=by
 refine Calls.callWith_builtin pl.pl ?_;rcases pl.hd with rfl|⟨x,r,e⟩
 .unfold evalArgs;show wpAny Y.M Y.A (spliced [] >>= _) _ _ s;exact Aa (Eh h (fun us s1 q=>Aa (Af (E6 (Aa (Af (Aa (Af (Af q)))))))) fun _ _ q=>q)
 .rw[e]at h ⊢;exact Calls.evalArgs_plain h
theorem aJ{T id:String}{name:Str}(pa:PlainAttrs T)(slot:Slot T name id)(hty:typeOf (.builtin id)=pure (.type "method_descriptor"))(h:B.Fr pn ad τ F s)(n:Nm x)(l:Look B.toYc s.heap x (.ref a))(ht:∃o,s.heap.get? a=some o/\o.cls=.type T/\o.dict=none)(ha:Oks B.toYc (Nn B.N) es g)(q:g (Au τ)=some ts)(hline:(apos.endLine==cpos.line)=true)(pl:Plain B.toYc cpos es)(k:∀G s1 us,B.Fr pn ad τ G s1->Up F s G s1->Reps B.w G ts us->wpAny B.M B.A (call (.builtin id) (.ref a::us)) Q E s1):wpAny B.M B.A (eval (.Call (.Attribute (.Name x px) name apos) es [] cpos) B.env) Q E s:=by
 obtain⟨o,h1,h2,h3⟩:=ht;refine wpAny_Call_method_late rfl pl.few hline rfl (Mm h.ok n l ⟨T,id,pa,slot,hty,⟨o,h1,h2⟩,fun b e=>?_,Vt pl (thn (ha cpos h.at q) fun us s1 z=>?_)⟩)
 .cases e;exact⟨o,h1,h3⟩
 .obtain⟨G,u,r⟩:=z;exact k G s1 us (h.after u) u r
theorem Fr.ownL(h:B.Fr pn ad τ F s)(hx:B.N[i]?=some x)(ht:τ[i]?=some (.own ts)):∃a qc n,ad i=[a]/\Look B.toYc s.heap x (.ref a)/\s.heap.get? a=some {cls:=.type "list",data:=.seq qc n}/\qc.size<=sizeLine/\qc.size=ts.length/\Reps B.w F ts qc.toList:=by
 obtain⟨⟨a,e,l⟩,q⟩:=h.slot i x _ hx ht;cases hd:ad i with
 |nil=>rw[hd]at e;cases e
 |cons b as=>rw[hd]at e q;cases e;obtain⟨rfl,qc,n,q1,q2,q3⟩:=q;exact⟨a,qc,n,rfl,l,q1,q2,by rw[<-q3.length,E7],q3⟩
theorem Fr.lset{qc its':Array Value}{n n' k:Nat}{f:Obj->Obj}(h:B.Fr pn ad τ F s)(hx:B.N[i]?=some x)(ht:τ[i]?=some (.own ts))(ha:ad i=[a])(l:Look B.toYc s.heap x (.ref a))(e:s.heap.get? a=some {cls:=.type "list",data:=.seq qc n})(hf:f {cls:=.type "list",data:=.seq qc n}={cls:=.type "list",data:=.seq its' n'})(r:Reps B.w F us its'.toList)(hz:its'.size<=sizeLine):∃ad',B.Fr pn ad' (τ.set i (.own us)) F {s with heap:=s.heap.update a f,toks:=k}:=by
 have e':(s.heap.update a f).get? a=some {cls:=.type "list",data:=.seq its' n'}:=by rw[Heap.get?_update_self f e (by rw[hf];rfl),hf]
 exact⟨_,h.own' (d:=[a]) hx ht (fun b hb=>by rw[ha]at hb;exact hb) (fun b hb=>.inl (by rw[ha];exact hb)) (fun b hb=>by rw[omg hb];exact⟨_,e'⟩)
  (fun b o hb q=>(Heap.get?_update_other _ _ fun w=>hb (Me.mpr w.symm)).trans q) rfl id fun lk=>.mk (lk _ l) ⟨rfl,its',n',e',hz,r⟩⟩
theorem Z2{id:String}{name:Str}{R:List T->List T->a7 (List T)}(pa_list:PlainAttrs "list")(slot:Slot "list" name id)(hty:typeOf (.builtin id)=pure (.type "method_descriptor"))(is:List Nat)(hx:B.N[i]?=some x)(n:Nm x)(ha:Oks B.toYc (Nn B.N) es g)(hline:(apos.endLine==cpos.line)=true)(pl:Plain B.toYc cpos es)(run:∀{s F ts us us' vs a qc n}{Q E:Value->Shared->Prop},F.In s.heap->s.heap.get? a=some {cls:=.type "list",data:=.seq qc n}->qc.size<=sizeLine->qc.size=us.length->Reps B.w F us qc.toList->Reps B.w F ts vs->R us ts=some us' ->(∀f its' n' k,f {cls:=.type "list",data:=.seq qc n}={cls:=.type "list",data:=.seq its' n'}->its'.size<=sizeLine->Reps B.w F us' its'.toList->Q .none {s with heap:=s.heap.update a f,toks:=k})->wpAny B.M B.A (call (.builtin id) (.ref a::vs)) Q E s):PS B (.Expr (.Call (.Attribute (.Name x px) name apos) es [] cpos) pos) fun τ=>(g (Au (frzAt is τ))).bind fun ts=>match(frzAt is τ)[i]? with
   |some (.own us)=>(R us ts).map fun us'=>.nx ((frzAt is τ).set i (.own us'))
   |_=>none:=fun hF q=>by
 obtain⟨ts,q1,q⟩:=obs q;obtain⟨G,ad',le,h'⟩:=hF.frzAt is;split at q
 .rename_i us hu;obtain⟨us',hr,rfl⟩:=oms q;obtain⟨a,qc,m,e1,l,e2,_⟩:=h'.ownL hx hu;refine wpAny_Expr_any (aJ pa_list slot hty h' n l ⟨_,e2,rfl,rfl⟩ ha q1 hline pl fun G1 s1 vs h1 u r=>?_) (quiet hF.ok);obtain⟨a',its',m',e1',l',e2',z,z2,r2⟩:=h1.ownL hx hu;rw[e1]at e1';cases e1';refine run h1.up.fh e2' z z2 r2 r hr fun f its' n' k hf z' r'=>?_;obtain⟨ad2,h2⟩:=h1.lset (k:=k) hx hu e1 l' e2' hf r' z';exact⟨_,_,le.trans u.ff,h2⟩
 .cases q
theorem Mf(e:s.heap.get? a=some {cls:=.type "list",data:=.seq qc n}):s.TypeIs (.ref a) "list":=⟨_,e,rfl⟩
theorem Xo(is:List Nat)(hx:B.N[i]?=some x)(n:Nm x)(he:Oke B.toYc (Nn B.N) e h)(h1:starEach [e] B.env=[(false,eval e B.env)])(hline:(apos.endLine==cpos.line)=true)(pl:Plain B.toYc cpos [e]):PS B (.Expr (.Call (.Attribute (.Name x px) "append" apos) [e] [] cpos) pos) fun τ=>(h (Au (frzAt is τ))).bind fun t=>match(frzAt is τ)[i]? with
   |some (.own us)=>if us.length<SZ then some (.nx ((frzAt is τ).set i (.own (us++[t]))))else none
   |_=>none:=fun hF q=>by
 refine Z2 (R:=fun us ts=>match ts with
  |[t]=>if us.length<SZ then some (us++[t])else none
  |_=>none) PySem.F.plainAttrs_list PySem.F.slot_list_append PySem.F.type_list_append is hx n (Hs he Li h1) hline pl (fun{s G ts us us' vs a qc n Q E}hf e2 z z2 r rs q k=>?_) hF ?_
 .rcases ts with _|⟨t,_|_⟩<;>first|(cases q;done)|skip
  obtain⟨u,vr,rfl,r1,r2⟩:=rs;cases r2;replace q:(if us.length<SZ then some (us++[t])else none)=some us':=q;split at q
  .rename_i hz;cases q;have hz':qc.size+1<=sizeLine:=by rw[z2];exact Kq hz
   exact call_meets PySem.F.slot_list_append (Mf e2) PySem.F.entry_list_append (PySem.F.args_list_append_2 _ _) (PySem.list_append a qc n u z) ⟨e2,k (Obj.mapSeq (·.push u)) _ _ _ rfl (by rw[Array.size_push];exact hz') (by simpa using r.app (Reps.cons r1 rfl:Reps _ _ [t] [u]))⟩
  .cases q
 .obtain⟨t,q1,q⟩:=obs q;dsimp only;rw[q1];dsimp only[xbs];split at q
  .rename_i us e;split at q
   .cases q;rw[if_pos (by assumption)];rfl
   .cases q
  .cases q
theorem fP(is:List Nat)(hx:B.N[i]?=some x)(n:Nm x)(he:Oke B.toYc (Nn B.N) e h)(h1:starEach [e] B.env=[(false,eval e B.env)])(hline:(apos.endLine==cpos.line)=true)(pl:Plain B.toYc cpos [e]):PS B (.Expr (.Call (.Attribute (.Name x px) "extend" apos) [e] [] cpos) pos) fun τ=>(h (Au (frzAt is τ))).bind fun t=>match(frzAt is τ)[i]?,t with
   |some (.own us),.lst vs=>if us.length+vs.length<=SZ then some (.nx ((frzAt is τ).set i (.own (us++vs))))else none
   |_,_=>none:=fun hF q=>by
 refine Z2 (R:=fun us ts=>match ts with
  |[.lst vs]=>if us.length+vs.length<=SZ then some (us++vs)else none
  |_=>none) PySem.F.plainAttrs_list PySem.F.slot_list_extend PySem.F.type_list_extend is hx n (Hs he Li h1) hline pl (fun{s G ts us us' vs a qc n Q E}hf e2 z z2 r rs q k=>?_) hF ?_
 .split at q
  .rename_i ws;obtain⟨u,vr,rfl,⟨b,js,m,rfl,b1,b2,b3⟩,r2⟩:=rs;cases r2;split at q
   .rename_i hz;cases q;have zj:js.size=ws.length:=by rw[<-b3.length,E7]
    have hz':qc.size+js.size<=sizeLine:=by rw[z2,zj];exact Kq hz
    exact call_meets PySem.F.slot_list_extend (Mf e2) PySem.F.entry_list_extend (PySem.F.args_list_extend_2 _ _) (AutoSeq1.list_extend_list_list_0 a qc n b js m (by unfold Builtin.List.listTooLong;simp;lia) z (by lia)) ⟨e2,hf _ _ b1,k (Obj.mapSeq (·++js)) _ _ _ rfl (by rw[Array.size_append];exact hz') (by simpa using r.app b3)⟩
   .cases q
  .cases q
 .obtain⟨t,q1,q⟩:=obs q;dsimp only;rw[q1];dsimp only[xbs];split at q
  .rename_i us vs e;rw[e];split at q
   .cases q;dsimp only;rw[if_pos (by assumption)];rfl
   .cases q
  .cases q
theorem jt{α:Type}(l:List α):l.eraseIdx (l.length-1)=l.dropLast:=by rw[List.dropLast_eq_take,List.eraseIdx_eq_take_drop_succ];simp;lia
theorem Ys(hF:B.Fr pn ad τ F s)(hx:B.N[i]?=some x)(n:Nm x)(hline:(apos.endLine==cpos.line)=true)(ht:τ[i]?=some (.own ts))(hl:ts[ts.length-1]?=some t)(k:∀ad' G s1 u,F.le G->B.Fr pn ad' (τ.set i (.own ts.dropLast)) G s1->Rep B.w G t u->Q u s1):wpAny B.M B.A (eval (.Call (.Attribute (.Name x px) "pop" apos) [] [] cpos) B.env) Q E s:=by
 obtain⟨a,qc,m,e1,l,e2,_⟩:=hF.ownL hx ht;refine aJ PySem.F.plainAttrs_list PySem.F.slot_list_pop PySem.F.type_list_pop hF n l ⟨_,e2,rfl,rfl⟩ Li rfl hline ⟨rfl,rfl,.inl rfl⟩ fun G1 s1 vs h1 u r=>?_;cases r;obtain⟨a',its',m',e1',l',e2',z,z2,r2⟩:=h1.ownL hx ht;rw[e1]at e1';cases e1';obtain⟨v,hv,rv⟩:=r2.get hl;refine call_meets PySem.F.slot_list_pop (Mf e2') PySem.F.entry_list_pop (PySem.F.args_list_pop_1 _) (MeetsSeq.list_pop_last a its' m' v (by rw[z2,<-Gb];exact hv) z) ⟨e2',?_⟩;have el:(its'.eraseIdxIfInBounds (its'.size-1)).toList=its'.toList.dropLast:=by rcases its' with⟨l⟩;rw[Mh,List.eraseIdxIfInBounds_toArray,jt]
 have rd:Reps B.w G1 ts.dropLast its'.toList.dropLast:=by have:=r2.length;rw[List.dropLast_eq_take,List.dropLast_eq_take,this];exact r2.take _
 obtain⟨ad2,h2⟩:=h1.lset (k:=s1.toks) (us:=ts.dropLast) (f:=Obj.mapSeq (·.eraseIdxIfInBounds (its'.size-1))) hx ht e1 l' e2' rfl (by rw[el];exact rd) (by rw[<-E7,el,List.length_dropLast,E7];lia);exact k _ _ _ _ u.ff h2 rv
end
section
variable {Y:Yc}{N:Str->Nat->Prop}{F G:Fz}{s s1:Shared}{r:Ev.Env}{E:Value->Shared->Prop}{a b c e:Expr}{f g h:Ev.Env->a7 T}{pos p2:Pos}{u v:Value}{ts us ks vs:List T}{t:T}{rest:List Expr}{x y:T}
def Qh(b:Expr):Prop:=∀o i,subscripted b false o i=operate [o,i] (getItem o i)
theorem Ux{value slice:Expr}{o i:Value}{T id:String}{Q:Value->Shared->Prop}(hl:typeLookup (.type T) "__getitem__"=pure (some (.builtin id)))(hs:Qh slice)(hT:s.TypeIs o T)(h:wpAny Y.M Y.A (getItem o i) Q E s):wpAny Y.M Y.A (subscriptTail value slice o i) Q E s:=tail_any hT hl h (hs o i)
theorem bN{n j:Nat}{i:Int}(h:Gf n i=some j):j<n/\seqIndex? i n=some j/\(if 0<=i then i.toNat=j else(i+(n:Int)).toNat=j /\ -(n:Int)<=i):=by
 unfold Gf at h;split at h
 .rename_i h0;split at h
  .rename_i h1;cases h;exact⟨by lia,seqIndex_of h0 h1,by rw[if_pos h0]⟩
  .cases h
 .split at h
  .rename_i h0 h1;cases h;exact⟨by lia,seqIndex_neg (by lia) h1,by rw[if_neg h0];exact⟨rfl,h1⟩⟩
  .cases h
theorem qX{value slice:Expr}(hu:Y.Rm)(hF:F.In s.heap)(hx:Rep Y.w F x u)(hy:Rep Y.w F y v)(h:Cm x y=some t)(hs:Qh slice):wpAny Y.M Y.A (subscriptTail value slice u v) (Res Y.w F s t) E s:=by
 have l63:(sizeLine:Nat)<2 ^ 63:=by rw[Ew];decide
 have dic:∀{ks vs:List T},x=.dic ks vs->Cm (.dic ks vs) y=some t->wpAny Y.M Y.A (subscriptTail value slice u v) (Res Y.w F s t) E s:=fun{ks vs}e h=>by
  subst e;replace h:(if Bj ks y=true then Aw ks vs y else none)=some t:=h;split at h
  .rename_i hk;obtain⟨d,us,rfl,D,rv⟩:=hx.dat hF;rw[Hl (by rw[<-rv.length];exact D.len)]at h;obtain⟨i,e1,e2⟩:=obs h;obtain⟨w,e3,rw'⟩:=rv.get e2;exact Ux slot_dict_getitem.lookup hs D.ty (fR (rdy hu hF D hk hy) (v:=w) (by rw[Hl D.len,e1];exact e3) (Ez hF rw'))
  .cases h
 have seq:∀{ts:List T}{qc:Array Value}{i:Int},Fo ts i=some t->Reps Y.w F ts qc.toList->∃j w,Gf qc.size i=some j/\qc[j]?=some w/\Rep Y.w F t w:=fun{ts qc i}h r=>by obtain⟨j,e1,e2⟩:=obs h;obtain⟨w,e3,rw'⟩:=r.get e2;exact⟨j,w,by rw[E8 r];exact e1,by rw[<-Gb];exact e3,rw'⟩
 cases x with
 |tup ts=>
  cases y with
  |int i=>
   obtain⟨_,rfl⟩:=hy;obtain⟨a,o,qc,n,rfl,f,c,d,z,r⟩:=hx;obtain⟨j,w,e1,e2,e3⟩:=seq h r;obtain⟨q1,q2,q3⟩:=bN e1;have hi : -(qc.size:Int)<=i/\i<qc.size:=by split at q3<;>lia
   have p:IsTup s.heap a qc:=⟨o,hF _ _ f,c,n,d⟩;exact Ux PyProof.Rows.slot_tuple_getitem.lookup hs p.typeIs (getItem_tuple (j:=j) p (by lia) (by lia) q2 e2 (Ej hF e3))
  |_=>cases h
 |lst ts=>
  cases y with
  |int i=>
   obtain⟨_,rfl⟩:=hy;obtain⟨a,qc,n,rfl,f,z,r⟩:=hx;obtain⟨j,w,e1,e2,e3⟩:=seq h r;obtain⟨q1,q2,q3⟩:=bN e1;have p:s.heap.IsList a qc:=⟨_,hF _ _ f,rfl,n,rfl⟩;refine Ux slot_list_getitem.lookup hs p.typeIs ?_;split at q3
   .rename_i h0;exact wpAny_getItem_list p h0 (by lia) (by rw[q3];exact e2) (Ej hF e3)
   .rename_i h0;exact wpAny_getItem_list_neg p (by lia) q3.2 (by lia) (by rw[q3.1];exact e2) (Ej hF e3)
  |_=>cases h
 |dic ks vs=>exact dic rfl h
 |_=>cases y<;>cases h
theorem iu(hu:Y.Rm)(ha:Oke Y N a f)(hb:Oke Y N b g)(hs:Qh b):Oke Y N (.Subscript a b pos) fun r=>(f r).bind fun x=>(g r).bind fun y=>Cm x y:=fun A e=>by obtain⟨x,e1,e⟩:=obs e;obtain⟨y,e2,e⟩:=obs e;refine Subscript_ (thn (ha A e1) fun v s1 z=>?_);obtain⟨G,u1,q1⟩:=z;refine thn (hb (A.up u1) e2) fun u s2 z=>?_;obtain⟨G2,u2,q2⟩:=z;exact thn (qX hu u2.fh (q1.mono u2.ff) q2 e hs) fun w s3 z=>Res.mk (u1.trans u2) z
def Okp(Y:Yc)(N:Str->Nat->Prop)(e:a7 Expr)(f:Ev.Env->a7 (a7 T)):Prop :=
 ∀{s F r o E},At Y N r F s->(f r).bind Lg=some o->wpAny Y.M Y.A (evalPart e Y.env) (fun u s'=>∃G,Up F s G s'/\IsPart u o) E s
theorem jV:Okp Y N none fun _=>some none:=fun A q=>by cases q;rw[evalPart_none];exact Af ⟨_,Up.tok A.fh,.none⟩
theorem pC(h:Oke Y N a f):Okp Y N (some a) fun r=>(f r).map some:=fun A q=>by
 obtain⟨o,e1,q⟩:=obs q;obtain⟨t,e2,rfl⟩:=oms e1;rw[evalPart_some];refine thn (h A e2) fun u s1 z=>?_;obtain⟨G,u1,q1⟩:=z;cases t with
 |int i=>cases q;obtain⟨_,rfl⟩:=q1;exact⟨G,u1,.int ..⟩
 |_=>cases q
theorem Wg{qc:Array Value}{lo hi:a7 Int}(r:Reps Y.w F ts qc.toList):Reps Y.w F (cut ts lo hi) ((qc.toList.drop (Bg qc.size 0 lo)).take (Bg qc.size qc.size hi-Bg qc.size 0 lo)):=by unfold cut;rw[E8 r];exact(r.drop _).take _
theorem lV{lo hi:a7 Expr}{g h:Ev.Env->a7 (a7 T)}(ha:Oke Y N a f)(hl:Okp Y N lo g)(hh:Okp Y N hi h):Oke Y N (.Subscript a (.Slice lo hi none p2) pos) fun r=>(f r).bind fun x=>(g r).bind fun l=>(h r).bind fun u=>(Lg l).bind fun l'=>(Lg u).bind fun u'=>Wi x l' u':=fun{s F r t E}A e=>by
 obtain⟨x,e1,e⟩:=obs e;obtain⟨l,e2,e⟩:=obs e;obtain⟨u,e3,e⟩:=obs e;obtain⟨l',e4,e⟩:=obs e;obtain⟨u',e5,e⟩:=obs e;refine Subscript_ (thn (ha A e1) fun v s1 z=>?_);obtain⟨G,u1,q1⟩:=z;refine wpAny_Slice (thn (hl (A.up u1) (dz.mpr ⟨l,e2,e4⟩)) fun vl s2 z=>?_);obtain⟨G2,u2,pl⟩:=z;refine thn (hh ((A.up u1).up u2) (dz.mpr ⟨u,e3,e5⟩)) fun vu s3 z=>?_;obtain⟨G3,u3,pu⟩:=z;rw[evalPart_none];refine Af ?_;have up:=(u1.trans u2).trans u3;have u4:Up F s G3 {s3 with heap:=s3.heap.push {cls:=.type "slice",data:=.fields #[vl,vu,.none]} }:=up.trans (Up.side (k:=s3.toks) u3.fh);have q4:=q1.mono (u2.ff.trans u3.ff);show wpAny Y.M Y.A (subscriptTail a (.Slice lo hi none p2) v (.ref s3.heap.objs.size)) (Res Y.w F s t) E {s3 with heap:=s3.heap.push {cls:=.type "slice",data:=.fields #[vl,vu,.none]} };have sl:=Heap.IsSliceOf.new s3.heap vl vu .none;cases x with
 |tup ts=>
  cases e;obtain⟨b,o,qc,n,rfl,f,c,d,z,r⟩:=q4;have p:IsTup (s3.heap.push {cls:=.type "slice",data:=.fields #[vl,vu,.none]}) b qc:=⟨o,u4.fh _ _ f,c,n,d⟩;refine tail_any (ops:=[.ref s3.heap.objs.size,.ref b]) p.typeIs PyProof.Rows.slot_tuple_getitem.lookup ?_ (by with_unfolding_all rfl);by_cases hw:Bg qc.size 0 l'=0/\Bg qc.size qc.size u'=qc.size
  .refine HT.get_whole p sl pl pu hw (Res.mk u4 (Ej u4.fh ⟨b,o,qc,n,rfl,f,c,d,z,?_⟩));have:=Wg (lo:=l') (hi:=u') r;rw[hw.1,hw.2,List.drop_zero,List.take_of_length_le (by simp)]at this;exact this
  .refine HT.getItem_tuple_cut p sl pl pu hw (Res.mk u4 (Q7 (k:=s3.toks) u4.fh (Wg r) ?_)) z;rw[Kf,Vr,E7];lia
 |lst ts=>cases e;obtain⟨b,qc,n,rfl,f,z,r⟩:=q4;have p:(s3.heap.push {cls:=.type "slice",data:=.fields #[vl,vu,.none]}).IsList b qc:=⟨_,u4.fh _ _ f,rfl,n,rfl⟩;refine tail_any (ops:=[.ref s3.heap.objs.size,.ref b]) p.typeIs slot_list_getitem.lookup ?_ (by with_unfolding_all rfl);refine wpAny_getItem_list_slice p sl pl pu .none (by simp) ?_ z;have ez:=HT.slicePick_cut qc.toList l' u';rw[Array.toArray_toList,E7]at ez;rw[ez];refine Res.mk u4 (R2 (k:=s3.toks) u4.fh (Wg r) ?_);rw[Kf,Vr,E7];lia
 |_=>cases e
end
section
variable {ys:Array (Int×Tok)}
variable {Y:Yc}{N:Str->Nat->Prop}{F G:Fz}{s s1:Shared}{r:Ev.Env}{E:Value->Shared->Prop}{a b c e o:Expr}{f g h:Ev.Env->a7 T}{pos p p2 apos cpos:Pos}{u v:Value}{ts us ks vs:List T}{t:T}{x:Str}{h':Heap}{k:Nat}
theorem Up.kept(hF:F.In s.heap)(hk:∀b o,s.heap.get? b=some o->h'.get? b=some o):Up F s F {s with heap:=h',toks:=k}:=⟨hk,rfl,id,fun _ _ e=>e,fun b o e=>hk b o (hF b o e),fun _ z=>.inl z⟩
theorem Up.laid{a:Addr}{o:Obj}(hF:F.In s.heap)(hk:∀b o,s.heap.get? b=some o->h'.get? b=some o)(z:s.heap.get? a=none)(e:h'.get? a=some o):Up F s (fup F a o) {s with heap:=h',toks:=k} :=
 ⟨hk,rfl,id,F9 (hF.none z),fun b u q=>by
  unfold fup at q;split at q
  .rename_i w;cases q;rw[w];exact e
  .exact hk _ _ (hF b u q),fun b q=>by
  unfold fup at q;split at q
  .rename_i w;exact .inr (by rw[w];exact z)
  .exact .inl q⟩
def Bl(Y:Yc)(f:Value)(g:T->a7 T):Prop:=∀{s F x t u E},St Y.toPc Y.A Y.stack F s->Rep Y.w F x u->g x=some t->wpAny Y.M Y.A (call f [u]) (Res Y.w F s t) E s
theorem l63:(sizeLine:Nat)<2 ^ 63:=by rw[Ew];decide
theorem nU:Bl Y (.builtin "len") (Gg .len):=fun{s F x t u E}S r h=>by
 have:=l63;cases x with
 |tup ts=>cases h;obtain⟨a,o,qc,n,rfl,f,c,d,z,r⟩:=r;exact len_tuple ⟨o,S.fh _ _ f,c,n,d⟩ (by lia) (Ez S.fh ⟨_,by rw[E8 r]⟩)
 |lst ts=>cases h;obtain⟨a,qc,n,rfl,f,z,r⟩:=r;exact Calls.call_len_list ⟨_,S.fh _ _ f,rfl,n,rfl⟩ (by lia) (Ez S.fh ⟨_,by rw[E8 r]⟩)
 |_=>cases h
theorem lF:Bl Y (.type "int") (Gg .toInt):=fun{s F x t u E}S r h=>by
 cases x with
 |int i=>cases h;obtain⟨_,rfl⟩:=r;exact call_int_int (Ej S.fh ⟨_,rfl⟩)
 |bl b=>cases h;cases r;exact call_int_bool (Ez S.fh ⟨_,rfl⟩)
 |_=>cases h
theorem lg:Bl Y (.type "list") (Gg .toList):=fun{s F x t u E}S r h=>by
 have fin:∀{ts:List T}{qc:Array Value},Reps Y.w F ts qc.toList->qc.size<=sizeLine->∀h' c',(∀b o',s.heap.get? b=some o'->h'.get? b=some o')->h'.get? s.heap.objs.size=some {cls:=.type "list",dict:=none,data:=.seq qc c',slots:=#[]}->Res Y.w F s (.lst ts) (.ref s.heap.objs.size) {s with heap:=h'}:=fun{ts qc}r z h' c' kp e=>⟨_,Up.laid (k:=s.toks) S.fh kp Bs e,_,qc,c',rfl,Fq,z,r.mono (F9 (S.fh.none Bs))⟩;cases x with
 |tup ts=>cases h;obtain⟨a,o,qc,n,rfl,f,c,d,z,r⟩:=r;exact call_list_seq a (.inr rfl) (S.fh _ _ f) c d (fun h' c' kp e=>fin r z h' c' kp e) z
 |lst ts=>cases h;obtain⟨a,qc,n,rfl,f,z,r⟩:=r;exact call_list_seq a (.inl rfl) (S.fh _ _ f) rfl rfl (fun h' c' kp e=>fin r z h' c' kp e) z
 |_=>cases h
theorem lj:Bl Y (.type "tuple") (Gg .toTuple):=fun{s F x t u E}S r h=>by
 cases x with
 |tup ts=>cases h;obtain⟨a,o,qc,n,rfl,f,c,d,z,r⟩:=r;exact call_tuple_same ⟨o,S.fh _ _ f,c,n,d⟩ (Ej S.fh ⟨a,o,qc,n,rfl,f,c,d,z,r⟩)
 |lst ts=>cases h;obtain⟨a,qc,n,rfl,f,z,r⟩:=r;exact call_tuple_list ⟨_,S.fh _ _ f,rfl,n,rfl⟩ (fun h' kp=>Res.mk (Up.kept (k:=s.toks) S.fh kp) (mq (k:=s.toks) (s:={s with heap:=h'}) (Up.kept (k:=s.toks) S.fh kp).fh r z)) z
 |_=>cases h
theorem Zh:∀{ts:List T}{us:List Value}{ns:List Int},Reps Y.w F ts us->T3 ts=some ns->∃ys:Array (Int×Tok),us=(intItems ys).toList/\ns=ys.toList.map (·.1)
 |[],_,_,h,e=>by cases h;cases e;exact⟨#[],by simp[intItems],rfl⟩
 |t::ts,_,_,⟨u,r,e1,h1,h2⟩,e=>by
  subst e1;cases t with
  |int i=>obtain⟨k,rfl⟩:=h1;obtain⟨ms,e1,rfl⟩:=oms e;obtain⟨ys,q1,q2⟩:=Zh h2 e1;exact⟨#[(i,k)]++ys,by rw[q1];simp[intItems],by rw[q2];simp⟩
  |_=>cases e
theorem Xf(cm:Y.calm){f:Value}{g:List Int->a7 T}{k:Array (Int×Tok)->Nat}(M:∀{s l ys Q E},Y.A.handled=none->s.heap.IsList l (intItems ys)->0<ys.size->(∀v h' tk,(intItems ys)[k ys]?=some v->(∀b o,s.heap.get? b=some o->h'.get? b=some o)->Q v {s with heap:=h',toks:=tk})->wpAny Y.M Y.A (call f [.ref l]) Q E s)(B:∀ys,0<ys.size->g (ys.toList.map (·.1))=some (.int (numAt ys (k ys))))(Z:g []=none):Bl Y f (Tn g):=fun{s F x t u E}S r h=>by
 cases x with
 |lst ts=>
  obtain⟨ns,hns,h⟩:=obs h;obtain⟨a,qc,n,rfl,f,z,r⟩:=r;obtain⟨ys,q1,rfl⟩:=Zh r hns;have e:qc=intItems ys:=Array.toList_inj.mp q1;subst e;have hsz:0<ys.size:=Nat.pos_of_ne_zero fun w=>by rw[show ys.toList=[]from by simpa using w,List.map_nil,Z]at h;cases h
  rw[B ys hsz]at h;cases h;refine M (S.hd cm) ⟨_,S.fh _ _ f,rfl,n,rfl⟩ hsz fun v h' tk hv hk=>?_;obtain⟨t',rfl⟩:=intItems_at hv;exact⟨F,Up.kept S.fh hk,_,rfl⟩
 |_=>cases h
theorem dh{i:Nat}(h:i<ys.size):numAt ys i∈ys.toList.map (·.1):=by rw[numAt_eq];exact getD_mem (by rw[Aq,E7];exact h)
theorem Zg{a:Int}(h:a∈ys.toList.map (·.1)):∃j,j<=ys.size-1/\a=numAt ys j:=by obtain⟨j,hj,rfl⟩:=mem_getD h;rw[Aq,E7]at hj;exact⟨j,by lia,(numAt_eq ..).symm⟩
theorem lT(cm:Y.calm):Bl Y (.builtin "min") (Gg .least)  :=Xf cm min_intList (fun ys h=>by obtain⟨b1,b2⟩:=argBest_lt (numAt ys) (ys.size-1);rw[cX,List.min?_eq_some_iff.mpr ⟨dh (Nat.lt_of_le_of_lt b1 (by lia)),fun a ha=>by obtain⟨j,hj,rfl⟩:=Zg ha;exact b2 j hj⟩];rfl) rfl
theorem oO(cm:Y.calm):Bl Y (.builtin "max") (Gg .most)  :=Xf cm max_intList (fun ys h=>by obtain⟨b1,b2⟩:=argBest_gt (numAt ys) (ys.size-1);rw[cu,List.max?_eq_some_iff.mpr ⟨dh (Nat.lt_of_le_of_lt b1 (by lia)),fun a ha=>by obtain⟨j,hj,rfl⟩:=Zg ha;exact b2 j hj⟩];rfl) rfl
theorem Zd:∀{ts:List T}{us:List Value}{bs:List Bool},Reps Y.w F ts us->Mo ts=some bs->us=bs.map .bool
 |[],_,_,h,e=>by cases h;cases e;rfl
 |t::ts,_,_,⟨u,r,e1,h1,h2⟩,e=>by
  subst e1;cases t with
  |bl i=>cases h1;obtain⟨ms,e1,rfl⟩:=oms e;rw[Zd h2 e1];rfl
  |_=>cases e
theorem aL:∀(l:List Bool),((List.range l.length).any fun i=>(l[i]?).getD true)=l.any id
 |[]=>rfl
 |a::l=>by rw[Eb,List.range_succ_eq_map,Ie,List.any_map,Ie,<-aL l];rfl
theorem pU(cm:Y.calm):Bl Y (.builtin "any") (Gg .any):=fun{s F x t u E}S r h=>by
 cases x with
 |lst ts=>
  obtain⟨bs,hb,rfl⟩:=oms h;obtain⟨l,qc,n,rfl,f,z,r⟩:=r;have ei:=Zd r hb;have hl:s.heap.IsList l qc:=⟨_,S.fh _ _ f,rfl,n,rfl⟩;refine call_any_walk (wpAny_pyIter_list hl ?_);refine⟨s.heap.objs.size,[s.heap.objs.size,l],[s.heap.objs.size],qc.size,_,_,fun i=>(bs[i]?).getD true,rfl,Walks.list (A:=Y.A.in1) (S.hd cm) _ l (Es (Cu (S.fh _ _ f))) qc,
   ⟨⟨_,Cv _ rfl,rfl,rfl⟩,hl.push _⟩,fun i v s' Q' E' hP hQ=>?_,fun h' tk hk=>?_⟩
  .have hP':(bs.map Value.bool)[i]?=some v:=by rw[<-ei];simpa using hP
   rw[Dm]at hP';obtain⟨b,hb,rfl⟩:=oms hP';replace hQ:Q' ((bs[i]?).getD true) s':=hQ;rw[hb]at hQ;exact wpAny_truthy_bool hQ
  .have e:qc.size=bs.length:=by rw[<-E7,ei,Aq]
   rw[e,aL];exact⟨F,Up.kept S.fh fun b o eo=>hk b o (fun hm=>by rw[omg hm]at eo;exact M6 _ (Cu eo)) (Bb _ eo),rfl⟩
 |_=>cases h
theorem Pe(ha:Oke Y N a f)(hs:starEach [a] Y.env=[(false,eval a Y.env)]):Oks Y N [a] fun r=>(f r).bind fun x=>some [x]:=fun{s F r ts E}pos A q=>by refine Hs ha Li (by rw[hs];rfl) pos A ?_;exact q
theorem mf{u:Value}{g:T->a7 T}(hc:Bl Y u g)(hu:(∃id,u=.builtin id)\/∃T,u=.type T)(hg:Gl Y x)(hm:Y.mg x=none)(hv:bootBuiltins x=some u)(hn:x≠"__name__")(hd:(x==("__debug__":Str))=false)(ha:Oke Y N a f)(hs:starEach [a] Y.env=[(false,eval a Y.env)]):Oke Y N (.Call (.Name x p) [a] [] pos) fun r=>(f r).bind g:=fun{s F r t E}A q=>by
 obtain⟨x1,e1,q⟩:=obs q;refine wpAny_Call_Name_kw (It A hg hm hv ?_ hn hd);have main:=thn (Pe ha hs pos A (ts:=[x1]) (E:=E) (by simp only[e1];rfl)) fun us s1 ⟨G,u1,r1⟩=>show wpAny Y.M Y.A (call u us) (Res Y.w F s t) E s1 by obtain⟨w,z,rfl,h1,h2⟩:=r1;cases h2;exact thn (hc (A.up u1).toSt h1 q) fun _ _ z=>Res.mk u1 z
 rcases hu with⟨id,rfl⟩|⟨T,rfl⟩
 .exact PyProof.Rows.callWith_builtin1 main (by rw[hs];rfl) rfl
 .exact PyProof.Rows.callWith_type1 main (by rw[hs];rfl) rfl
def Xc:Ty->String
 |.tint=>"int"
 |.tbool=>"bool"
theorem j3{x:T}{k:Ty}(hF:F.In s.heap)(r:Rep Y.w F x u)(hq:Lu x k=some t):wpAny Y.M Y.A (call (.builtin "isinstance") [u,.type (Xc k)]) (Res Y.w F s t) E s:=by
 suffices w:(∀a,x≠.adr a)->wpAny Y.M Y.A (call (.builtin "isinstance") [u,.type (Xc k)]) (Res Y.w F s (.bl (Mv x k))) E s by cases x<;>first|(cases hq;exact w fun _ z=>nomatch z)|cases hq
 intro nx;have fT:Res Y.w F s (.bl (Mv x k)) (.bool (Mv x k)) s:=Ej hF rfl;have fF:Res Y.w F s (.bl (Mv x k)) (.bool (Mv x k)) {s with toks:=s.toks+1}:=Ez hF rfl;cases x with
 |non=>cases r;cases k<;>first|exact IsiPair.NoneType_int fF|exact IsiPair.NoneType_bool fF
 |bl b=>cases r;cases k<;>first|exact IsiPair.bool_int fT|exact IsiPair.bool_bool fT
 |int b=>obtain⟨_,rfl⟩:=r;cases k<;>first|exact IsiPair.int_int fT|exact IsiPair.int_bool fF
 |str b=>obtain⟨_,rfl⟩:=r;cases k<;>first|exact IsiPair.str_int fF|exact IsiPair.str_bool fF
 |tup ts=>obtain⟨a,o,qc,n,rfl,f,c,_⟩:=r;cases k<;>first|exact IsiPair.tuple_int (hF _ _ f) c fF|exact IsiPair.tuple_bool (hF _ _ f) c fF
 |lst ts=>obtain⟨a,qc,n,rfl,f,_⟩:=r;cases k<;>first|exact IsiPair.list_int (hF _ _ f) rfl fF|exact IsiPair.list_bool (hF _ _ f) rfl fF
 |adr a=>exact absurd rfl (nx a)
 |dic ks ts=>obtain⟨a,o,es,ep,rfl,f,_,q,_⟩:=r;cases k<;>first|exact IsiPair.dict_int (hF _ _ f) q.ex.1 fF|exact IsiPair.dict_bool (hF _ _ f) q.ex.1 fF
theorem T9{ty:Str}{k:Ty}(hb:bootBuiltins ty=some (.type (Xc k)))(hn:ty≠"__name__")(hd:(ty==("__debug__":Str))=false)(hmt:Y.mg ty=none)(hgt:Gl Y ty)(hm:Y.mg "isinstance"=none)(hg:Gl Y "isinstance")(ha:Oke Y N a f)(hs:starEach [a,.Name ty p2] Y.env=(false,eval a Y.env)::starEach [.Name ty p2] Y.env):Oke Y N (.Call (.Name "isinstance" p) [a,.Name ty p2] [] pos) fun r=>(f r).bind fun x=>Lu x k:=fun{s F r t E}A q=>by
 obtain⟨x1,e1,q⟩:=obs q;refine wpAny_Call_Name_kw (It A hg hm boot_isinstance ?_ (by decide) (by decide));refine PyProof.Rows.callWith_builtin1 ?_ hs rfl;rw[hs];refine Calls.spliced_cons (thn (ha A e1) fun u s1 z=>?_);obtain⟨G,u1,r1⟩:=z;refine Calls.spliced_cons (It (A.up u1) hgt hmt hb ?_ hn hd);exact Calls.spliced_nil (thn (j3 u1.fh r1 q) fun _ _ z=>Res.mk u1 z)
theorem fD{x y:T}(hx:F6 x=true)(hy:F6 y=true):Bc x y=0:=by cases x<;>cases y<;>first|(cases hx;done)|(cases hy;done)|rfl
theorem qJ{y:T}{xs:List T}(hy:F6 y=true)(hx:xs.all F6=true):Do y xs=true:=by unfold Do;rw[En]at hx ⊢;intro z hz;rw[fD (hx z hz) hy];rfl
theorem dD:∀{ts:List T}{x:T}{i:Nat},zb0 x ts=some i->∃t,ts[i]?=some t/\Ev.eqT t x=true/\∀(j:Nat)u,j<i->ts[j]?=some u->Ev.eqT u x=false
 |[],_,_,h=>by cases h
 |y::ts,x,i,h=>by
  simp only[Ev.zb0]at h;split at h
  .rename_i e;cases h;exact⟨y,rfl,e,fun j u hj=>absurd hj (Nat.not_lt_zero _)⟩
  .rename_i e;obtain⟨k,e1,rfl⟩:=oms h;obtain⟨t,h1,h2,h3⟩:=dD e1;refine⟨t,by simpa using h1,h2,fun j u hj hu=>?_⟩;cases j with
   |zero=>cases hu;simpa using e
   |succ j=>exact h3 j u (by lia) (by simpa using hu)
def Ml(Y:Yc)(id:String)(m:Mt):Prop:=∀{s F x y t u v E},St Y.toPc Y.A Y.stack F s->Rep Y.w F x u->Rep Y.w F y v->Fx m x y=some t->wpAny Y.M Y.A (call (.builtin id) [u,v]) (Res Y.w F s t) E s
theorem Xr(hu:Y.Rm):Ml Y "list.index" .index:=fun{s F x y t u v E}S hx hy h=>by
 cases x with
 |lst ts=>
  replace h:(if((F6 y&&ts.all F6)||Do y ts)=true then(zb0 y ts).map fun(i:Nat)=>T.int (i:Int)else none)=some t:=h;split at h
  .rename_i hf;have hf:Do y ts=true:=by
    rw[Bool.or_eq_true]at hf;rcases hf with hf|hf
    .rw[Cy]at hf;exact qJ hf.1 hf.2
    .exact hf
   obtain⟨i,hi,rfl⟩:=oms h;obtain⟨a,qc,n,rfl,f,z,r⟩:=hx;obtain⟨t0,a1,a2,a3⟩:=dD hi;obtain⟨e,he⟩:=W0 S.fh (A:=Y.A.in1) (show Y.A.units+1+30<cLine by have:Y.A.units+100<cLine:=hu;lia) hy;obtain⟨e1,e2⟩:=he hf r;have hz:=E8 r;have hj:i<qc.size:=by rw[hz];exact(ome a1).1
   have get:∀(m:Nat)(hm:m<qc.size),∃tm,ts[m]?=some tm/\e qc[m]=Ev.eqT tm y:=fun m hm=>by refine⟨ts[m]'(by lia),Dw (by lia),?_⟩;have:=Av (fun l:List Bool=>l[m]?) e2;simp only[List.getElem?_map,Array.getElem?_toList,Array.getElem?_eq_getElem hm,List.getElem?_eq_getElem (show m<ts.length by lia),xms]at this;exact Fe this
   have ho:=S.fh _ _ f;refine call_meets PySem.F.slot_list_index ⟨_,ho,rfl⟩ PySem.F.entry_list_index (PySem.F.args_list_index_2 _ _) (PySem.SeqAt.list_indexAt a qc n _ _ v e i hj (by have:=l63;unfold sizeLine at z;lia) ?_ ?_) ⟨ho,?_,?_⟩
   .obtain⟨tm,g1,g2⟩:=get i hj;rw[g2];rw[a1]at g1;cases g1;exact a2
   .intro m hm hmi;obtain⟨tm,g1,g2⟩:=get m hm;rw[g2];exact a3 m tm hmi g1
   .exact fun y hy=>e1 y (by simpa using hy)
   .exact Ez S.fh ⟨_,rfl⟩
  .cases h
 |_=>cases y<;>cases h
theorem cO(hu:Y.Rm):Ml Y "list.count" .count:=fun{s F x y t u v E}S hx hy h=>by
 cases x with
 |lst ts=>
  replace h:(if Do y ts=true then some (T.int ((ts.filter fun z=>Ev.eqT z y).length:Nat))else none)=some t:=h;split at h
  .rename_i hf;cases h;obtain⟨a,qc,n,rfl,f,z,r⟩:=hx;obtain⟨e,he⟩:=W0 S.fh (A:=Y.A.in1) (show Y.A.units+1+30<cLine by have:Y.A.units+100<cLine:=hu;lia) hy;obtain⟨e1,e2⟩:=he hf r;have ho:=S.fh _ _ f;refine call_meets PySem.F.slot_list_count ⟨_,ho,rfl⟩ PySem.F.entry_list_count (PySem.F.args_list_count_2 _ _) (PySem.SeqAt.list_countAt a qc n _ _ v e) ⟨ho,fun y hy=>e1 y (by simpa using hy),?_⟩;refine Ez S.fh ⟨s.toks,?_⟩;have:=Av (fun l:List Bool=>l.countP id) e2;simp only[List.countP_map,Function.comp_def,id]at this;rw[show qc.toList.countP e=qc.toList.countP (fun x=>e x)from rfl,this,List.countP_eq_length_filter]
  .cases h
 |_=>cases y<;>cases h
theorem Qx{nm:Str}{id:String}{m:Mt}(sl:Slot "list" nm id)(ty:typeOf (.builtin id)=pure (.type "method_descriptor"))(hm:Ml Y id m)(ho:Oke Y N o f)(ha:Oke Y N a g)(hbase:attributeBase o nm Y.env (eval o Y.env)=eval o Y.env)(hs:starEach [a] Y.env=[(false,eval a Y.env)])(hl:(apos.endLine==cpos.line)=true):Oke Y N (.Call (.Attribute o nm apos) [a] [] cpos) fun r=>(f r).bind fun x=>(g r).bind fun y=>Fx m x y:=fun{s F r t E}A q=>by
 obtain⟨x1,e1,q⟩:=obs q;obtain⟨x2,e2,q⟩:=obs q;refine wpAny_Call_method_late hbase (by rw[hs];rfl) hl rfl (thn (ho A e1) fun v s1 z=>?_);obtain⟨G,u1,r1⟩:=z;have hl:∃ts,x1=.lst ts:=by cases x1<;>first|exact⟨_,rfl⟩|(cases m<;>cases x2<;>cases q)
 obtain⟨ts,rfl⟩:=hl;obtain⟨b,qc,n,ev,f,z,rr⟩:=r1;have r1:Rep Y.w G (.lst ts) v:=⟨b,qc,n,ev,f,z,rr⟩;subst ev;refine⟨"list",_,PySem.F.plainAttrs_list,sl,ty,⟨_,u1.fh _ _ f,rfl⟩,fun c e=>by cases e;exact⟨_,u1.fh _ _ f,rfl⟩,?_⟩;refine Calls.callWith_builtin (by rw[hs];rfl) ?_;rw[hs];refine Calls.evalArgs_plain (Calls.spliced_cons (thn (ha (A.up u1) e2) fun w s2 z=>Calls.spliced_nil ?_));obtain⟨G2,u2,r2⟩:=z;exact thn (hm ((A.up u1).up u2).toSt (r1.mono u2.ff) r2 q) fun _ _ z=>Res.mk (u1.trans u2) z
end
section
structure I8(K:W.Frag)(D:Addr):Prop where
 ga:W.findIn K (.ref D) "__getattribute__"=some (some (.builtin "BaseException.__getattribute__"))
 gn:W.findIn K (.ref D) "__getattr__"=some none
 sb:W.mroIn K D (.type "BaseException")=some true
 hd:W.hasDictIn K D=true
 ha:W.findIn K (.ref D) "__class__"=some (some (.builtin "object.__class__"))
 hn:W.specialIn K (.builtin "object.__class__") "__get__"=some (some (.builtin "getset_descriptor.__get__"))
 ht:W.takesIn K (.builtin "object.__class__")=some true
 hm:W.mroIn K D (.type "object")=some true
 na:W.findIn K (.ref D) "at"=some none
section
variable {P:Program}{w:World}{A:Around}{E:Value->Shared->Prop}{s:Shared}{K:W.Frag}{a D:Addr}{o:Obj}{od:a7 Obj}{name:Str}{tk:Tok}{fill expr:Bool}{Q:Value->Shared->Prop}
theorem Yr:builtinKind "BaseException.__getattribute__"=some .slot:=by decide +kernel
theorem aC:splitId "BaseException.__getattribute__"=some ("BaseException", "__getattribute__"):=by decide +kernel
theorem cS(X:K.In s.heap)(J:W.InstAt s.heap a o D od)(k:I8 K D)(q:∀R:Result->Shared->Prop,(∀v s',W.handedIn v=true->Q v s'->R (.ok (.ret v)) s')->codeAny (model P w) A (.call (.builtin "BaseException.__getattribute__") ⟨[.ref a,.str name tk],[]⟩) R s):wpAny (model P w) A (getAttrBy (.ref a) (.str name tk) fill expr) Q E s:=by
 have e0:onTheHeap (Value.builtin "BaseException.__getattribute__")=false:=rfl;have e1:(onTheHeap (Value.ref D)&&Value.builtin "BaseException.__getattribute__"==Value.builtin "object.__getattribute__")=false:=by rw[show(Value.builtin "BaseException.__getattribute__"==Value.builtin "object.__getattribute__")=false by decide +kernel];rfl
 unfold getAttrBy;refine E6 (Aa ((J.type (M:=model P w)).here (Aa ((W.looks_findIn X k.ga).here ?_))));dsimp only;rw[e1,if_neg Fg];unfold getAttrByItsOwn hookBefore;rw[if_pos (show onTheHeap (.ref D)=true from rfl)];refine Aa ((W.looks_findIn X k.gn).here (Aa (Ir (E6 ?_))));unfold callGetattribute;rw[e0,Bool.and_false,if_neg Fg];unfold boundAndCalled;rw[PySem.F.excAttr_ValueError.ga.bind];refine Aa (Af ?_);refine wpAny_call (q _ fun v s' hv hq=>?_);exact W.handed_on hv hq
theorem cB(X:K.In s.heap)(J:W.InstAt s.heap a o D od)(k:I8 K D):W.Looks (model P w) s.heap (isInstance (.ref a) (.type "BaseException")) true:=(J.type (M:=model P w)).andThen (W.looks_mroIn X k.sb)
theorem bD:∃miss:Value->Sem Fin,Builtin.«object.__getattribute__» ⟨[.ref a,.str name tk],[]⟩=(typeOf (.ref a) >>= fun tp=>Builtin.ObjectAttr.find (.ref a) tp name >>= fun r=>match r with
  |.value v=>ret v
  |.bind g b=>Builtin.ObjectAttr.bindTo g b (.ref a) tp
  |.missing=>miss tp):=⟨_,rfl⟩
theorem iS(X:K.In s.heap)(J:W.InstAt s.heap a o D od)(k:I8 K D)(hf:W.findObj K D od name=some (.value v))(q:R (.ok (.ret v)) s):codeAny (model P w) A (.call (.builtin "BaseException.__getattribute__") ⟨[.ref a,.str name tk],[]⟩) R s:=by
 refine codeAny_call_builtin PySem.F.excAttr_ValueError.ga.plain PySem.F.entry_bexc_ga (@W.check_slot (model P w) _ _ s "BaseException.__getattribute__" "BaseException" "__getattribute__" (.ref a) [.str name tk] [] _ Yr aC (cB X J k) (PySem.F.args_bexc_ga _ _) ?_);obtain⟨miss,e⟩:=bD (a:=a) (name:=name) (tk:=tk);rw[e];refine Aa ((J.type (M:=model P w)).here (Aa ((W.looks_find (M:=model P w) X J hf).here ?_)));exact Af q
theorem pI(X:K.In s.heap)(J:W.InstAt s.heap a o D od)(k:I8 K D)(hf:W.findObj K D od name=some (.bind (.builtin "getset_descriptor.__get__") (.builtin "object.__class__")))(q:R (.ok (.ret (.ref D))) s):codeAny (model P w) A (.call (.builtin "BaseException.__getattribute__") ⟨[.ref a,.str name tk],[]⟩) R s:=by
 refine codeAny_call_builtin PySem.F.excAttr_ValueError.ga.plain PySem.F.entry_bexc_ga (@W.check_slot (model P w) _ _ s "BaseException.__getattribute__" "BaseException" "__getattribute__" (.ref a) [.str name tk] [] _ Yr aC (cB X J k) (PySem.F.args_bexc_ga _ _) ?_);obtain⟨miss,e⟩:=bD (a:=a) (name:=name) (tk:=tk);rw[e];refine Aa ((J.type (M:=model P w)).here (Aa ((W.looks_find (M:=model P w) X J hf).here ?_)));refine Aa (E6 (wpAny_call (W.class_get (ox:=o) (od:=od) X J k.hm ?_)));exact Af q
theorem fC(X:K.In s.heap)(J:W.InstAt s.heap a o D od)(k:I8 K D)(hf:W.findObj K D od name=some (.value v))(hh:W.handedIn v=true)(q:Q v {s with toks:=s.toks+1}):wpAny (model P w) A (getAttr (.ref a) name expr) Q E s:=by unfold getAttr;refine Aa (wpAny_mkText ?_);exact cS (s:={s with toks:=s.toks+1}) X J k fun R hR=>iS (s:={s with toks:=s.toks+1}) X J k hf (hR v _ hh q)
theorem iO{Q:a7 Value->Shared->Prop}{od:Obj}(X:K.In s.heap)(J:W.InstAt s.heap a o D (some od))(k:I8 K D)(q:Q (some (.ref D)) {s with toks:=s.toks+1}):wpAny (model P w) A (getAttr? (.ref a) "__class__") Q E s:=by have hf:W.findObj K D (some od) "__class__"=some (.bind (.builtin "getset_descriptor.__get__") (.builtin "object.__class__")):=W.findObj_data (by obtain⟨cd,hc,_⟩:=W.any_some k.hd;rw[hc];rfl) k.ha k.hn k.ht;unfold getAttr? getAttrBy?;refine Aa (wpAny_mkText (Aa (Ir ?_)));exact cS (s:={s with toks:=s.toks+1}) X J k fun R hR=>pI (s:={s with toks:=s.toks+1}) X J k hf (hR _ _ rfl (Af q))
theorem mK{od:Obj}(k:I8 K D):W.KitX K (.ref a) (.ref D) (fun h=>W.InstAt h a o D (some od)) where
 ty:=fun _ _ _ I=>I.type
 it:=fun _ _ X _=>by
  obtain⟨cdD,hcD,_⟩:=W.any_some k.hd;unfold W.clsIn at hcD;split at hcD
  .rename_i ho;intro A' Q' E' s' kk q;unfold isType loadHead;exact Aa (wpAny_loadPart (kk _ _ (X _ _ ho)) (Af q))
  .cases hcD
 ne:=fun h tp dd qc n sl X htp=>by
  obtain⟨cdD,hcD,_⟩:=W.any_some k.hd;refine Bool.eq_false_iff.mpr fun q=>?_;have e:D=tp:=Value.ref.inj (Ki.mp q);subst e;unfold W.clsIn at hcD;split at hcD
  .rename_i ho;cases(X _ _ ho).symm.trans htp
  .cases hcD
 ca:=fun X I q=>iO X I k q
end
def ErAt(F:Fz)(a D:Addr)(n:Int):Prop:=∃o dx od k,F a=some o/\o.cls=.ref D/\o.dict=some dx/\(∃vs,o.data=.fields vs)/\F dx=some od/\W.lookIn "at" od=some (some (.int n k))
theorem ErAt.mono{F G:Fz}{a D:Addr}{n:Int}(h:ErAt F a D n)(le:F.le G):ErAt G a D n:=let⟨o,dx,od,k,e1,e2,e3,e4,e5,e6⟩:=h;⟨o,dx,od,k,le _ _ e1,e2,e3,e4,le _ _ e5,e6⟩
theorem ErAt.inst{F:Fz}{a D:Addr}{n:Int}{h:Heap}(e:ErAt F a D n)(hF:F.In h):∃o od k,W.InstAt h a o D (some od)/\W.lookIn "at" od=some (some (.int n k)):=by obtain⟨o,dx,od,k,e1,e2,e3,⟨vs,hv⟩,e5,e6⟩:=e;exact⟨o,od,k,⟨hF _ _ e1,e2,by unfold W.notCls;rw[hv],by rw[e3];exact hF _ _ e5⟩,e6⟩
section
variable {Y:Yc}{N:Str->Nat->Prop}{F:Fz}{s:Shared}{r:Ev.Env}{e:Expr}{f:Ev.Env->a7 T}{a D:Addr}{n:Int}{p1 p3 pos:Pos}{x:Str}{C:Value}{b:Bool}
def K1(a:Addr)(t:T):T->a7 T
 |.adr b=>if b=a then some t else none
 |_=>none
theorem Pn{a:Addr}{t x y:T}(h:K1 a t x=some y):x=.adr a/\y=t:=by
 cases x with
 |adr b=>
  replace h:(if b=a then some t else none)=some y:=h;split at h
  .rename_i e;subst e;cases h;exact⟨rfl,rfl⟩
  .cases h
 |_=>cases h
theorem aH(hI:∀{F},Y.I F->ErAt F a D n)(ec:I8 Y.K D)(ki:W.kitOne Y.K (.ref D) C=some b)(he:Oke Y N e f)(hc:∀{s F r Q E},At Y N r F s->Q C s->wpAny Y.M Y.A (eval (.Name x p3) Y.env) Q E s)(hm:Y.mg "isinstance"=none)(hg:Gl Y "isinstance")(hs:starEach [e,.Name x p3] Y.env=(false,eval e Y.env)::starEach [.Name x p3] Y.env):Oke Y N (.Call (.Name "isinstance" p1) [e,.Name x p3] [] pos) fun r=>(f r).bind (K1 a (.bl b)):=fun{s F r t E}A q=>by
 obtain⟨x1,e1,q⟩:=obs q;obtain⟨rfl,rfl⟩:=Pn q;refine wpAny_Call_Name_kw (It A hg hm boot_isinstance ?_ (by decide) (by decide));refine PyProof.Rows.callWith_builtin1 ?_ hs rfl;rw[hs];refine Calls.spliced_cons (thn (he A e1) fun u s1 z=>?_);obtain⟨G,u1,rfl,_⟩:=z;have A1:=A.up u1;refine Calls.spliced_cons (hc A1 ?_);obtain⟨o,od,k,J,_⟩:=(hI A1.inv).inst u1.fh;exact Calls.spliced_nil (W.kia_one (mK (od:=od) ec) (A.mod.kin.keeps A1.bk) J ki (fun z=>nomatch z) fun tk=>⟨G,u1.trans (Up.tok u1.fh),rfl⟩)
theorem Yx(hI:∀{F},Y.I F->ErAt F a D n)(ec:I8 Y.K D)(he:Oke Y N e f)(hb:attributeBase e "at" Y.env (eval e Y.env)=eval e Y.env):Oke Y N (.Attribute e "at" pos) fun r=>(f r).bind (K1 a (.int n)):=fun{s F r t E}A q=>by
 obtain⟨x1,e1,q⟩:=obs q;obtain⟨rfl,rfl⟩:=Pn q;refine Attribute_any_ (thn (he A e1) fun u s1 z=>?_) (by rw[arm_eval_Attribute,hb]);obtain⟨G,u1,rfl,_⟩:=z;have A1:=A.up u1;obtain⟨o,od,k,J,l⟩:=(hI A1.inv).inst u1.fh;exact fC (A.mod.kin.keeps A1.bk) J ec (W.findObj_own ec.hd ec.na rfl l) rfl ⟨G,u1.trans (Up.tok u1.fh),_,rfl⟩
end
end
section
variable {B:Bd}{pn:List (Addr×a7 Obj)}{ad:Nat->List Addr}{τ:List Sl}{F G:Fz}{s s' s1:Shared}{x y:Str}{i j:Nat}{is:List Nat}{e c:Expr}{es:List Expr}{pos p px apos cpos:Pos}{Y:Yc}{E:Value->Shared->Prop}{t:T}{ts us:List T}{u:Value}{a:Addr}{g:Ev.Env->a7 (List T)}{h:Ev.Env->a7 T}{f:List Sl->a7 Out}{body:List Stmt}
theorem qd(hx:B.N[i]?=some x)(n:Nm x)(hline:(apos.endLine==cpos.line)=true):PS B (.Expr (.Call (.Attribute (.Name x px) "pop" apos) [] [] cpos) pos) fun τ=>match τ[i]? with
  |some (.own ts)=>if ts=[]then none else some (.nx (τ.set i (.own ts.dropLast)))
  |_=>none:=fun hF q=>by
 dsimp only at q;split at q
 .rename_i ts ht;split at q
  .cases q
  .rename_i hn;cases q;exact wpAny_Expr_any (Ys hF hx n hline ht (List.getLast?_eq_getElem?▸List.getLast?_eq_some_getLast hn) fun ad' G s1 u le h _=>⟨_,_,le,h⟩) (quiet hF.ok)
 .cases q
theorem ig(hx:B.N[i]?=some x)(n:Nm x)(hy:B.N[j]?=some y)(hl:Loc B.env.scope y)(hline:(apos.endLine==cpos.line)=true):PS B (.Assign [.Name y p] (.Call (.Attribute (.Name x px) "pop" apos) [] [] cpos) pos) fun τ=>match τ[i]? with
  |some (.own ts)=>(match ts[ts.length-1]? with
   |some t=>if i=j then none else some (.nx ((τ.set i (.own ts.dropLast)).set j (.val t)))
   |none=>none)
  |_=>none:=fun hF q=>by
 dsimp only at q;split at q
 .rename_i ts ht;split at q
  .rename_i t hl';split at q
   .cases q
   .cases q;exact wpAny_Assign_Name (Ys hF hx n hline ht hl' fun ad' G s1 u le h r=>h.store (d:=[]) (sl:=.val t) hy hl (fun _ w=>nomatch w) (fun _ lk=>⟨u,lk,r⟩) fun s2 _ _ h2=>⟨_,_,le,h2⟩)
  .cases q
 .cases q
theorem iv(hm:B.Fm)(is:List Nat)(hc:Okb B.toYc (Nn B.N) c h)(hb:PSs B body f):PS B (.While c body [] pos) fun τ=>Jg f (fun τ=>h (Au (frzAt is τ))) 1000 τ:=fun{pn ad τ F s o}hF q=>by
 refine wpAny_While (codeAny_whileLoop (fun n s'=>∃ad τ' G,F.le G/\B.Fr pn ad τ' G s'/\Jg f (fun τ=>h (Au (frzAt is τ))) n τ'=some o) ?_ 1000 ⟨ad,τ,F,fun _ _ e=>e,hF,q⟩);rintro n s1 ⟨ad1,τ1,G,le,h1,q1⟩;cases n with
 |zero=>cases q1
 |succ n=>
  rw[Jg]at q1;obtain⟨t,q2,q1⟩:=obs q1;obtain⟨G2,ad2,le2,h2⟩:=h1.frzAt is;refine thn (hc h2.at q2) fun b s2 z=>?_;obtain⟨G3,u,z⟩:=z;subst z;have h3:=h1.after (u.back le2);cases b with
  |false=>cases q1;exact wpAny_execs_nil ⟨ad1,G,le,h3⟩
  |true=>
   obtain⟨o1,q3,q1⟩:=obs q1;rw[if_pos rfl];refine Eh (hb h3 q3) (fun fl s3 z=>?_) fun e s3 z=>cx (o:=o) hm hF (by obtain⟨x,n,rfl,z⟩:=z;cases q1;exact⟨x,n,rfl,z⟩);cases fl<;>cases o1<;>first|exact z.elim|skip
   .obtain⟨ad4,G4,le4,h4⟩:=z;exact⟨n,Nat.lt_succ_self _,ad4,_,G4,le.trans le4,h4,q1⟩
   .cases q1;exact z
theorem pO{qc:Array Value}{n j:Nat}{k:Int}{tk:Tok}{v:Value}{Q:Unit->Shared->Prop}(e:s.heap.get? a=some {cls:=.type "list",data:=.seq qc n})(hz:qc.size<=sizeLine)(hj:Gf qc.size k=some j)(q:Q () {s with heap:=s.heap.update a (Obj.mapSeq (·.setIfInBounds j v))}):wpAny Y.M Y.A (setItem (.ref a) (.int k tk) v) Q E s:=by
 have hn:sizeLine<2 ^ 63:=by rw[Ew];decide
 unfold Gf at hj;split at hj
 .rename_i h0;split at hj
  .rename_i h1;cases hj;exact PySem.W.ki_setAt e h0 (by lia) h1 q
  .cases hj
 .split at hj
  .rename_i h0 h1;cases hj;exact PySem.W.ki_setBack e (by lia) h1 (by lia) q
  .cases hj
theorem Reps.set{F:Fz}{w:World}:∀{ts:List T}{us:List Value}{t:T}{u:Value}(j:Nat),Reps w F ts us->Rep w F t u->Reps w F (ts.set j t) (us.set j u)
 |[],_,_,_,_,h,_=>by cases h;rfl
 |_::_,_,_,_,0,⟨_,_,e,_,h2⟩,r=>by subst e;exact .cons r h2
 |_::_,_,_,_,j+1,⟨_,_,e,h1,h2⟩,r=>by subst e;exact .cons h1 (h2.set j r)
end
section
variable {B:Bd}{pn:List (Addr×a7 Obj)}{ad:Nat->List Addr}{τ:List Sl}{F G:Fz}{s s' s1:Shared}{x y:Str}{i j k:Nat}{n:Int}{is:List Nat}{e c:Expr}{es:List Expr}{pos p px p2:Pos}{E:Value->Shared->Prop}{t:T}{ts us:List T}{u v:Value}{a f:Addr}{g:Ev.Env->a7 (List T)}{sp:List T->a7 T}{ex:List T->a7 (Str×Int)}{fd:FuncData}{ps:List Str}{Q:Value->Shared->Prop}
theorem Fr.pe(cm:B.calm)(h:B.Fr pn ad τ F s)(z:Err false B.toPc B.env.locals (frs B.stack) s x n v s'):B.PE (.rs x n) v s':=by refine⟨x,n,rfl,z.from h.up.toE,?_⟩;obtain⟨_,_,_,_,_,_,_,u,_⟩:=z;exact U7 u (h.toSt.funs cm)
structure Cl(B:Bd)(x:Str)(p:Pos)(e:Expr)(es:List Expr)(pos:Pos)(g:Ev.Env->Option (List T))(sp:List T->Option T)(ex:List T->Option (Str×Int)):Prop where
 fn:∀ts,((sp ts).isSome=true\/(ex ts).isSome=true)->∃k f fd ps,Fn B.toPc k f fd ps sp ex/\Room k B.A/\B.mg x=some (.ref f)/\W.keepIn B.K (.ref f)=true/\(∀us:List Value,us.length=ps.length->bindArgs fd ⟨us,[]⟩=pure (ps.zip us))/\(∀{ts t},sp ts=some t->ts.length=ps.length)/\∀{ts t},ex ts=some t->ts.length=ps.length
 gl:Gl B.toYc x
 ar:Oks B.toYc (Nn B.N) (e::es) g
 cm:B.calm
 nd:(x==("__debug__":Str))=false
 st:starEach (e::es) B.env=(false,eval e B.env)::starEach es B.env
 pl:(backTo pos (starEach es B.env)).any (·.1)=false
def Hz(sp:List T->a7 T)(ex:List T->a7 (Str×Int))(k:T->Out)(ts:List T):a7 Out:=match sp ts with
 |some t=>some (k t)
 |none=>(ex ts).map fun p=>.rs p.1 p.2
theorem Zq{kk:T->Out}{o:Out}(C:Cl B x p e es pos g sp ex)(is:List Nat)(hF:B.Fr pn ad τ F s)(q1:g (Au (frzAt is τ))=some ts)(q:Hz sp ex kk ts=some o)(h1:∀t u s' ad' G,o=kk t->F.le G->B.Fr pn ad' (frzAt is τ) G s'->Rep B.w G t u->Q u s')(h2:∀v s',B.PE o v s'->E v s'):wpAny B.M B.A (eval (.Call (.Name x p) (e::es) [] pos) B.env) Q E s:=by
 have hs:(sp ts).isSome=true\/(ex ts).isSome=true:=by
  unfold Hz at q;split at q
  .rename_i e;exact .inl (by rw[e];rfl)
  .obtain⟨w,e,_⟩:=oms q;exact .inr (by rw[e];rfl)
 obtain⟨k,f,fd,ps,hFn,hr,hm,hk,hb,hl,hl2⟩:=C.fn ts hs;obtain⟨G,ad',le,h'⟩:=hF.frzAt is;have A:=h'.at
 refine wpAny_Call_Name_kw (M3 A C.gl hm ?_ C.nd);refine W.callWith_K (h₀:=B.base) A.mod.kin hk (thn (C.ar pos A q1) fun us s1 z=>?_) C.st C.pl;obtain⟨G1,u1,rs⟩:=z;have A1:=A.up u1;have h3:=h'.after u1;refine⟨A.mod.kin.keeps A1.bk,wpAny_call ?_⟩;unfold Hz at q;split at q
 .rename_i t e1;cases q;refine codeAny_mono (hFn.run hr A1.toSt (.of_eq (hb us (by rw[rs.length];exact hl e1))) rs e1) fun r s2 z=>?_;obtain⟨v,rfl,G2,u2,r2⟩:=z;exact h1 t v s2 ad' G2 rfl ((le.trans u1.ff).trans u2.ff) (h3.after u2) r2
 .obtain⟨w,e2,rfl⟩:=oms q;refine codeAny_mono (hFn.err (x:=w.1) (n:=w.2) B.env.locals hr A1.toSt (.of_eq (hb us (by rw[rs.length];exact hl2 e2))) rs e2) fun r s2 z=>?_;obtain⟨v,rfl,z⟩:=z;exact h2 v s2 (h3.pe C.cm z)
theorem j0(C:Cl B x p e es pos g sp ex)(is:List Nat)(hy:B.N[i]?=some y)(hl:Loc B.env.scope y)(hs:swapsWith (.Call (.Name x p) (e::es) [] pos) (some (.Name y px)) p2.line B.env=pure false):PS B (.Assign [.Name y px] (.Call (.Name x p) (e::es) [] pos) p2) fun τ=>(g (Au (frzAt is τ))).bind fun ts=>Hz sp ex (fun t=>.nx ((frzAt is τ).set i (.val t))) ts:=fun hF q=>by
 obtain⟨ts,q1,q⟩:=obs q;refine wpAny_Assign_Name (Zq C is hF q1 q (fun t u s' ad' G eo le h' r=>?_) fun _ _ z=>z) hs;subst eo;exact h'.store (d:=[]) (sl:=.val t) hy hl (fun _ w=>nomatch w) (fun _ lk=>⟨u,lk,r⟩) fun s2 _ _ h2=>⟨_,_,le,h2⟩
theorem qV(C:Cl B x p e es pos g sp ex)(is:List Nat)(hs:swapsWith (.Call (.Name x p) (e::es) [] pos) none p2.line B.env=pure false):PS B (.Expr (.Call (.Name x p) (e::es) [] pos) p2) fun τ=>(g (Au (frzAt is τ))).bind fun ts=>Hz sp ex (fun _=>.nx (frzAt is τ)) ts:=fun hF q=>by
 obtain⟨ts,q1,q⟩:=obs q;refine wpAny_Expr_any (Zq C is hF q1 q (fun t u s' ad' G eo le h' r=>?_) fun _ _ z=>z) (quiet hF.ok) hs;subst eo;exact⟨_,_,le,h'⟩
end
section
section
variable {Y:Yc}{N:Str->Nat->Prop}{a b:Expr}{f g:Ev.Env->a7 T}{pos:Pos}
def Oz:T->T->a7 Sl
 |.lst xs,.lst ys=>if xs.length+ys.length<=SZ then some (.own (xs++ys))else none
 |_,_=>none
theorem Z9(ha:Oke Y N a f)(hb:Oke Y N b g):Lj Y N (.BinOp a .Add b pos) fun r=>(f r).bind fun x=>(g r).bind fun y=>Oz x y:=fun{s F r sl E}A h=>by
 obtain⟨x,e1,h⟩:=obs h;obtain⟨y,e2,h⟩:=obs h;refine wpAny_BinOp (thn (ha A e1) fun u s1 ⟨G,u1,q1⟩=>thn (hb (A.up u1) e2) fun v s2 ⟨G2,u2,q2⟩=>?_);replace q1:=q1.mono u2.ff;unfold Oz at h;split at h
 .split at h
  .rename_i hz;cases h;obtain⟨a,xs,n,rfl,h1,z1,r1⟩:=q1;obtain⟨b,ys,m,rfl,h2,z2,r2⟩:=q2;have hz:xs.size+ys.size<=sizeLine:=by rw[E8 r1,E8 r2];exact Kq hz
   exact PySem.P.add_list (u2.fh _ _ h1) (u2.fh _ _ h2) ⟨_,G2,rfl,(u1.trans u2).trans (Up.side (k:=s2.toks) u2.fh),u2.fh.none Bs,(u1.trans u2).old Bs,rfl,xs++ys,_,Heap.get?_push_size _ rfl,by simpa using hz,by simpa using r1.app r2⟩ hz
  .cases h
 .cases h
end
def Qn:T->Sl
 |.lst ts=>.own ts
 |t=>.val t
theorem mm{x y:T}{ts:List T}(h:Lv x y=some (.lst ts)):Oz x y=some (.own ts):=by
 cases x<;>cases y<;>first
  |(cases h;done)
  |(rename_i xs ys;have h:(if xs.length+ys.length<=SZ then some (T.lst (xs++ys))else none)=some (.lst ts):=h;unfold Oz;split at h<;>cases h;rename_i hz;exact if_pos hz)
  |(rename_i xs ys;have h:(if xs.length+ys.length<=SZ then some (T.tup (xs++ys))else none)=some (.lst ts):=h;split at h<;>cases h)
theorem lJ{B:Bd}{a b:Expr}{f g:Ev.Env->a7 T}{i:Nat}{x:Str}{p p2 pos:Pos}(ha:Oke B.toYc (Nn B.N) a f)(hb:Oke B.toYc (Nn B.N) b g)(is:List Nat)(hx:B.N[i]?=some x)(hl:Loc B.env.scope x):PS B (.Assign [.Name x p] (.BinOp a .Add b p2) pos) fun τ=>((f (Au (frzAt is τ))).bind fun x=>(g (Au (frzAt is τ))).bind fun y=>Lv x y).bind fun t=>some (.nx ((frzAt is τ).set i (Qn t))):=fun{pn ad τ F s o}hF q=>by
 obtain⟨t,q1,e⟩:=obs q;cases e;by_cases ht:∃ts,t=.lst ts
 .obtain⟨ts,rfl⟩:=ht;obtain⟨x1,e1,q1⟩:=obs q1;obtain⟨y1,e2,q1⟩:=obs q1;have S:PS B (.Assign [.Name x p] (.BinOp a .Add b p2) pos) _:=M4 (p:=p) (pos:=pos) (Z9 (pos:=p2) ha hb) is hx hl rfl;exact S hF (by simp only[e1,e2,xbs,mm q1];rfl)
 .have S:PS B (.Assign [.Name x p] (.BinOp a .Add b p2) pos) _:=Mb (p:=p) (pos:=pos) (Z0 (pos:=p2) bZ ha hb) is hx hl rfl;have e:Qn t=.val t:=by cases t<;>first|rfl|exact absurd ⟨_,rfl⟩ ht
  rw[e];exact S hF (by simp only[q1,xbs])
end
section
variable {i:Nat}{x:Str}
def toldN:List Str:=["_law_deed_here", "_law_found", "e", "_law_kinds"]
def toldC:List Str:=["NoText", "NoRow", "Twice", "BadCheck", "NoRef", "Held", "NoMark", "BadLog", "Clash"]
structure EK(K:W.Frag)(cs:List Addr)(D:Addr)(j:Nat):Prop where
 ec:I8 K D
 ki:cs.map (fun C=>W.kitOne K (.ref D) (.ref C))=(List.range 9).map fun i=>some (decide (i=j))
 kv:W.kitOne K (.ref D) (.type "ValueError")=some true
 hj:j<9
structure TdS(B:Bd)(cs:List Addr):Prop where
 N:B.N=toldN
 lo:∀x∈toldN,B.env.scope.names.lookup x=some .local
 gl:∀x∈toldC++(["isinstance", "ValueError", "bool"]:List Str),Gl B.toYc x
 nb:∀x∈(["isinstance", "ValueError", "bool"]:List Str),B.mg x=none
 mc:toldC.map B.mg=cs.map fun C=>some (.ref C)
 rm:B.toYc.Rm
def M7(j:Nat):List T:=(List.range 9).map fun i=>T.bl (decide (i=j))
variable {B:Bd}{cs:List Addr}{a D:Addr}{n:Int}{j:Nat}
theorem TdS.cls(t:TdS B cs)(h:toldC[i]?=some x):∃C,cs[i]?=some C/\B.mg x=some (.ref C):=by
 have:=Av (fun l:List (a7 Value)=>l[i]?) t.mc;simp only[List.getElem?_map,h,xms]at this;cases e:cs[i]? with
 |none=>rw[e]at this;cases this
 |some C=>rw[e]at this;exact⟨C,rfl,Fe this⟩
theorem EK.at{K:W.Frag}{C:Addr}{i:Nat}(k:EK K cs D j)(h:cs[i]?=some C)(hi:i<9):W.kitOne K (.ref D) (.ref C)=some (decide (i=j)):=by have:=Av (fun l:List (a7 Bool)=>l[i]?) k.ki;simp only[List.getElem?_map,h,xms,List.getElem?_range hi]at this;exact Fe this
theorem TdS.v(t:TdS B cs){p:Pos}(h:toldN[i]?=some x)(hd:(x==("__debug__":Str))=false:=by decide)(hc:(x==("__classdict__":Str))=false:=by decide):Oke B.toYc (Nn B.N) (.Name x p) fun r=>(r[i]?).join:=Wh (by show B.N[i]?=some x;rw[t.N];exact h) hd hc
theorem TdS.isi(t:TdS B cs)(hI:∀{F},B.I F->ErAt F a D n)(k:EK B.K cs D j){p1 p2 p3 p4:Pos}(h:toldC[i]?=some x)(hi:i<9:=by decide)(hd:(x==("__debug__":Str))=false:=by decide):
  Oke B.toYc (Nn B.N) (.Call (.Name "isinstance" p1) [.Name "e" p2,.Name x p3] [] p4) fun r=>((r[2]?).join).bind (K1 a (.bl (decide (i=j)))):=by
 obtain⟨C,h1,h2⟩:=t.cls h;exact aH hI k.ec (k.at h1 hi) (t.v (i:=2) rfl) (fun A q=>M3 A (t.gl x (List.mem_append_left _ (Ee h))) h2 q hd) (t.nb _ (by decide)) (t.gl _ (by decide)) rfl
theorem ic{Y:Yc}{N:Str->Nat->Prop}{e:Expr}{f:Ev.Env->a7 T}{p1 p2 p3:Pos}(hmt:Y.mg "bool"=none)(hgt:Gl Y "bool")(hm:Y.mg "isinstance"=none)(hg:Gl Y "isinstance")(he:Oke Y N e f)(hs:starEach [e,.Name "bool" p2] Y.env=(false,eval e Y.env)::starEach [.Name "bool" p2] Y.env):Oke Y N (.Call (.Name "isinstance" p1) [e,.Name "bool" p2] [] p3) fun r=>(f r).bind fun x=>Lu x .tbool:=T9 (k:=.tbool) PyProof.Rows.boot_bool (by decide) (by decide) hmt hgt hm hg he hs
end
section
variable {B:Bd}{cs:List Addr}{a D:Addr}{n:Int}{j:Nat}{pn:List (Addr×a7 Obj)}{ad:Nat->List Addr}{F:Fz}{s:Shared}{x0 x1 x3:Sl}
structure Hr(Y:Yc)(N:Str->Nat->Prop)(es:List Expr)(n:Nat)(f:Ev.Env->Option (List T)):Prop where
 ok:Oks Y N es f
 len:∀{r ts},f r=some ts->ts.length=n
section
variable {Y:Yc}{N:Str->Nat->Prop}{e:Expr}{es:List Expr}{f:Ev.Env->a7 T}{g:Ev.Env->a7 (List T)}{m x1:Nat}{pos:Pos}
theorem Om:Hr Y N [] 0 fun _=>some []:=⟨Li,fun e=>by cases e;rfl⟩
theorem Fp(ha:Oke Y N e f)(hr:Hr Y N es m g)(hs:starEach (e::es) Y.env=(false,eval e Y.env)::starEach es Y.env):Hr Y N (e::es) (m+1) fun r=>(f r).bind fun x=>(g r).bind fun xs=>some (x::xs):=⟨Hs ha hr.ok hs,fun e=>by obtain⟨x,_,e⟩:=obs e;obtain⟨xs,e2,e⟩:=obs e;cases e;rw[Eb,hr.len e2]⟩
theorem cM(h:Hr Y N es m g):Oke Y N (.List es pos) fun r=>if m<=1000 then(g r).map .lst else none:=bI (@h.len) (@h.ok)
theorem Sf(h:Hr Y N es m g):Oke Y N (.Tuple es x1 pos) fun r=>if m<=1000 then(g r).map .tup else none:=aU (@h.len) (@h.ok)
end
def Po(ks:List Stmt):Prop:=∀{B:Bd}{cs:List Addr}{a D:Addr}{n:Int}{j:Nat}{pn:List (Addr×a7 Obj)}{ad:Nat->List Addr}{F:Fz}{s:Shared}{x0 x1 x3:Sl},TdS B cs->(∀{F},B.I F->ErAt F a D n)->EK B.K cs D j->B.Fr pn ad [x0,x1,.val (.adr a),x3] F s->
 wpAny B.M B.A (execs ks B.env) (B.Post pn F (.nx [x0,.val (.tup [.str "refused",.int j,.int n]),.val (.adr a),.val (.lst (M7 j))])) No s
theorem nZ:∀j,j<9->Fx .count (.lst (M7 j)) (.bl true)=some (.int 1)/\Fx .index (.lst (M7 j)) (.bl true)=some (.int j)
 |0,_=>⟨rfl,rfl⟩
 |1,_=>⟨rfl,rfl⟩
 |2,_=>⟨rfl,rfl⟩
 |3,_=>⟨rfl,rfl⟩
 |4,_=>⟨rfl,rfl⟩
 |5,_=>⟨rfl,rfl⟩
 |6,_=>⟨rfl,rfl⟩
 |7,_=>⟨rfl,rfl⟩
 |8,_=>⟨rfl,rfl⟩
 |n+9,h=>by lia
theorem Vj{t:T}:K1 a t (.adr a)=some t:=if_pos rfl
theorem oU{p0 p1 p2 p3 p4 p5 p6 p7 p8 p9 p10 p11 p12 p13 p14 p15 p16 p17 p18 p19 p20 p21 p22 p23 p24 p25 p26 p27 p28 p29 p30 p31 p32 p33 p34 p35 p36 p37 p38 p39 p40 p41 p42 p43 p44 p45 p46 p47 p48 p49 p50 p51 p52 p53 p54 p55 p56 p57 p58 p59 p60 p61 p62 p63 p64 p65 p66 p67 p68 p69 p70 p71 p72 p73 p74 p75 p76 p77 p78 p79 p80 p81 p82:Pos}(l1:(p41.endLine==p46.line)=true)(l2:(p60.endLine==p62.line)=true)(l3:(p75.endLine==p77.line)=true):Po [.Assign [.Name "_law_kinds" p0] (.List [.Call (.Name "isinstance" p1) [.Name "e" p2,.Name "NoText" p3] [] p4,.Call (.Name "isinstance" p5) [.Name "e" p6,.Name "NoRow" p7] [] p8,.Call (.Name "isinstance" p9) [.Name "e" p10,.Name "Twice" p11] [] p12,.Call (.Name "isinstance" p13) [.Name "e" p14,.Name "BadCheck" p15] [] p16] p17) p18,.Assign [.Name "_law_kinds" p19] (.BinOp (.Name "_law_kinds" p20) .Add (.List [.Call (.Name "isinstance" p21) [.Name "e" p22,.Name "NoRef" p23] [] p24,.Call (.Name "isinstance" p25) [.Name "e" p26,.Name "Held" p27] [] p28,.Call (.Name "isinstance" p29) [.Name "e" p30,.Name "NoMark" p31] [] p32,.Call (.Name "isinstance" p33) [.Name "e" p34,.Name "BadLog" p35] [] p36] p37) p38) p39,.Expr (.Call (.Attribute (.Name "_law_kinds" p40) "append" p41) [.Call (.Name "isinstance" p42) [.Name "e" p43,.Name "Clash" p44] [] p45] [] p46) p47,.Assign [.Name "_law_found" p48] (.Tuple [.Constant (.str "refused") 0 p49,.UnaryOp .USub (.Constant (.int 1) 0 p50) p51,.Constant (.int 0) 0 p52] 0 p53) p54,.If (.BoolOp .And [.Call (.Name "isinstance" p55) [.Name "e" p56,.Name "ValueError" p57] [] p58,.Compare (.Call (.Attribute (.Name "_law_kinds" p59) "count" p60) [.Constant (.bool true) 0 p61] [] p62) [.Eq] [.Constant (.int 1) 0 p63] p64,.UnaryOp .Not (.Call (.Name "isinstance" p65) [.Attribute (.Name "e" p66) "at" p67,.Name "bool" p68] [] p69) p70] p71) [.Assign [.Name "_law_found" p72] (.Tuple [.Constant (.str "refused") 0 p73,.Call (.Attribute (.Name "_law_kinds" p74) "index" p75) [.Constant (.bool true) 0 p76] [] p77,.Attribute (.Name "e" p78) "at" p79] 0 p80) p81] [] p82]:=by
 intro B cs a D n j pn ad F s x0 x1 x3 t hI k hF;have st:∀{i:Nat}{x:Str},toldN[i]?=some x->B.N[i]?=some x/\Loc B.env.scope x:=fun{i x}h=>⟨by rw[t.N];exact h,.inl (t.lo x (Ee h))⟩;have nmk:Nm "_law_kinds":=⟨by decide,by decide⟩;have S1:PS B _ _:=Mb (B:=B) (i:=3) (p:=p0) (pos:=p18) (cM (pos:=p17) (Fp (t.isi hI k (i:=0) (p1:=p1) (p2:=p2) (p3:=p3) (p4:=p4) rfl) (Fp (t.isi hI k (i:=1) (p1:=p5) (p2:=p6) (p3:=p7) (p4:=p8) rfl) (Fp (t.isi hI k (i:=2) (p1:=p9) (p2:=p10) (p3:=p11) (p4:=p12) rfl) (Fp (t.isi hI k (i:=3) (p1:=p13) (p2:=p14) (p3:=p15) (p4:=p16) rfl) Om rfl) rfl) rfl) rfl)) [] (st rfl).1 (.inl (t.lo "_law_kinds" (by decide))) rfl;have S2:PS B _ _:=M4 (B:=B) (i:=3) (p:=p19) (pos:=p39) (Z9 (pos:=p38) (t.v (p:=p20) (i:=3) rfl) (cM (pos:=p37) (Fp (t.isi hI k (i:=4) (p1:=p21) (p2:=p22) (p3:=p23) (p4:=p24) rfl) (Fp (t.isi hI k (i:=5) (p1:=p25) (p2:=p26) (p3:=p27) (p4:=p28) rfl) (Fp (t.isi hI k (i:=6) (p1:=p29) (p2:=p30) (p3:=p31) (p4:=p32) rfl) (Fp (t.isi hI k (i:=7) (p1:=p33) (p2:=p34) (p3:=p35) (p4:=p36) rfl) Om rfl) rfl) rfl) rfl))) [] (st rfl).1 (.inl (t.lo "_law_kinds" (by decide))) rfl;have S3:PS B _ _:=Xo (B:=B) (pos:=p47) (px:=p40) (apos:=p41) (cpos:=p46) [] (st (i:=3) (x:="_law_kinds") rfl).1 nmk (t.isi hI k (i:=8) (p1:=p42) (p2:=p43) (p3:=p44) (p4:=p45) rfl) rfl l1 ⟨rfl,rfl,.inr ⟨_,_,rfl⟩⟩;have S4:PS B _ _:=Mb (B:=B) (i:=1) (p:=p48) (pos:=p54) (Sf (x1:=0) (pos:=p53) (Fp (N4 (x:="refused") (j:=0) (pos:=p49)) (Fp (bB (pos:=p51) (Q0 (i:=1) (j:=0) (pos:=p50))) (Fp (Q0 (i:=0) (j:=0) (pos:=p52)) Om rfl) rfl) rfl)) [] (st rfl).1 (.inl (t.lo "_law_found" (by decide))) rfl;have ve:Oke B.toYc (Nn B.N) (.Call (.Name "isinstance" p55) [.Name "e" p56,.Name "ValueError" p57] [] p58) _:=aH hI k.ec k.kv (t.v (i:=2) rfl) (fun A q=>It A (t.gl _ (by decide)) (t.nb _ (by decide)) (by decide +kernel:bootBuiltins "ValueError"=some (.type "ValueError")) q (by decide) (by decide)) (t.nb _ (by decide)) (t.gl _ (by decide)) rfl;have at1:Oke B.toYc (Nn B.N) (.Attribute (.Name "e" p66) "at" p67) _:=Yx hI k.ec (t.v (i:=2) rfl) rfl;have bo:Oke B.toYc (Nn B.N) (.Call (.Name "isinstance" p65) [.Attribute (.Name "e" p66) "at" p67,.Name "bool" p68] [] p69) _:=ic (t.nb _ (by decide)) (t.gl _ (by decide)) (t.nb _ (by decide)) (t.gl _ (by decide)) at1 rfl;have cn:Oke B.toYc (Nn B.N) (.Call (.Attribute (.Name "_law_kinds" p59) "count" p60) [.Constant (.bool true) 0 p61] [] p62) _:=Qx PySem.F.slot_list_count PySem.F.type_list_count (cO t.rm) (t.v (i:=3) rfl) U5 rfl rfl l2;have ix:Oke B.toYc (Nn B.N) (.Call (.Attribute (.Name "_law_kinds" p74) "index" p75) [.Constant (.bool true) 0 p76] [] p77) _:=Qx PySem.F.slot_list_index PySem.F.type_list_index (Xr t.rm) (t.v (i:=3) rfl) U5 rfl rfl l3;have bl:∀{o:a7 T}{b:Bool}{y:T},o.bind (K1 a (.bl b))=some y->∃b,y=.bl b:=fun h=>by obtain⟨_,_,h⟩:=obs h;exact⟨_,(Pn h).2⟩
 have bl2:∀{o:a7 T}{y:T},o.bind (fun x=>Lu x .tbool)=some y->∃b,y=.bl b:=fun h=>by obtain⟨x,_,h⟩:=obs h;cases x<;>first|(cases h;done)|(cases h;exact⟨_,rfl⟩)
 have S5:PS B _ _:=cL (B:=B) (pos:=p82) (Okw.okb (Xb (pos:=p71) (Y3 ve (fun _=>rfl) bl) (Xb (aq (pos:=p64) (bq t.rm) cn (Q0 (i:=1) (j:=0) (pos:=p63)) rfl (fun h=>aa (o:=.eq) h)) (cZ (dw (pos:=p70) (Y3 bo (fun _=>rfl) bl2)))))) [3]
  (Kh (Mb (B:=B) (i:=1) (p:=p72) (pos:=p81) (Sf (x1:=0) (pos:=p80) (Fp (N4 (x:="refused") (j:=0) (pos:=p73)) (Fp ix (Fp (Yx (pos:=p79) hI k.ec (t.v (p:=p78) (i:=2) rfl) rfl) Om rfl) rfl) rfl)) [3] (st rfl).1 (.inl (t.lo "_law_found" (by decide))) rfl) N9) N9
 obtain⟨c1,c2⟩:=nZ j k.hj;have SS:PSs B _ _:=Kh S1 (Kh S2 (Kh S3 (Kh S4 (Kh S5 N9))));clear S1 S2 S3 S4 S5 ve at1 bo cn ix bl bl2 st;refine Eh (@SS pn ad _ F s (.nx [x0,.val (.tup [.str "refused",.int j,.int n]),.val (.adr a),.val (.lst (M7 j))]) hF ?_) (fun _ _ q=>q) fun _ _ q=>by obtain⟨_,_,q,_⟩:=q;cases q
 clear SS;obtain⟨_,_,_,hj⟩:=k;have e2:∀{o:a7 T}{t:T},o=some (.adr a)->o.bind (K1 a t)=some t:=fun h=>by rw[h];exact Vj
 have key:∀{b0 b1 b2 b3 b4 b5 b6 b7 b8:Bool},[T.bl b0,.bl b1,.bl b2,.bl b3,.bl b4,.bl b5,.bl b6,.bl b7,.bl b8]=M7 j->Fx .count (.lst [T.bl b0,.bl b1,.bl b2,.bl b3,.bl b4,.bl b5,.bl b6,.bl b7,.bl b8]) (.bl true)=some (.int 1)/\Fx .index (.lst [T.bl b0,.bl b1,.bl b2,.bl b3,.bl b4,.bl b5,.bl b6,.bl b7,.bl b8]) (.bl true)=some (.int j):=fun h=>by rw[h];exact⟨c1,c2⟩
 have k9:[T.bl (decide (0=j)),.bl (decide (1=j)),.bl (decide (2=j)),.bl (decide (3=j)),.bl (decide (4=j)),.bl (decide (5=j)),.bl (decide (6=j)),.bl (decide (7=j)),.bl (decide (8=j))]=M7 j:=rfl;obtain⟨q1,q2⟩:=key k9;have q3:Gz (.int 1) (.int 1)=some (.bl true):=rfl;have q4:Lu (.int n) .tbool=some (.bl false):=rfl;simp only[frzAt,Au,List.map,xgz,xgs,xjs,Sl.get,xbs,Vj,Oz,xms,List.set,List.length,List.modify,List.modifyTailIdx,List.modifyTailIdx.go,List.modifyHead,Sl.frz,List.cons_append,List.nil_append,Nat.reduceAdd,Nat.reduceLeDiff,if_true,SZ,Nat.reduceLT,q1,q2,q3,q4,Bool.not_false];rw[k9]
end
section
variable {fs:List Addr}{m:Str->a7 Value}
variable {B:Bd}{cs:List Addr}{a C D f:Addr}{n:Int}{j:Nat}{pn:List (Addr×a7 Obj)}{ad:Nat->List Addr}{τ:List Sl}{F G:Fz}{s s' s1 s2:Shared}{l:List PySem.Env}{x:Str}{e:Value}{A0:Around}{tt:T}
structure O4(fs:List Addr)(F:Fz)(s:Shared)(G:Fz)(s':Shared):Prop extends UpE fs s s' where
 ff:F.le G
 fh:G.In s'.heap
 nw:∀b,G b≠none->F b≠none\/s.heap.get? b=none
theorem Up.toF(u:Up F s G s'):O4 fs F s G s':=⟨u.toE,u.ff,u.fh,u.nw⟩
theorem We{h h':Heap}{b:Addr}(q:h.Ns b m)(k:∀o,h.get? b=some o->∃sl,h'.get? b=some {o with slots:=sl}):h'.Ns b m:=by obtain⟨o,es,ep,e1,e2,r⟩:=q;obtain⟨sl,e3⟩:=k o e1;exact⟨_,es,ep,e3,e2,r⟩
structure Er2(fs:List Addr)(s0:Shared)(a dx:Addr)(o:Obj)(n:Int)(k:Tok)(s:Shared):Prop where
 up:UpE fs s0 s
 ob:s.heap.get? a=some o
 tr:∃vs T oT ts,o.data=.fields vs/\vs[1]?=some (.ref T)/\T≠a/\T≠dx/\s.heap.get? T=some oT/\oT.data=.fields ts/\3<ts.size/\s0.heap.get? T=none
 ns:s.heap.Ns1 dx fun f=>if f="at" then some (.int n k)else none
theorem Er2.sf{s0:Shared}{dx:Addr}{o:Obj}{k:Tok}{M:Model}{A:Around}{E:Value->Shared->Prop}{Q:Unit->Shared->Prop}(h:Er2 fs s0 a dx o n k s)(q:∀s',Er2 fs s0 a dx o n k s'->Q () s'):wpAny M A (setFlight (.ref a) none) Q E s:=by
 obtain⟨up,ob,⟨vs,T,oT,ts,hv,t1,t2,t3,t4,t5,t6,nT⟩,ns⟩:=h;unfold setFlight;refine Aa (Di ob hv t1 ?_);rw[if_pos (show(Value.ref T != Value.none)=true from by simp)];have kp:∀b,b≠T->(s.heap.update T (Obj.mapFields (·.setIfInBounds 3 Value.none))).get? b=s.heap.get? b:=fun b hb=>Heap.get?_update_other _ _ (Ne.symm hb);refine wpAny_setField t4 t5 t6 (q _ ⟨⟨fun b u nb w=>(kp b fun z=>by rw[z,nT]at w;cases w).trans (up.ext b u nb w),fun b u w=>?_,up.os,up.bare⟩,(kp a (Ne.symm t2)).trans ob,⟨vs,T,_,_,hv,t1,t2,t3,Heap.get?_update_self _ t4 (Obj.isFreed_of_fields (Ft t5 _)),Ft t5 _,by simpa using t6,nT⟩,?_⟩)
 .obtain⟨sl,w'⟩:=up.slt b u w;exact⟨sl,(kp b fun z=>by rw[z,nT]at w;cases w).trans w'⟩
 .obtain⟨od,es,ep,q1,q2⟩:=ns;exact⟨od,es,ep,(kp dx (Ne.symm t3)).trans q1,q2⟩
def aP(B:Bd)(l:List PySem.Env)(tt:T)(s':Shared):Prop:=∃G u m,s'.heap.Ns B.env.locals m/\m "_law_found"=some u/\Rep B.w G tt u/\O4 (frs l) B.F0 B.s0 G s'
abbrev d8(B:Bd)(l:List PySem.Env)(a D:Addr)(n:Int)(F:Fz):Bd:={B with A:=B.A.mark (some (.ref a)),I:=fun G=>ErAt G a D n,calm:=False,F0:=F,s0:={B.s0 with heap:=W.hideAll B.s0.heap (frs l)} }
theorem jK{h:Heap}{dx:Addr}(q:h.Ns1 dx m){x:Str}{v:Value}(e:m x=some v):∃od,h.get? dx=some od/\W.lookIn x od=some (some v):=by
 obtain⟨o,es,ep,e1,e2,e3,e4,e5⟩:=q;refine⟨o,e1,?_⟩;have w:=(e5 x).trans e;unfold nsFind findBy at w;rw[<-Array.find?_toList]at w;unfold W.lookIn;rw[e2];dsimp only;cases z:es.toList.find? (fun y=>y.key.isStr x)with
 |none=>rw[z]at w;cases w
 |some y=>rw[z]at w;exact Av some w
theorem gO{DE:Addr}{x0 x1 x2 x3:Sl}{pt ph:Pos}{k0:Stmt}{ks:List Stmt}(hm:B.Fm)(hc:B.calm)(h0:St B.toPc A0 l B.F0 B.s0)(hl:B.stack=B.env::l)(ht:B.tbp=[])(T:TdS B cs)(gD:Gl B.toYc "DealError")(mD:B.mg "DealError"=some (.ref DE))(so:Po (k0::ks))(h:B.Fr [] (fun _=>[]) [x0,x1,x2,x3] F s)(z:Err false B.toPc B.env.locals (frs B.stack) s x n e s')(ek:∀C,B.mg x=some (.ref C)->EK B.K cs C j/\W.exmOne B.K (.ref C) (.ref DE)=some true):wpAny B.M B.A (noteFrame e B.env) (fun _ s2=>wpAny B.M B.A (setFlight e none) (fun _ s3=>wpAny B.M B.A (handleBy e B.env [.ExceptHandler (some (.Name "DealError" pt)) (some "e") (k0::ks) ph]) (fun fl s4=>fl=.next/\aP B l (.tup [.str "refused",.int j,.int n]) s4) No s3) No s2) No s':=by
 have st:=h.toSt;have hfu0:s.heap.FunFrames B.base (B.env::l):=by rw[<-hl];exact st.funs hc
 have hfu:s'.heap.FunFrames B.base (B.env::l):=by obtain⟨_,_,_,_,_,_,_,u,_⟩:=z;exact U7 u hfu0
 have fr:B.A.frames=some (B.env::l):=by rw[<-hl];exact st.frames
 rw[hl]at z;refine Eh (Rw (E:=No) fr hfu hm.fr z) (fun _ s2 q=>?_) fun _ _ q=>q;obtain⟨⟨a,C,dx,o,k,rfl,eC,u2,⟨ob,cl,di,vs,hv,hz,ht'⟩,na,nd,nt,ne,nf,ns⟩,_⟩:=q;have E2:Er2 (frs (B.env::l)) s a dx o n k s2:=by
  rcases ht' with⟨q,_⟩|⟨Tb,oT,ts,t1,t2,t3,t4,t5,t6⟩
  .cases q
  .exact⟨u2,ob,⟨vs,Tb,oT,ts,hv,t1,t2,t3,t4,t5,by rcases t6 with t6|t6<;>exact(Array.getElem?_eq_some_iff.mp t6).1,nt Tb ⟨vs,hv,t1⟩⟩,ns⟩
 refine E2.sf fun s3 E3=>?_;obtain⟨ek1,ek2⟩:=ek C eC;have nfr:∀{b o},B.base.get? b=some o->b∉frs (B.env::l):=fun w z=>by rw[(hfu.mem z).1]at w;cases w
 have bk3:∀b o,B.base.get? b=some o->s3.heap.get? b=some o:=fun b o w=>E3.up.ext b o (nfr w) (st.bk b o w);refine wpAny_handleBy_cons (codeAny_handlers_test (Calls.Name_function_global h.ok.kind gD (Calls.loadGlobal_global (by rw[h.ok.glob];exact st.mod.glob.keeps bk3) mD ?_) rfl)) (by intro z;cases z);have ty:∀M,W.Looks M s3.heap (typeOf (.ref a)) (.ref C):=fun M=>cl▸(W.Looks.ld E3.ob).andThen .now;refine(W.exm_one (st.mod.kin.keeps bk3) (ty _) ek2).here ?_;refine codeAny_handlers_suite_as (E3.sf fun s4 E4=>?_);have hfu4:∀b∈frs l,b∈frs (B.env::l):=fun b hb=>by unfold frs at hb ⊢;rw[Ht,hm.fr];exact .tail _ hb
 have hz0:∀b∈frs l,∃o,B.s0.heap.get? b=some o:=fun b hb=>let⟨_,o,w,_⟩:=(h0.funs hc).mem hb;⟨o,w⟩
 have fo0:∀b∈frs l,F b=none:=fun b hb=>st.fo hc b (by rw[hl];exact hfu4 b hb);have fe:∀b,b∈frs (B.env::l)->b∈frs l\/b=B.env.locals:=fun b hb=>by
  unfold frs at hb;rw[Ht,hm.fr]at hb;rcases omc hb with w|w
  .exact .inr w
  .exact .inl w
 have ex:∀{b},s.heap.get? b=none->∀{c},(∃o,s.heap.get? c=some o)->c≠b:=fun z c ⟨o,w⟩ q=>by rw[q,z]at w;cases w
 have eL:∃o,s.heap.get? B.env.locals=some o:=let⟨m,n⟩:=h.ns.2;Heap.Ns.has n
 obtain⟨od,eod,lat⟩:=jK E4.ns (x:="at") (if_pos rfl);have kF:∀b o,F b=some o->b∉frs (B.env::l):=fun b o w q=>by have:=st.fo hc b (by rw[hl];exact q);rw[this]at w;cases w
 have Fa:F a=none:=st.fh.none na;have Fd:F dx=none:=st.fh.none nd;have le1:F.le (fup (fup F a o) dx od):=fun b v w=>by refine F9 (F:=fup F a o) ?_ b v (F9 Fa b v w);unfold fup;rw[if_neg ne];exact Fd
 have Fn:∀{b},b≠a->b≠dx->F b=none->fup (fup F a o) dx od b=none:=fun w1 w2 w3=>by unfold fup;rw[if_neg w2,if_neg w1];exact w3
 have fa:fup (fup F a o) dx od a=some o:=by unfold fup;rw[if_neg (Ne.symm ne),if_pos rfl]
 have In4:(fup (fup F a o) dx od).In s4.heap:=fun b v w=>by
  unfold fup at w;split at w
  .rename_i q;cases w;rw[q];exact eod
  .split at w
   .rename_i q;cases w;rw[q];exact E4.ob
   .exact E4.up.ext b v (kF b v w) (st.fh b v w)
 have ns4:∀{m},s.heap.Ns B.env.locals m->s4.heap.Ns B.env.locals m:=fun q=>We q fun o w=>E4.up.slt _ _ w;have cel:∀x∈B.N,∀c,B.env.cells.lookup x=some c->c∉frs (B.env::l):=fun x hx c w q=>by
  rcases fe c q with q|q
  .obtain⟨_,w2⟩:=hz0 c q;rw[h.cab x hx c w]at w2;cases w2
  .exact h.cne hx w q
 have lk4:∀{y v},y∈B.N->Look B.toYc s.heap y v->Look B.toYc s4.heap y v:=fun hy q=>by
  rcases q with⟨k,m,n,w⟩|⟨k,c,w,o',w2,w3⟩
  .exact .inl ⟨k,m,ns4 n,w⟩
  .exact .inr ⟨k,c,w,o',E4.up.ext _ _ (cel _ hy c w) w2,w3⟩
 have hid:∀{b},B.s0.heap.get? b=none->(W.hideAll B.s0.heap (frs l)).get? b=none:=fun{b}w=>by
  cases q:(W.hideAll B.s0.heap (frs l)).get? b with
  |none=>rfl
  |some o=>rw[W.of_hideAll _ q]at w;cases w
 have h4:(d8 B l a C n (fup (fup F a o) dx od)).Fr (Jk (frs l) s4.heap) (fun _=>[]) [x0,x1,x2,x3] (fup (fup F a o) dx od) s4:=by
  refine⟨⟨⟨h.ok.kind,h.ok.glob,h.ok.blt,h.ok.has,fun le q=>q.mono le⟩,⟨o,dx,od,k,?_,cl,di,⟨vs,hv⟩,Fq,lat⟩,fun{G s'}u q=>⟨st.mod,fun c=>c.elim,st.frames,fun b v w=>u.ext b v (W.hideAll_get _ (h0.bk b v w) fun q=>nfr w (hfu4 b q)),u.fh,u.bare h0.bare,fun c=>c.elim,fun c=>c.elim⟩,?_,?_,h.cin,h.nd⟩,⟨fun b v w=>?_,?_,?_,fun _ _ w=>w,In4,fun b w=>.inl w⟩,h.len,⟨?_,let⟨m,q⟩:=h.ns.2;⟨m,ns4 q⟩⟩,fun x hx c w=>⟨?_,?_⟩,fun _ _ w=>(nomatch w),fun p hp=>?_,fun _ _ _ w=>(nomatch w),fun i y sl w1 w2=>?_⟩
  .exact fa
  .exact hid h.lab
  .exact fun x hx c w=>hid (h.cab x hx c w)
  .have w':=W.of_hideAll _ w;refine E4.up.ext b v (fun q=>(fe b q).elim (fun q=>?_) fun q=>?_) (h.up.ext b v w')
   .rw[show(W.hideAll B.s0.heap (frs l)).get? b=none from W.hideAll_none _ q]at w;cases w
   .rw[q,h.lab]at w';cases w'
  .exact E4.up.os.trans h.up.os
  .exact fun w=>E4.up.bare (h.up.bare w)
  .exact Fn (ex na eL) (ex nd eL) h.ns.1
  .obtain⟨w1,v,o',w2,_⟩:=h.cell x hx c w;exact Fn (ex na ⟨_,w2⟩) (ex nd ⟨_,w2⟩) w1
  .obtain⟨_,v,o',w2,w3⟩:=h.cell x hx c w;exact⟨v,o',E4.up.ext _ _ (cel x hx c w) w2,w3⟩
  .replace hp:p∈B.tbp++Jk (frs l) s4.heap:=hp;rw[ht]at hp;obtain⟨hb,q⟩:=Vp (F:=fup (fup F a o) dx od) hp;obtain⟨ob',w⟩:=hz0 _ hb;have w2:=h.up.ext _ _ w;refine⟨⟨W.hideAll_none _ hb,Fn (ex na ⟨_,w2⟩) (ex nd ⟨_,w2⟩) (fo0 _ hb),(fun z=>by rw[z,h.lab]at w;cases w),fun x hx c w3 z=>by have:=h.cab x hx c w3;rw[z,w]at this;cases this⟩,⟨q,fun q' hq' _=>?_⟩,fun i=>by simp⟩;replace hq':q'∈B.tbp++Jk (frs l) s4.heap:=hq';rw[ht]at hq';obtain⟨_,_,e1⟩:=Hx.mp hp;obtain⟨_,_,e2⟩:=Hx.mp hq';obtain⟨_,_,rfl⟩:=oms e1;obtain⟨_,_,rfl⟩:=oms e2;rfl
  .exact(h.slot i y sl w1 w2).to (fun u=>lk4 (Ee w1)) (fun _ w=>nomatch w) le1
 have lo:=T.lo;have i2:B.N[2]?=some ("e":Str):=by rw[T.N];rfl
 refine h4.store (i:=2) (x:="e") (u:=.ref a) (d:=[]) (sl:=.val (.adr a)) i2 (.inl (lo _ (by decide))) (fun _ w=>nomatch w) (fun _ lk=>⟨_,lk,rfl,o,fa,(fun _ _ w=>by rw[hv]at w;cases w),(fun _ _ w=>by rw[hv]at w;cases w),fun _ w=>by rw[hv]at w;cases w⟩) fun s5 _ _ h5=>?_;refine Eh (so (B:=d8 B l a C n (fup (fup F a o) dx od)) ⟨T.N,T.lo,T.gl,T.nb,T.mc,T.rm⟩ (fun{F}q=>q) ek1 h5) (fun fl s6 q=>?_) fun _ _ q=>q.elim;cases fl<;>first|exact q.elim|skip
 obtain⟨ad6,G,le6,h6⟩:=q;have i1:B.N[1]?=some ("_law_found":Str):=by rw[T.N];rfl
 obtain⟨u,lk,r⟩:∃u,Look B.toYc s6.heap "_law_found" u/\Rep B.w G (.tup [.str "refused",.int j,.int n]) u:=h6.slot 1 _ _ i1 rfl;have kd:B.env.kindOf "_law_found"=some .local:=lo _ (by decide);obtain⟨m,hn,em⟩:∃m,s6.heap.Ns B.env.locals m/\m "_law_found"=some u:=by
  rcases lk with⟨_,q⟩|⟨q,_⟩
  .exact q
  .rcases q with q|q<;>rw[kd]at q<;>cases q
 have kind:(B.env.scope.kind==.class||(B.env.scope.kind==.module&&B.env.locals != B.env.globals))=false:=by rw[h.ok.kind];rfl
 refine wpAny_nameGoes_keeps (lo "e" (by decide)) hn kind fun h7 v hn7 sb=>⟨rfl,G,u,_,hn7,em,r,?_⟩;have L0:∀{b o},B.s0.heap.get? b=some o->b≠B.env.locals:=fun w z=>by rw[z,h.lab]at w;cases w
 refine⟨⟨fun b v nb w=>?_,fun b v w=>?_,h6.up.os,h6.up.bare⟩,fun b v w=>le6 b v (le1 b v (h.up.ff b v w)),fun b v w=>?_,fun b w=>?_⟩
 .exact(sb.2 b (L0 w)).trans (h6.up.ext b v (W.hideAll_get _ w nb))
 .by_cases hb:b∈frs l
  .obtain⟨sl,w4⟩:=E4.up.slt _ _ (h.up.ext b v w);have w5:s6.heap.get? b=some {v with slots:=sl}:=(h6.pin (b,some {v with slots:=sl}) (Hk _ (Hx.mpr ⟨b,hb,by rw[w4];rfl⟩))).2.1.1;exact⟨sl,(sb.2 b (L0 w)).trans w5⟩
  .exact⟨v.slots,(sb.2 b (L0 w)).trans (h6.up.ext b v (W.hideAll_get _ w hb))⟩
 .refine(sb.2 b fun z=>?_).trans (h6.up.fh b v w);rw[z,show G B.env.locals=none from h6.ns.1]at w;cases w
 .have new0:s.heap.get? b=none->B.s0.heap.get? b=none:=h.up.old;rcases h6.up.nw b w with w2|w2
  .replace w2:fup (fup F a o) dx od b≠none:=w2;by_cases e1:b=a
   .rw[e1];exact .inr (h.up.old na)
   by_cases e2:b=dx
   .rw[e2];exact .inr (h.up.old nd)
   exact h.up.nw b fun w3=>w2 (Fn e1 e2 w3)
  .by_cases hb:b∈frs l
   .obtain⟨o',w3⟩:=hz0 b hb;obtain⟨sl,w4⟩:=E4.up.slt _ _ (h.up.ext b _ w3);exact absurd (h6.pin (b,some {o' with slots:=sl}) (Hk _ (Hx.mpr ⟨b,hb,by rw[w4];rfl⟩))).1.f w
   .cases q:B.s0.heap.get? b with
    |none=>exact .inr rfl
    |some o'=>rw[show(W.hideAll B.s0.heap (frs l)).get? b=some o' from W.hideAll_get _ q hb]at w2;cases w2
end
section
variable {P:Pc}{B:Bd}{cs:List Addr}{a C D f ta DE:Addr}{n:Int}{j k:Nat}{F G:Fz}{s s' s1 s2:Shared}{l:List PySem.Env}{x:Str}{A:Around}{tt:T}{o:Out}
def Qv(P:Pc)(k:Nat)(F:Fz)(f:Addr)(o:Out):Prop :=
 (∃n q lp lb ls cl pm cd ctv,F f=some (W.kla_obj n q lp lb ls cl pm cd ctv)) /\
 ∀{A l G s}(L:Addr),Room k A->St P A l G s->F.le G->codeAny P.M A (.call (.ref f) ⟨[],[]⟩) (fun r s2=>match o with
  |.rt t=>∃u,r=.ok (.ret u)/\Res P.w G s t u s2
  |.rs x n=>∃e,r=.error e/\Err false P L (frs l) s x n e s2
  |.nx _=>False) s
def So:Out->a7 T
 |.rt t=>some (.tup [.str "told",t])
 |.rs x n=>(Kc x Iz 0).map fun(j:Nat)=>.tup [.str "refused",.int (j:Int),.int n]
 |.nx _=>none
def dH(body:List Stmt):Prop:=∃q0 q1 q2 q3 q4 q5 q6 q7 q8 pt ph k0 ks,body=[.Try [.Assign [.Name "_law_found" q0] (.Tuple [.Constant (.str "told") 0 q1,.Call (.Name "_law_deed_here" q2) [] [] q3] 0 q4) q5] [.ExceptHandler (some (.Name "DealError" pt)) (some "e") (k0::ks) ph] [] [] q6,.Return (some (.Name "_law_found" q7)) q8]/\Po (k0::ks)
structure Gm(P:Pc)(ta:Addr)(cs:List Addr)(DE:Addr):Prop where
 ex:∃name qual params body scope dV kV doc pm cdv ct oc an od osl,P.K.lookup ta=some ⟨oc,od,.func (W.fnOf name qual params body scope dV kV doc pm an cdv ct),osl⟩/\W.codeIn P.K cdv qual=true/\FnScope toldN ["_law_deed_here"] scope/\(∀x∈toldN,scope.names.lookup x=some .local) /\
  (∀x∈(("DealError":Str)::toldC)++(["isinstance", "ValueError", "bool"]:List Str),scope.names.lookup x=some .globalImplicit)/\(∀us:List Value,us.length=1->bindArgs (W.fnOf name qual params body scope dV kV doc pm an cdv ct) ⟨us,[]⟩=pure ((["_law_deed_here"]:List Str).zip us))/\dH body
 md:P.mg "DealError"=some (.ref DE)
 mc:toldC.map P.mg=cs.map fun C=>some (.ref C)
 nb:∀x∈(["isinstance", "ValueError", "bool"]:List Str),P.mg x=none
 ek:∀x C j,Kc x Iz 0=some j->P.mg x=some (.ref C)->EK P.K cs C j/\W.exmOne P.K (.ref C) (.ref DE)=some true
theorem cG{Y:Yc}{N:Str->Nat->Prop}{r:Ev.Env}{p pos:Pos}{i:Nat}{E:Value->Shared->Prop}{Q:Value->Shared->Prop}{x:Str}(hN:N x i)(hd:(x==("__debug__":Str))=false)(hc:(x==("__classdict__":Str))=false)(A:At Y N r F s)(q:(r[i]?).join=some (.adr f))(h:Qv Y.toPc k G f o)(le:G.le F) (w:∀F1 s1,Up F s F1 s1->codeAny Y.M Y.A (.call (.ref f) ⟨[],[]⟩) (fun r s2=>match r with
   |.ok (.ret u)=>Q u s2
   |.error e=>E e s2
   |_=>False) s1):wpAny Y.M Y.A (eval (.Call (.Name x p) [] [] pos) Y.env) Q E s:=by
 obtain⟨⟨n,qq,lp,lb,ls,cl,pm,cd,ctv,hf⟩,_⟩:=h;refine wpAny_Call_Name_kw (thn (Wh hN hd hc A q) fun u s1 ⟨G1,u1,eu,_⟩=>?_);subst eu;refine W.callWith_of (P:=fun h=>h.get? f=some (W.kla_obj n qq lp lb ls cl pm cd ctv)) rfl (fun h e=>⟨.frame,.inl rfl,(W.Looks.ld (part:=none) e).andThen .now⟩) (PyProof.Rows.evalArgs_none ?_);refine⟨u1.fh _ _ (u1.ff _ _ (le _ _ hf)),wpAny_call (codeAny_mono (w G1 s1 u1) fun r s2 z=>?_)⟩;cases r with
 |error e=>exact z
 |ok fl=>cases fl<;>exact z
theorem oL{A0:Around}{q0 q1 q2 q3 q4 q5 q6 q7 q8 pt ph:Pos}{k0:Stmt}{ks:List Stmt}(hm:B.Fm)(hc:B.calm)(h0:St B.toPc A0 l B.F0 B.s0)(hl:B.stack=B.env::l)(ht:B.tbp=[])(T:TdS B cs)(gD:Gl B.toYc "DealError")(mD:B.mg "DealError"=some (.ref DE))(so:Po (k0::ks))(ek:∀x C j,Kc x Iz 0=some j->B.mg x=some (.ref C)->EK B.K cs C j/\W.exmOne B.K (.ref C) (.ref DE)=some true)(hr:Room k B.A)(I:B.Fr [] (fun _=>[]) [.val (.adr f),.no,.no,.no] B.F0 s1)(hL:Qv B.toPc k B.F0 f o)(hT:So o=some tt):wpAny B.M B.A (execs [.Try [.Assign [.Name "_law_found" q0] (.Tuple [.Constant (.str "told") 0 q1,.Call (.Name "_law_deed_here" q2) [] [] q3] 0 q4) q5] [.ExceptHandler (some (.Name "DealError" pt)) (some "e") (k0::ks) ph] [] [] q6,.Return (some (.Name "_law_found" q7)) q8] B.env) (fun fl s'=>∃u G,fl=.ret u/\O4 (frs l) B.F0 B.s0 G s'/\Rep B.w G tt u) No s1:=by
 have kd:B.env.kindOf "_law_found"=some .local:=T.lo _ (by decide);have i0:B.N[0]?=some ("_law_deed_here":Str):=by rw[T.N];rfl
 have i1:B.N[1]?=some ("_law_found":Str):=by rw[T.N];rfl
 refine wpAny_execs_cons (thn (Q:=fun fl s'=>fl=.next/\aP B l tt s') (wpAny_Try_except ?_) fun fl s2 q=>?_)
 .cases o with
  |nx _=>cases hT
  |rt t=>
   cases hT;have I1:Bd.Fr {B with I:=fun G=>B.F0.le G} [] (fun _=>[]) [.val (.adr f),.no,.no,.no] B.F0 s1 :=
    ⟨⟨⟨I.ok.kind,I.ok.glob,I.ok.blt,I.ok.has,fun le q=>q.trans le⟩,fun _ _ e=>e,I.st,I.lab,I.cab,I.cin,I.nd⟩,I.up,I.len,I.ns,I.cell,fun _ _ w=>(nomatch w),(fun p hp=>by replace hp:p∈B.tbp++[]:=hp;rw[ht]at hp;cases hp),I.inj,I.slot⟩
   have he:Oke (Bd.toYc {B with I:=fun G=>B.F0.le G}) (Nn B.N) (.Call (.Name "_law_deed_here" q2) [] [] q3) fun r=>((r[0]?).join).bind (K1 f t):=fun{s F r t' E}A q=>by obtain⟨x1,e1,q⟩:=obs q;obtain⟨rfl,rfl⟩:=Pn q;refine cG (i:=0) i0 (by decide) (by decide) A e1 hL A.inv fun F1 s3 u1=>codeAny_mono (hL.2 0 hr (A.toSt.up u1) (A.inv.trans u1.ff)) fun r s4 z=>?_;obtain⟨u,rfl,z⟩:=z;exact Res.mk u1 z
   have S1:PS {B with I:=fun G=>B.F0.le G} _ _:=Mb (B:={B with I:=fun G=>B.F0.le G}) (i:=1) (x:="_law_found") (p:=q0) (pos:=q5) (Sf (x1:=0) (pos:=q4) (Fp (N4 (x:="told") (j:=0) (pos:=q1)) (Fp he Om rfl) rfl)) [] i1 (.inl kd) rfl;refine wpAny_execs_cons (Eh (@S1 [] _ _ _ s1 (.nx [.val (.adr f),.val (.tup [.str "told",t]),.no,.no]) I1 ?_) (fun fl s2 q=>?_) fun _ _ q=>by obtain⟨_,_,q,_⟩:=q;cases q)
   .simp only[frzAt,Au,List.map,xgz,xjs,Sl.get,xbs,Vj,xms,List.set,Nat.reduceAdd,Nat.reduceLeDiff,if_true]
   .cases fl<;>first|exact q.elim|skip
    obtain⟨ad2,G,le2,h2⟩:=q;obtain⟨u,lk,r⟩:∃u,Look B.toYc s2.heap "_law_found" u/\Rep B.w G (.tup [.str "told",t]) u:=h2.slot 1 _ _ i1 rfl;obtain⟨m,hn,em⟩:∃m,s2.heap.Ns B.env.locals m/\m "_law_found"=some u:=by
     rcases lk with⟨_,q⟩|⟨q,_⟩
     .exact q
     .rcases q with q|q<;>rw[kd]at q<;>cases q
    exact wpAny_execs_nil (wpAny_execs_nil ⟨rfl,G,u,m,hn,em,r,Up.toF h2.up⟩)
  |rs x n=>obtain⟨j,hj,rfl⟩:=oms hT;refine wpAny_execs_cons (wpAny_Assign_Name (wpAny_Tuple_spliced ?_) rfl);rw[show starEach [.Constant (.str "told") 0 q1,.Call (.Name "_law_deed_here" q2) [] [] q3] B.env=(false,eval (.Constant (.str "told") 0 q1) B.env)::(false,eval (.Call (.Name "_law_deed_here" q2) [] [] q3) B.env)::[]from rfl];refine Calls.spliced_cons (thn (N4 (x:="told") (j:=0) (pos:=q1) I.at rfl) fun u s2 z=>?_);obtain⟨G,u1,_⟩:=z;have I2:=I.after u1;refine Calls.spliced_cons (cG (i:=0) i0 (by decide) (by decide) I2.at rfl hL u1.ff fun F1 s3 u2=>codeAny_mono (hL.2 B.env.locals hr (I2.after u2).toSt (u1.ff.trans u2.ff)) fun r s4 z=>?_);obtain⟨e,rfl,z⟩:=z;exact gO hm hc h0 hl ht T gD mD so (I2.after u2) z fun C hC=>ek x C j hj hC
 .obtain⟨rfl,G,u,m,hn,em,r,up⟩:=q;exact wpAny_execs_cons (wpAny_Return_some (wpAny_Name (wpAny_loadName_local I.ok.kind kd hn em ⟨u,G,rfl,up,r⟩) rfl))
theorem oX(hc:P.calm)(T:Gm P ta cs DE)(hr:Room (k+1) A)(h:St P A l F s)(hL:Qv P k F f o)(ht:So o=some tt):codeAny P.M A (.call (.ref ta) ⟨[.ref f],[]⟩) (fun r s'=>∃u G,r=.ok (.ret u)/\O4 (frs l) F s G s'/\Rep P.w G tt u) s:=by
 obtain⟨name,qual,params,body,scope,dV,kV,doc,pm,cdv,ct,oc,an,od,osl,lk,hcd,S,lo,gl,bi,q0,q1,q2,q3,q4,q5,q6,q7,q8,pt,ph,k0,ks,rfl,so⟩:=T.ex;have KX:P.K.In s.heap:=h.mod.kin.keeps h.bk;have hkind:∀y∈(["_law_deed_here"]:List Str).zip [Value.ref f],scope.names.lookup y.1=some .local\/(scope.names.lookup y.1=some .cell/\((cellsFrom (s.heap.objs.size+1) scope.names []).lookup y.1).isSome=true):=fun⟨n,v⟩ hy=>.inl (by cases omg hy;exact lo "_law_deed_here" (by decide));refine codeAny_call_function (by have:=hr.dp;lia) (KX _ _ lk) rfl S.co S.gen rfl (W.codeRec_of KX hcd) (BindsTo.of_eq (bi [.ref f] rfl) _ _ _ _ ?_);refine wpAny_newFunctionEnv_cells S.kind hkind fun env he s1 x=>?_;subst he;refine⟨(h.mod.nolimit.keeps h.bk).keeps x.toInCall.keep,codeAny_func ?_⟩;obtain⟨n1,q11,lp,lb,ls,cl,pm',cd,ctv,hf⟩:=hL.1;have r1:Reps P.w F [.adr f] [.ref f]:=⟨_,_,rfl,⟨rfl,_,hf,(fun _ _ z=>nomatch z),(fun _ _ z=>nomatch z),fun _ z=>nomatch z⟩,rfl⟩;have I:(Jp P toldN qual scope ta cdv A l F s).Fr [] (fun _=>[]) [.val (.adr f),.no,.no,.no] F s1:=Ry (D:=⟨1,4,[]⟩) S h r1 rfl rfl x;have hr1:=hr.deeper (envOfC qual scope s.heap.objs.size ta cdv);have gl':∀y∈(("DealError":Str)::toldC)++(["isinstance", "ValueError", "bool"]:List Str),Gl (Jp P toldN qual scope ta cdv A l F s).toYc y:=gl;refine Eh (oL (B:=Jp P toldN qual scope ta cdv A l F s) ⟨⟨l,rfl⟩,rfl⟩ hc h rfl rfl ⟨rfl,lo,fun y hy=>gl' y (G8 _ hy),T.nb,T.mc,?_⟩ (gl' _ (by decide)) T.md so T.ek (hr1.mono (by lia)) I hL ht) (fun fl s' z=>?_) fun _ _ z=>z.elim
 .have:=hr1.un;show(A.deeper (envOfC qual scope s.heap.objs.size ta cdv)).units+100<cLine;lia
 .obtain⟨u,G,rfl,z⟩:=z;exact⟨u,G,rfl,z⟩
end
section
variable {P:Pc}{B:Bd}{cs:List Addr}{a C D f ta DE p cc cd:Addr}{n:Int}{i j k:Nat}{F G G2:Fz}{s s' s1 s2:Shared}{l:List PySem.Env}{x g:Str}{A:Around}{t tt:T}{ts:List T}{u:Value}{o:Out}{pn:List (Addr×a7 Obj)}{ad:Nat->List Addr}{τ:List Sl}{w:World}{ls:Scope}
mutual
theorem Rep.minus(h:∀b o,F b=some o->(∀v,o.data≠.cell v)->G b=some o):∀{t u},Rep w F t u->Rep w G t u
 |.non,_,r=>r
 |.bl _,_,r=>r
 |.int _,_,r=>r
 |.str _,_,r=>r
 |.tup _,_,⟨a,o,qc,n,h1,h2,h3,h4,h5,h6⟩=>⟨a,o,qc,n,h1,h _ _ h2 (fun v z=>by rw[h4]at z;cases z),h3,h4,h5,Reps.minus h h6⟩
 |.lst _,_,⟨a,qc,n,h1,h2,h5,h6⟩=>⟨a,qc,n,h1,h _ _ h2 (fun v z=>by cases z),h5,Reps.minus h h6⟩
 |.dic _ _,_,⟨a,o,es,ep,h1,h2,h3,h4,h5,h6⟩=>⟨a,o,es,ep,h1,h _ _ h2 (fun v z=>by rw[h4.dt]at z;cases z),h3,h4,Reps.minus h h5,Reps.minus h h6⟩
 |.adr _,_,⟨e,o,f,d1,d2,d3⟩=>⟨e,o,h _ _ f d3,d1,d2,d3⟩
theorem Reps.minus(h:∀b o,F b=some o->(∀v,o.data≠.cell v)->G b=some o):∀{ts us},Reps w F ts us->Reps w G ts us
 |[],_,r=>r
 |_::_,_,⟨u,r,h1,h2,h3⟩=>⟨u,r,h1,Rep.minus h h2,Reps.minus h h3⟩
end
theorem Fr.tabbed(h:B.Fr pn ad τ F s)(tb:B.tbp=[(p,none)])(le:F.le G)(gh:G.In s'.heap)(nw:∀b,G b≠none->F b≠none\/s.heap.get? b=none)(kp:∀b o,b≠p->s.heap.get? b=some o->s'.heap.get? b=some o)(os:s'.os=s.os)(br:AllBare s.gens->AllBare s'.gens)(tk:Ow G s'.heap p):B.Fr pn ad τ G s':=by
 obtain⟨m1,⟨m2,m3⟩,m4⟩:=h.pin (p,none) (List.mem_append_left _ (by rw[tb];exact .head _));have nil:∀{b},F b=none->(∃o,s.heap.get? b=some o)->G b=none:=fun{b}e z=>by
  cases q:G b with
  |none=>rfl
  |some o=>
   rcases nw b (by rw[q];simp)with w|w
   .exact absurd e w
   .obtain⟨_,z⟩:=z;rw[w]at z;cases z
 have lk:∀{x v},x∈B.N->Look B.toYc s.heap x v->Look B.toYc s'.heap x v:=fun hx q=>by
  rcases q with⟨k,m,n,e⟩|⟨k,c,e,o,z,w⟩
  .exact .inl ⟨k,m,n.at fun o q=>kp _ o (fun z=>m1.l z.symm) q,e⟩
  .exact .inr ⟨k,c,e,o,kp _ o (m1.c _ hx _ e) z,w⟩
 obtain⟨n2,m,n3⟩:=h.ns;refine⟨h.toFs,⟨fun b o e=>kp b o (fun z=>by rw[z,m1.z]at e;cases e) (h.up.ext b o e),os.trans h.up.os,fun e=>br (h.up.bare e),fun b o e=>le b o (h.up.ff b o e),gh,fun b e=>(nw b e).elim (h.up.nw b) fun z=>.inr (h.up.old z)⟩,
  h.len,⟨nil n2 (Heap.Ns.has n3),m,n3.at fun o q=>kp _ o (fun z=>m1.l z.symm) q⟩,fun x hx c e=>?_,fun i a e=>?_,fun q hq=>?_,h.inj,fun i x sl e1 e2=>(h.slot i x sl e1 e2).to (fun _=>lk (Ee e1)) (fun a ha o q=>kp _ o (fun z=>m4 i (z▸ha)) q) le⟩
 .obtain⟨c2,v,o,c3,c4⟩:=h.cell x hx c e;exact⟨nil c2 ⟨_,c3⟩,v,o,kp _ _ (m1.c x hx c e) c3,c4⟩
 .obtain⟨a1,a2⟩:=h.own i a e;exact⟨{a1 with f:=nil a1.f a2},a2.imp fun o q=>kp _ o (fun z=>m4 i (z▸e)) q⟩
 .obtain⟨p1,p2,p3⟩:=h.pin q hq;refine⟨{p1 with f:=nil p1.f p2.1.ex},⟨?_,p2.2⟩,p3⟩;by_cases hp:q.1=p
  .have e:=m3 q hq hp;obtain⟨q1,q2⟩:=q;cases q2 with
   |none=>cases hp;exact tk
   |some o=>cases e
  .exact p2.1.to le fun o=>kp _ o hp
theorem Fr.afterF{ce:Addr->Bool}(h:B.Fr pn ad τ F s)(stk:B.stack=[B.env])(fr:B.env.frame=some B.env.locals)(hce:∀b,ce b=true↔∃x∈B.N,B.env.cells.lookup x=some b)(u:O4 (frs B.stack) (fun b=>if ce b=true then s.heap.get? b else F b) s G s'):F.le (fun b=>if ce b=true then none else G b)/\B.Fr pn ad τ (fun b=>if ce b=true then none else G b) s'/\∀{t v},Rep B.w G t v->Rep B.w (fun b=>if ce b=true then none else G b) t v:=by
 have fs:∀b,b∈frs B.stack->b=B.env.locals:=fun b hb=>by rw[stk]at hb;unfold frs at hb;rw[Ht,fr]at hb;simpa using hb
 have kp:∀b o,b≠B.env.locals->s.heap.get? b=some o->s'.heap.get? b=some o:=fun b o nb e=>u.ext b o (fun z=>nb (fs b z)) e;have cell:∀{b},ce b=true->F b=none/\∃v,s.heap.IsCell b v:=fun hb=>let⟨x,hx,e⟩:=(hce _).mp hb;h.cell x hx _ e
 have Fc:∀{b},¬ce b=true->F b=none->(∃o,s.heap.get? b=some o)->(if ce b=true then none else G b)=none:=fun{b}n e z=>by
  rw[if_neg n];cases q:G b with
  |none=>rfl
  |some o=>
   rcases u.nw b (by rw[q];simp)with w|w
   .exact absurd (show(if ce b=true then s.heap.get? b else F b)=none by rw[if_neg n];exact e) w
   .obtain⟨_,z⟩:=z;rw[w]at z;cases z
 have le:F.le (fun b=>if ce b=true then none else G b):=fun b o e=>by
  have n:¬ce b=true:=fun z=>by rw[(cell z).1]at e;cases e
  show(if ce b=true then none else G b)=some o;rw[if_neg n];exact u.ff b o (show(if ce b=true then s.heap.get? b else F b)=some o by rw[if_neg n];exact e)
 have ncl:¬ce B.env.locals=true:=fun z=>let⟨x,hx,e⟩:=(hce _).mp z;h.cne hx e rfl
 have lk:∀{x v},x∈B.N->Look B.toYc s.heap x v->Look B.toYc s'.heap x v:=fun hx q=>by
  rcases q with⟨k,m,n,e⟩|⟨k,c,e,o,z,w⟩
  .exact .inl ⟨k,m,We n fun o q=>u.slt _ _ q,e⟩
  .exact .inr ⟨k,c,e,o,kp _ o (h.cne hx e) z,w⟩
 obtain⟨n2,m,n3⟩:=h.ns;have gh:Fz.In (fun b=>if ce b=true then none else G b) s'.heap:=fun b o e=>by
  replace e:(if ce b=true then none else G b)=some o:=e;split at e
  .cases e
  .exact u.fh b o e
 refine⟨le,⟨h.toFs,⟨fun b o e=>kp b o (fun z=>by rw[z,h.lab]at e;cases e) (h.up.ext b o e),u.os.trans h.up.os,fun e=>u.bare (h.up.bare e),fun b o e=>le b o (h.up.ff b o e),gh,fun b e=>?_⟩,
  h.len,⟨Fc ncl n2 (Heap.Ns.has n3),m,We n3 fun o q=>u.slt _ _ q⟩,fun x hx c e=>?_,fun i a e=>?_,fun q hq=>?_,h.inj,fun i x sl e1 e2=>(h.slot i x sl e1 e2).to (fun _=>lk (Ee e1)) (fun a ha o q=>kp _ o (fun z=>(h.own i a ha).1.l z) q) le⟩,fun{t v}r=>r.minus fun b o e d=>?_⟩
 .by_cases n:ce b=true
  .exact absurd (if_pos n) e
  .replace e:(if ce b=true then none else G b)≠none:=e;rw[if_neg n]at e;rcases u.nw b e with w|w
   .replace w:(if ce b=true then s.heap.get? b else F b)≠none:=w;rw[if_neg n]at w;exact h.up.nw b w
   .exact .inr (h.up.old w)
 .obtain⟨c2,v,o,c3,c4⟩:=h.cell x hx c e;exact⟨if_pos ((hce c).mpr ⟨x,hx,e⟩),v,o,kp _ _ (h.cne hx e) c3,c4⟩
 .obtain⟨a1,a2⟩:=h.own i a e;have n:¬ce a=true:=fun z=>let⟨x,hx,e⟩:=(hce _).mp z;a1.c x hx a e rfl
  exact⟨{a1 with f:=Fc n a1.f a2},a2.imp fun o q=>kp _ o a1.l q⟩
 .obtain⟨p1,p2,p3⟩:=h.pin q hq;have n:¬ce q.1=true:=fun z=>let⟨x,hx,e⟩:=(hce _).mp z;p1.c x hx _ e rfl
  exact⟨{p1 with f:=Fc n p1.f p2.1.ex},⟨p2.1.to le fun o=>kp _ o p1.l,p2.2⟩,p3⟩
 .show(if ce b=true then none else G b)=some o;by_cases n:ce b=true
  .obtain⟨_,v,o',c3,c4⟩:=cell n;have:=u.ff b o' (show(if ce b=true then s.heap.get? b else F b)=some o' by rw[if_pos n];exact c3);rw[e]at this;cases this;exact absurd c4 (d v)
  .rw[if_neg n];exact e
end
end Nb
section
namespace Ev
open PySem
theorem Th{α β:Type}{f:α->β}{l m:List β}(h:l.Perm m):∀{n:List α},m=n.map f->∃k:List α,l=k.map f/\k.Perm n:=by
 induction h with
 |nil=>
  intro n e;have:n=[]:=by cases n with|nil=>rfl|cons=>cases e
  subst this;exact⟨[],rfl,.refl _⟩
 |cons x _ ih=>
  intro n e;cases n with
  |nil=>cases e
  |cons y n=>rw[Ba]at e;injection e with e1 e2;obtain⟨k,rfl,hk⟩:=ih e2;exact⟨y::k,by rw[e1];rfl,.cons _ hk⟩
 |swap x y l=>
  intro n e
  match n,e with
  |a::b::n,e=>rw[Ba,Ba]at e;injection e with e1 e2;injection e2 with e2 e3;subst e1 e2 e3;exact⟨b::a::n,rfl,.swap _ _ _⟩
  |[_],e=>cases e
  |[],e=>cases e
 |trans _ _ ih1 ih2=>intro n e;obtain⟨k,e2,h2⟩:=ih2 e;obtain⟨k',e1,h1⟩:=ih1 e2;exact⟨k',e1,h1.trans h2⟩
theorem Sr(x:T):∀l:List T,(Lw x l).Perm (x::l)
 |[]=>.refl _
 |y::r=>by
  rw[Lw];split
  .exact .refl _
  .exact((Sr x r).cons y).trans (.swap x y r)
theorem Iq:∀l:List T,(Ha l).Perm l
 |[]=>.refl _
 |x::r=>(Sr x (Ha r)).trans ((Iq r).cons x)
theorem cq{x:T}:∀{l:List T},(l.Pairwise fun a b=>cD a b=true)->(∀y∈l,cD y x=!cD x y)->(∀y∈l,∀z∈l,cD x y=true->cD y z=true->cD x z=true)->(Lw x l).Pairwise fun a b=>cD a b=true
 |[],_,_,_=>List.pairwise_singleton _ _
 |y::r,h,ht,hr=>by
  rw[Ky]at h;rw[Lw];split
  .rename_i hc;refine Ky.mpr ⟨fun z hz=>?_,Ky.mpr h⟩;rcases omc hz with rfl|hz
   .exact hc
   .exact hr y (.head _) z (.tail _ hz) hc (h.1 z hz)
  .rename_i hc;refine Ky.mpr ⟨fun z hz=>?_,cq h.2 (fun z hz=>ht z (.tail _ hz)) fun z hz z' hz'=>hr z (.tail _ hz) z' (.tail _ hz')⟩;rcases omc ((Sr x r).mem_iff.mp hz)with rfl|hz
   .rw[ht y (.head _)];simpa using hc
   .exact h.1 z hz
theorem P8:∀{l:List T},(l.Pairwise fun x y=>cD y x=!cD x y)->(∀x∈l,∀y∈l,∀z∈l,cD x y=true->cD y z=true->cD x z=true)->(Ha l).Pairwise fun a b=>cD a b=true
 |[],_,_=>.nil
 |x::r,h,ht=>by rw[Ky]at h;have m:∀{y},y∈Ha r->y∈r:=fun{y}hy=>(Iq r).mem_iff.mp hy;exact cq (P8 h.2 fun a ha b hb c hc=>ht a (.tail _ ha) b (.tail _ hb) c (.tail _ hc)) (fun y hy=>h.1 y (m hy)) fun y hy z hz=>ht x (.head _) y (.tail _ (m hy)) z (.tail _ (m hz))
theorem Zc{R:T->T->Prop}:∀{l m:List T},l.Pairwise R->m.Pairwise R->(∀x∈l,∀y∈l,R x y->R y x->x=y)->l.Perm m->l=m
 |[],m,_,_,_,p=>(List.Perm.nil_eq p)
 |x::l,m,h1,h2,ha,p=>by
  cases m with
  |nil=>exact absurd p.symm (by simp)
  |cons y m=>
   rw[Ky]at h1 h2;have e:x=y:=by
    rcases omc (p.mem_iff.mp (.head _))with e|hx
    .exact e
    .rcases omc (p.mem_iff.mpr (.head _))with e|hy
     .exact e.symm
     .exact ha x (.head _) y (.tail _ hy) (h1.1 y hy) (h2.1 x hx)
   subst e;rw[Zc h1.2 h2.2 (fun a b c d=>ha a (.tail _ b) c (.tail _ d)) (List.Perm.cons_inv p)]
theorem dq:∀{l:List T},(l.Pairwise fun x y=>cD y x=!cD x y)->∀x∈l,∀y∈l,cD x y=true->cD y x=true->x=y
 |a::l,h,x,hx,y,hy,h1,h2=>by
  rw[Ky]at h;rcases omc hx with rfl|kx<;>rcases omc hy with rfl|ky
  .rfl
  .rw[h.1 y ky,h1]at h2;cases h2
  .rw[h.1 x kx,h2]at h1;cases h1
  .exact dq h.2 x kx y ky h1 h2
theorem T2{l m:List T}(h:OkN l)(pm:m.Perm l)(pw:m.Pairwise fun x y=>cD x y=true):Ha l=m :=
 have q:∀x∈Ha l,x∈l:=fun x hx=>(Iq l).mem_iff.mp hx
 Zc (P8 h.tot h.tr) pw (fun x hx y hy=>dq h.tot x (q x hx) y (q y hy)) ((Iq l).trans pm.symm)
section
open PySem PySem.W PyProof.Rows
variable {i j:Nat}
def Cb{α:Type}(c:Nat->Nat->Bool):KasT α->α
 |.ret a=>a
 |.ask i j k=>Cb c (k (c i j))
def kok{α:Type}(n:Nat)(c:Nat->Nat->Bool):KasT α->Bool
 |.ret _=>true
 |.ask i j k=>decide (i<n)&&decide (j<n)&&kok n c (k (c i j))
section
variable {n:Nat}{c:Nat->Nat->Bool}
theorem Lr{α β:Type}{f:α->KasT β}:∀t:KasT α,Cb c (t.bind f)=Cb c (f (Cb c t))
 |.ret _=>rfl
 |.ask i j k=>Lr (k (c i j))
theorem L8{α β:Type}{f:α->KasT β}:∀t:KasT α,kok n c t=true->kok n c (f (Cb c t))=true->kok n c (t.bind f)=true
 |.ret _,_,h=>h
 |.ask i j k,h1,h2=>by rw[kok,Cy]at h1;show(decide (i<n)&&decide (j<n)&&kok n c ((k (c i j)).bind f))=true;rw[h1.1,L8 (k (c i j)) h1.2 h2];rfl
theorem Jt{α:Type}{k:Bool->KasT α}(hi:i<n)(hj:j<n)(h:kok n c (k (c i j))=true):kok n c (.ask i j k)=true:=by rw[kok,Cd hi,Cd hj,h];rfl
def Pm(n:Nat)(p:Array Nat):Prop:=p.toList.Perm (List.range n)
def at'(p:Array Nat)(i:Nat):Nat:=p.getD i 0
variable {p:Array Nat}
theorem Pm.size(h:Pm n p):p.size=n:=by
 have:=List.Perm.length_eq h
 rwa[E7,Nc]at this
theorem N0(h:i<p.size):p[i]?=some (at' p i):=by unfold at';rw[Array.getD_eq_getD_getElem?,Hb h];rfl
theorem Z3{q:Array Nat}(h:q[i]?=p[j]?):at' q i=at' p j:=by unfold at';rw[Array.getD_eq_getD_getElem?,Array.getD_eq_getD_getElem?,h]
theorem Pm.lt(h:Pm n p)(hi:i<n):at' p i<n:=by have h1:=N0 (p:=p) (i:=i) (by rw[h.size];exact hi);rw[<-Gb]at h1;exact List.mem_range.mp ((List.Perm.mem_iff h).mp (Ee h1))
theorem Pm.ne(h:Pm n p)(hi:i<n)(hj:j<n)(hne:i≠j):at' p i≠at' p j:=fun e=>by have nd:p.toList.Nodup:=(List.Perm.nodup_iff h).mpr List.nodup_range;have h1:=N0 (p:=p) (i:=i) (by rw[h.size];exact hi);have h2:=N0 (p:=p) (i:=j) (by rw[h.size];exact hj);rw[<-Gb]at h1 h2;rw[e,<-h2]at h1;exact hne ((List.getElem?_inj (by rw[E7,h.size];exact hi) nd).mp h1)
structure Tot(n:Nat)(c:Nat->Nat->Bool):Prop where
 tot:∀i j,i<n->j<n->i≠j->c j i=!c i j
 tr:∀i j k,i<n->j<n->k<n->c i j=true->c j k=true->c i k=true
def Asc(c:Nat->Nat->Bool)(p:Array Nat)(k:Nat):Prop:=∀i j,i<j->j<k->c (at' p i) (at' p j)=true
def Dsc(c:Nat->Nat->Bool)(p:Array Nat)(k:Nat):Prop:=∀i j,i<j->j<k->c (at' p j) (at' p i)=true
theorem Asc.grow(T:Tot n c)(P:Pm n p){k:Nat}(h1:1<=k)(hk:k<n)(h:Asc c p k)(e:c (at' p (k-1)) (at' p k)=true):Asc c p (k+1):=fun i j hij hj=>by
 by_cases hjk:j<k
 .exact h i j hij hjk
 .obtain rfl:j=k:=by lia
  by_cases hi:i=j-1
  .rw[hi];exact e
  .exact T.tr _ _ _ (P.lt (by lia)) (P.lt (by lia)) (P.lt hk) (h i (j-1) (by lia) (by lia)) e
theorem Dsc.grow(T:Tot n c)(P:Pm n p){k:Nat}(h1:1<=k)(hk:k<n)(h:Dsc c p k)(e:c (at' p k) (at' p (k-1))=true):Dsc c p (k+1):=fun i j hij hj=>by
 by_cases hjk:j<k
 .exact h i j hij hjk
 .obtain rfl:j=k:=by lia
  by_cases hi:i=j-1
  .rw[hi];exact e
  .exact T.tr _ _ _ (P.lt hk) (P.lt (by lia)) (P.lt (by lia)) e (h i (j-1) (by lia) (by lia))
theorem Te(T:Tot n c)(P:Pm n p):∀(f k:Nat),1<=k->k+f<=n->Asc c p k->kok n c (kas_asc p f k)=true/\k<=Cb c (kas_asc p f k)/\Cb c (kas_asc p f k)<=k+f/\Asc c p (Cb c (kas_asc p f k))/\(Cb c (kas_asc p f k)<k+f->c (at' p (Cb c (kas_asc p f k))) (at' p (Cb c (kas_asc p f k)-1))=true)
 |0,k,_,_,h=>⟨rfl,Dn _,Dn _,h,fun z=>absurd z (M6 _)⟩
 |f+1,k,h1,hk,h=>by
  have l1:=P.lt (i:=k) (by lia);have l2:=P.lt (i:=k-1) (by lia);cases e:c (at' p k) (at' p (k-1))with
  |true=>
   have er:Cb c (kas_asc p (f+1) k)=k:=by show Cb c (if c (at' p k) (at' p (k-1))=true then _ else _)=k;rw[e];rfl
   rw[er];refine⟨Jt l1 l2 ?_,Dn _,by lia,h,fun _=>e⟩;show kok n c (if c (at' p k) (at' p (k-1))=true then _ else _)=true;rw[e];rfl
  |false=>
   have e':c (at' p (k-1)) (at' p k)=true:=by rw[T.tot _ _ l1 l2 (P.ne (by lia) (by lia) (by lia)),e];rfl
   obtain⟨a1,a2,a3,a4,a5⟩:=Te T P f (k+1) (by lia) (by lia) (h.grow T P h1 (by lia) e');have er:Cb c (kas_asc p (f+1) k)=Cb c (kas_asc p f (k+1)):=by show Cb c (if c (at' p k) (at' p (k-1))=true then _ else _)=_;rw[e];rfl
   rw[er];refine⟨Jt l1 l2 ?_,by lia,by lia,a4,fun z=>a5 (by lia)⟩;show kok n c (if c (at' p k) (at' p (k-1))=true then _ else _)=true;rw[e];exact a1
theorem dI(T:Tot n c)(P:Pm n p):∀(f k:Nat),1<=k->k+f<=n->Dsc c p k->kok n c (kas_desc f p k 0)=true/\∃m,Cb c (kas_desc f p k 0)=(p,m,0)/\k<=m/\m<=k+f/\Dsc c p m
 |0,k,_,_,h=>⟨rfl,k,rfl,Dn _,Dn _,h⟩
 |f+1,k,h1,hk,h=>by
  have l1:=P.lt (i:=k) (by lia);have l2:=P.lt (i:=k-1) (by lia);cases e:c (at' p k) (at' p (k-1))with
  |true=>
   obtain⟨a1,m,a2,a3,a4,a5⟩:=dI T P f (k+1) (by lia) (by lia) (h.grow T P h1 (by lia) e);refine⟨Jt l1 l2 ?_,m,?_,by lia,by lia,a5⟩
   .show kok n c (if c (at' p k) (at' p (k-1))=true then _ else _)=true;rw[e];exact a1
   .show Cb c (if c (at' p k) (at' p (k-1))=true then _ else _)=_;rw[e];exact a2
  |false=>
   have e':c (at' p (k-1)) (at' p k)=true:=by rw[T.tot _ _ l1 l2 (P.ne (by lia) (by lia) (by lia)),e];rfl
   refine⟨Jt l1 l2 ?_,k,?_,Dn _,by lia,h⟩
   .show kok n c (if c (at' p k) (at' p (k-1))=true then _ else _)=true;rw[e];refine Jt l2 l1 ?_;show kok n c (if c (at' p (k-1)) (at' p k)=true then _ else _)=true;rw[e'];rfl
   .show Cb c (if c (at' p k) (at' p (k-1))=true then _ else _)=_;rw[e];show Cb c (if c (at' p (k-1)) (at' p k)=true then _ else _)=_;rw[e'];rfl
theorem jY(P:Pm n p)(m:Nat):Pm n (kas_rev p 0 m):=List.Perm.trans (Array.perm_iff_toList_perm.mp (mirror_perm p 0 m ((m-0)/2))) P
theorem nM(P:Pm n p){m:Nat}(hm:m<=n)(h:Dsc c p m):Asc c (kas_rev p 0 m) m:=fun i j hij hj=>by
 have hs:=P.size;have g:∀i,i<m->at' (kas_rev p 0 m) i=at' p (m-1-i):=fun i hi=>Z3 (by unfold kas_rev;rw[getElem?_mirror_all (by lia),if_pos ⟨E9 _,hi⟩,show 0+m-1-i=m-1-i by lia]);rw[g i (by lia),g j hj];exact h _ _ (by lia) (by lia)
theorem pP(T:Tot n c)(P:Pm n p)(h2:2<=n):kok n c (kas_count n p)=true/\∃m q,Cb c (kas_count n p)=(m,q)/\1<=m/\m<=n/\Pm n q/\Asc c q m:=by
 obtain⟨a1,a2,a3,a4,a5⟩:=Te T P (n-1) 1 (Dn _) (by lia) (fun i j hij hj=>by lia);unfold kas_count;rw[Lr];generalize hm:Cb c (kas_asc p (n-1) 1)=m at *;have main:kok n c (if(m==n)=true then .ret (m,p)else if m>1 then .ask (p.getD 0 0) (p.getD (m-1) 0) fun d=>if d=true then .ret (m,p)else kas_descPart m n (kas_rev p 0 m)else kas_descPart m n p)=true/\∃m' q,Cb c (if(m==n)=true then .ret (m,p)else if m>1 then .ask (p.getD 0 0) (p.getD (m-1) 0) fun d=>if d=true then .ret (m,p)else kas_descPart m n (kas_rev p 0 m)else kas_descPart m n p)=(m',q)/\1<=m'/\m'<=n/\Pm n q/\Asc c q m':=by
  by_cases he:m=n
  .rw[if_pos (by simpa using he)];exact⟨rfl,m,p,rfl,a2,by lia,P,a4⟩
  .rw[if_neg (by simpa using he)];by_cases h1:m>1
   .rw[if_pos h1];have e:c (at' p 0) (at' p (m-1))=true:=a4 0 (m-1) (by lia) (by lia);refine⟨Jt (P.lt (i:=0) (by lia)) (P.lt (i:=m-1) (by lia)) ?_,m,p,?_,a2,by lia,P,a4⟩
    .show kok n c (if c (at' p 0) (at' p (m-1))=true then _ else _)=true;rw[e];rfl
    .show Cb c (if c (at' p 0) (at' p (m-1))=true then _ else _)=_;rw[e];rfl
   .rw[if_neg h1];obtain rfl:m=1:=by lia
    have e:=a5 (by lia);obtain⟨b1,k,b2,b3,b4,b5⟩:=dI T P (n-(1+1)) (1+1) (by lia) (by lia) (fun i j hij hj=>by
     obtain rfl:j=1:=by lia
     obtain rfl:i=0:=by lia
     exact e)
    have P':=jY P k;obtain⟨d1,d2,d3,d4,_⟩:=Te T P' (n-k) k (by lia) (by lia) (nM P (by lia) b5);unfold kas_descPart;rw[Lr,b2];refine⟨L8 _ b1 ?_,Cb c (kas_asc (kas_rev p 0 k) (n-k) k),kas_rev p 0 k,?_,by lia,by lia,P',d4⟩
    .rw[b2];exact L8 _ d1 rfl
    .show Cb c ((kas_asc (kas_rev p 0 k) (n-k) k).bind _)=_;rw[Lr];rfl
 exact⟨L8 _ a1 (by rw[hm];exact main.1),main.2⟩
theorem Sq(T:Tot n c)(P:Pm n p){k:Nat}(hk:k<n)(h:Asc c p k):∀(f l r:Nat),l<=r->r<=k->r-l<=f->(∀i,i<l->c (at' p i) (at' p k)=true)->(∀i,r<=i->i<k->c (at' p k) (at' p i)=true) ->kok n c (kas_place p k f l r)=true/\Cb c (kas_place p k f l r)<=k/\(∀i,i<Cb c (kas_place p k f l r)->c (at' p i) (at' p k)=true)/\∀i,Cb c (kas_place p k f l r)<=i->i<k->c (at' p k) (at' p i)=true
 |0,l,r,h1,h2,h3,h4,h5=>⟨rfl,by show l<=k;lia,h4,fun i hi hik=>h5 i (by have:l<=i:=hi;lia) hik⟩
 |f+1,l,r,h1,h2,h3,h4,h5=>by
  by_cases hlr:l>=r
  .have er:kas_place p k (f+1) l r=.ret l:=by rw[kas_place,if_pos hlr]
   rw[er];exact⟨rfl,by show l<=k;lia,h4,fun i hi hik=>h5 i (by have:l<=i:=hi;lia) hik⟩
  .have er:kas_place p k (f+1) l r=.ask (at' p k) (at' p ((l+r)/2)) fun d=>if d=true then kas_place p k f l ((l+r)/2)else kas_place p k f ((l+r)/2+1) r:=by rw[kas_place,if_neg hlr];rfl
   rw[er];have hm:(l+r)/2<k:=by lia
   have l1:=P.lt hk;have l2:=P.lt (i:=(l+r)/2) (by lia);have eo:∀(b:Bool),c (at' p k) (at' p ((l+r)/2))=b->Cb c (.ask (at' p k) (at' p ((l+r)/2)) fun d=>if d=true then kas_place p k f l ((l+r)/2)else kas_place p k f ((l+r)/2+1) r)=Cb c (if b=true then kas_place p k f l ((l+r)/2)else kas_place p k f ((l+r)/2+1) r):=fun b e=>by rw[Cb,e]
   cases e:c (at' p k) (at' p ((l+r)/2))with
   |true=>
    obtain⟨a1,a2,a3,a4⟩:=Sq T P hk h f l ((l+r)/2) (by lia) (by lia) (by lia) h4 fun i hi hik=>by
     by_cases q:i=(l+r)/2
     .rw[q];exact e
     .exact T.tr _ _ _ l1 l2 (P.lt (by lia)) e (h _ _ (by lia) hik)
    rw[eo _ e,if_pos rfl];exact⟨Jt l1 l2 (by rw[e,if_pos rfl];exact a1),a2,a3,a4⟩
   |false=>
    have e':c (at' p ((l+r)/2)) (at' p k)=true:=by rw[T.tot _ _ l1 l2 (P.ne (by lia) (by lia) (by lia)),e];rfl
    obtain⟨a1,a2,a3,a4⟩:=Sq T P hk h f ((l+r)/2+1) r (by lia) h2 (by lia) (fun i hi=>by
     by_cases q:i=(l+r)/2
     .rw[q];exact e'
     .exact T.tr _ _ _ (P.lt (by lia)) l2 l1 (h _ _ (by lia) hm) e') h5
    rw[eo _ e,if_neg (by simp)];exact⟨Jt l1 l2 (by rw[e,if_neg (by simp)];exact a1),a2,a3,a4⟩
theorem cV(T:Tot n c):∀(f:Nat)(p:Array Nat)(k:Nat),Pm n p->1<=k->k+f=n->Asc c p k->kok n c (kas_bin f p k)=true/\Pm n (Cb c (kas_bin f p k))/\Asc c (Cb c (kas_bin f p k)) n
 |0,p,k,P,_,hk,h=>⟨rfl,P,by have:k=n:=hk;rw[<-this];exact h⟩
 |f+1,p,k,P,h1,hk,h=>by
  obtain⟨a1,a2,a3,a4⟩:=Sq T P (k:=k) (by lia) h k 0 k (E9 _) (Dn _) (by lia) (fun i hi=>by lia) fun i hi hik=>by lia
  have er:kas_bin (f+1) p k=(kas_place p k k 0 k).bind fun l=>kas_bin f (bubble p k (k-l)) (k+1):=rfl;rw[er,Lr];generalize hl:Cb c (kas_place p k k 0 k)=l at *;have P':Pm n (bubble p k (k-l)):=List.Perm.trans (Array.perm_iff_toList_perm.mp (bubble_perm p k (k-l))) P;have hs:=P.size;have g:∀i,i<k+1->at' (bubble p k (k-l)) i=at' p (if i<l then i else if i=l then k else i-1):=fun i hi=>Z3 (by
   rw[getElem?_bubble (by lia) (k-l) (by lia),show k-(k-l)=l by lia];by_cases q1:i=l
   .rw[if_pos q1,if_neg (by lia),if_pos q1]
   .rw[if_neg q1];by_cases q2:i<l
    .rw[if_neg (by lia),if_pos q2]
    .rw[if_pos (by lia),if_neg q2,if_neg q1])
  obtain⟨b1,b2,b3⟩:=cV T f (bubble p k (k-l)) (k+1) P' (by lia) (by lia) fun i j hij hj=>by
   rw[g i (by lia),g j hj];by_cases q1:j<l
   .rw[if_pos q1,if_pos (by lia)];exact h i j hij (by lia)
   .rw[if_neg q1];by_cases q2:j=l
    .rw[if_pos q2,if_pos (by lia)];exact a3 i (by lia)
    .rw[if_neg q2];by_cases q3:i<l
     .rw[if_pos q3];exact h i (j-1) (by lia) (by lia)
     .rw[if_neg q3];by_cases q4:i=l
      .rw[if_pos q4];exact a4 (j-1) (by lia) (by lia)
      .rw[if_neg q4];exact h (i-1) (j-1) (by lia) (by lia)
  exact⟨L8 _ a1 (by rw[hl];exact b1),b2,b3⟩
theorem oB(h2:2<=n)(T:Tot n c):kok n c (kas_sort n)=true/\Pm n (Cb c (kas_sort n))/\(Cb c (kas_sort n)).toList.Pairwise fun x y=>c x y=true:=by
 have P0:Pm n (List.toArray (List.range n)):=List.Perm.refl _;obtain⟨a1,m,q,a2,a3,a4,a5,a6⟩:=pP T P0 h2;have er:kas_sort n=(kas_count n (List.toArray (List.range n))).bind fun r=>if r.1<n then kas_bin (n-max r.1 1) r.2 (max r.1 1)else .ret r.2:=rfl
 have pw:∀{q:Array Nat},Pm n q->Asc c q n->q.toList.Pairwise fun x y=>c x y=true:=fun{q}P h=>by rw[List.pairwise_iff_getElem];intro i j hi hj hij;rw[E7,P.size]at hi hj;have e:=h i j hij hj;have g1:=N0 (p:=q) (i:=i) (by rw[P.size];exact hi);have g2:=N0 (p:=q) (i:=j) (by rw[P.size];exact hj);rw[Hb (by rw[P.size];exact hi)]at g1;rw[Hb (by rw[P.size];exact hj)]at g2;rw[Array.getElem_toList,Array.getElem_toList,Fe g1,Fe g2];exact e
 rw[er,Lr,a2];show kok n c _=true/\Pm n (Cb c (if m<n then kas_bin (n-max m 1) q (max m 1)else .ret q))/\(Cb c (if m<n then kas_bin (n-max m 1) q (max m 1)else .ret q)).toList.Pairwise _;by_cases hm:m<n
 .rw[if_pos hm,show max m 1=m by lia];obtain⟨b1,b2,b3⟩:=cV T (n-m) q m a5 a3 (by lia) a6;exact⟨L8 _ a1 (by rw[a2];show kok n c (if m<n then _ else _)=true;rw[if_pos hm,show max m 1=m by lia];exact b1),b2,pw b2 b3⟩
 .rw[if_neg hm];obtain rfl:m=n:=by lia
  exact⟨L8 _ a1 (by rw[a2];show kok m c (if m<m then _ else _)=true;rw[if_neg hm];rfl),a5,pw a5 a6⟩
end
theorem Zw{α:Type}{cmp:Nat->Nat->(Bool->Shared->Prop)->Shared->Prop}{c:Nat->Nat->Bool}{I:Shared->Prop}{n:Nat}(h:∀i j C s,i<n->j<n->I s->(∀s',I s'->C (c i j) s')->cmp i j C s){Q:α->Shared->Prop}:∀(t:KasT α)(s:Shared),kok n c t=true->I s->(∀s',I s'->Q (Cb c t) s')->t.kasWp cmp Q s
 |.ret _,s,_,hi,q=>q s hi
 |.ask i j k,s,hk,hi,q=>by rw[kok,Cy,Cy,K8,K8]at hk;exact h i j _ s hk.1.1 hk.1.2 hi fun s' hi'=>Zw h (k (c i j)) s' hk.2 hi' q
end
end Ev
section
namespace Nb
open PySem W Spec PyProof.Rows Ev
section
variable {Q:Bool->Shared->Prop}
structure O2(prog:Program)(w:World)(A:Around)(s:Shared)(v u:Value)(e b:Bool):Prop where
 eq:SeqAt.EqAt A s v u e
 lt:e=false->∀(E:Value->Shared->Prop)(Q:Value->Shared->Prop),Q (.bool b) s->wpAny (model prog w) A (richCompare .Lt v u) Q E s
def Gk:List (Bool×Bool)->Bool->Bool
 |[],d=>d
 |p::r,d=>if p.1=true then Gk r d else p.2
inductive Ff(prog:Program)(w:World)(A:Around)(s:Shared):List Value->List Value->List (Bool×Bool)->Prop
 |nilL {us}:Ff prog w A s [] us []
 |nilR {vs}:Ff prog w A s vs [] []
 |cons {v u vs us e b r}:O2 prog w A s v u e b->(e=true->Ff prog w A s vs us r)->Ff prog w A s (v::vs) (u::us) ((e,b)::r)
section
open PySem.SeqAt
open PySem.AutoSeq1 (wpAny_loadPart')
open PySem.MeetsSeq PySem.MeetsSeq2 PySem.MeetsSeq3
theorem iH(prog0:Program)(w0:World)(l b:Addr)(items items2:Array Value)(n n2:Nat)(dd dd2:a7 Addr)(sl sl2:Array (a7 Value))(L:List (Bool×Bool)):Meets (Builtin.«tuple.__lt__» ⟨[.ref l,.ref b],[]⟩) (fun A R s=>s.heap.get? l=some {cls:=.type "tuple",dict:=dd,data:=.seq items n,slots:=sl}/\s.heap.get? b=some {cls:=.type "tuple",dict:=dd2,data:=.seq items2 n2,slots:=sl2} /\
    (∀prog w,Ff prog w A.in1 s items.toList items2.toList L)/\R (.ok (.ret (.bool (Gk L (decide (items.size<items2.size)))))) s) :=
 .of_wp fun prog w A R s h=>by
  obtain⟨hp,g,d,tk,os⟩:=s;obtain⟨hl,hb,hc,h⟩:=h;have hc:=hc prog w;have f2:=AutoSeq1.sub_tuple_tuple
  wp_walk using wpAny_loadPart' hl,wpAny_loadPart' hb,wpAny_forIn_list _ (fun rest b s'=>b.1=none/\s'=⟨hp,g,d,tk,os⟩/\∃(vs ws:List Value)(L':List (Bool×Bool)),rest=vs.zip ws /\
   Ff prog w A.in1 ⟨hp,g,d,tk,os⟩ vs ws L'/\R (.ok (.ret (.bool (Gk L' (decide (items.size<items2.size)))))) ⟨hp,g,d,tk,os⟩) _
  case turn=>
   rintro⟨y,x⟩ rest b s' ⟨hb',rfl,vs,ws,L',hz,hcl,hR⟩;cases hcl with
   |nilL=>cases hz
   |nilR=>rw[List.zip_nil_right]at hz;cases hz
   | @cons v u vs us e b2 r hcm hcr=>
    rw[List.zip_cons_cons]at hz;injection hz with hyx hrest;injection hyx with hy hx;subst hy hx;refine Aa (hcm.eq prog w _ _ ?_);cases e with
    |true=>
     rw[Gk,if_pos rfl]at hR
     wp_walk
     exact⟨rfl,rfl,_,_,_,hrest,hcr rfl,hR⟩
    |false=>
     rw[Gk,if_neg (by simp)]at hR;have hri:=fun E Q h=>hcm.lt rfl E Q h
     wp_walk using hri
     exact⟨_,rfl,by simpa using hR⟩
  case fin=>
   rintro⟨b1,b2⟩ s' ⟨hb',rfl,vs,ws,L',hz,hcl,hR⟩;simp only at hb';subst hb';have hv:Gk L' (decide (items.size<items2.size))=decide (items.size<items2.size):=by
    cases hcl with
    |nilL=>rfl
    |nilR=>rfl
    |cons _ _=>cases hz
   rw[hv]at hR
   wp_walk
   exact⟨_,rfl,by simpa[Builtin.Tuple.tupleCompareSizes]using hR⟩
  case h=>exact⟨rfl,rfl,items.toList,items2.toList,L,rfl,hc,h⟩
end
section
variable {prog:Program}{w:World}{F:Fz}{s:Shared}{A:Around}{E:Value->Shared->Prop}
theorem iE{l b:Addr}{items items2:Array Value}{L:List (Bool×Bool)}{Q:Value->Shared->Prop}(hl:s.heap.IsTuple l items)(hb:s.heap.IsTuple b items2)(hc:∀prog w,Ff prog w A.in1 s items.toList items2.toList L)(hu:A.units<cLine)(h:Q (.bool (Gk L (decide (items.size<items2.size)))) s):wpAny (model prog w) A (compareOp .Lt (.ref l) (.ref b)) Q E s:=by
 obtain⟨⟨cls,dd,data,sl⟩,ho,hc1,n,hd⟩:=id hl;obtain⟨⟨cls2,dd2,data2,sl2⟩,ho2,hc2,n2,hd2⟩:=id hb;simp only at hc1 hd hc2 hd2;subst hc1 hd hc2 hd2;exact richCompare_meets_room (op:=.Lt) ⟨_,ho,rfl⟩ ⟨_,ho2,rfl⟩ PySem.F.slot_tuple_lt PySem.F.entry_tuple_lt (PySem.F.args_tuple_lt_2 _ _) (iH prog w l b items items2 n n2 dd dd2 sl sl2 L)
  ⟨ho,ho2,hc,show Value.bool (Gk L (decide (items.size<items2.size)))≠Value.notImplemented/\Q (.bool (Gk L (decide (items.size<items2.size)))) s from⟨(fun x=>nomatch x),h⟩⟩ hu
def Og(A:Around)(s:Shared)(v u:Value)(b:Bool):Prop:=∀prog w(E Q:Value->Shared->Prop),Q (.bool b) s->wpAny (model prog w) A (richCompare .Lt v u) Q E s
theorem kM{A:Around}{n:Nat}(ih:∀(t1 t2:T)(v u:Value),Bc t1 t2<=n->Rep w F t1 v->Rep w F t2 u->SeqAt.EqAt A s v u (Ev.eqT t1 t2))(il:∀(t1 t2:T)(v u:Value)(b:Bool),Bc t1 t2<=n->E1 t1 t2=some b->Rep w F t1 v->Rep w F t2 u->Og A s v u b):∀(ts us:List T)(is js:List Value)(b:Bool),Cz ts us<=n->Dc ts us=some b->Reps w F ts is->Reps w F us js->∃L,(∀prog w,Ff prog w A s is js L)/\Gk L (decide (is.length<js.length))=b:=by
 intro ts
 induction ts with
 |nil=>intro us is js b hd hl r1 r2;cases r1;refine⟨[],fun _ _=>.nilL,?_⟩;cases hl;rw[Gk,r2.length];cases us<;>simp
 |cons t ts ih'=>
  rintro us is js b hd hl ⟨v,is,rfl,q1,r1⟩ r2;cases us with
  |nil=>cases r2;cases hl;exact⟨[],fun _ _=>.nilR,by rw[Gk];simp⟩
  |cons u us=>
   obtain⟨y,js,rfl,q2,r2⟩:=r2;have hm:max (Bc t u) (Cz ts us)<=n:=by rw[Cz]at hd;exact hd
   have h1:=Cr (Nat.le_max_left _ _) hm;have he:=ih t u _ _ h1 q1 q2;have hl':(if Ev.eqT t u=true then Dc ts us else E1 t u)=some b:=by rw[Dc]at hl;exact hl
   cases e:Ev.eqT t u with
   |true=>rw[e]at he;rw[e,if_pos rfl]at hl';obtain⟨L,c1,c2⟩:=ih' us _ _ b (Cr (Nat.le_max_right _ _) hm) hl' r1 r2;refine⟨(true,false)::L,fun prog w=>.cons ⟨he,fun z=>by cases z⟩ fun _=>c1 prog w,?_⟩;rw[Gk,if_pos rfl,<-c2];simp
   |false=>rw[e]at he;rw[e,if_neg (by simp)]at hl';exact⟨[(false,b)],fun prog w=>.cons ⟨he,fun _=>il t u _ _ b h1 hl' q1 q2 prog w⟩ (fun z=>by cases z),by rw[Gk,if_neg (by simp)]⟩
theorem d9{t1 t2:T}{b:Bool}(h:E1 t1 t2=some b):(∃a c,t1=.int a/\t2=.int c)\/(∃a c,t1=.str a/\t2=.str c)\/∃a c,t1=.tup a/\t2=.tup c:=by cases t1<;>cases t2<;>first|(cases h;done)|exact .inl ⟨_,_,rfl,rfl⟩|exact .inr (.inl ⟨_,_,rfl,rfl⟩)|exact .inr (.inr ⟨_,_,rfl,rfl⟩)
theorem mM(hF:F.In s.heap):∀(n:Nat)(A:Around)(t1 t2:T)(v u:Value)(b:Bool),A.units+n<cLine->Bc t1 t2<=n->E1 t1 t2=some b->Rep w F t1 v->Rep w F t2 u->Og A s v u b:=by
 intro n
 induction n with
 |zero=>
  intro A t1 t2 v u b hA hd hl r1 r2;rcases d9 hl with⟨a,c,rfl,rfl⟩|⟨a,c,rfl,rfl⟩|⟨a,c,rfl,rfl⟩
  .obtain⟨_,rfl⟩:=r1;obtain⟨_,rfl⟩:=r2;cases(show some (decide (a<c))=some b from hl);exact fun _ _ _ _ q=>lt_int q
  .obtain⟨_,rfl⟩:=r1;obtain⟨_,rfl⟩:=r2;cases(show some (decide (a.cps.toList<c.cps.toList))=some b from hl);exact fun _ _ _ _ q=>PySem.P.lt_str q
  .rw[Bc]at hd;lia
 |succ n ih=>
  intro A t1 t2 v u b hA hd hl r1 r2;rcases d9 hl with⟨a,c,rfl,rfl⟩|⟨a,c,rfl,rfl⟩|⟨a,c,rfl,rfl⟩
  .obtain⟨_,rfl⟩:=r1;obtain⟨_,rfl⟩:=r2;cases(show some (decide (a<c))=some b from hl);exact fun _ _ _ _ q=>lt_int q
  .obtain⟨_,rfl⟩:=r1;obtain⟨_,rfl⟩:=r2;cases(show some (decide (a.cps.toList<c.cps.toList))=some b from hl);exact fun _ _ _ _ q=>PySem.P.lt_str q
  .obtain⟨l1,o1,i1,n1,rfl,f1,c1,d1,_,q1⟩:=r1;obtain⟨l2,o2,i2,n2,rfl,f2,c2,d2,_,q2⟩:=r2;rw[Bc]at hd;obtain⟨L,g1,g2⟩:=kM (A:=A.in1) (n:=n) (fun t1 t2 v u h=>Os hF n A.in1 t1 t2 v u (show A.units+1+n<cLine by lia) h)
    (fun t1 t2 v u b h=>ih A.in1 t1 t2 v u b (show A.units+1+n<cLine by lia) h) a c _ _ b (by lia) (show Dc a c=some b from hl) q1 q2
   intro prog w E Q q;refine iE (L:=L) ⟨o1,hF _ _ f1,c1,n1,d1⟩ ⟨o2,hF _ _ f2,c2,n2,d2⟩ g1 (by lia) ?_;rw[E7,E7]at g2;rw[g2];exact q
def Xs:T->T->Bool
 |.int _,.int _=>true
 |.str _,.str _=>true
 |_,_=>false
theorem mP{t1 t2:T}{v u:Value}{b:Bool}(hf:Xs t1 t2=true)(hl:E1 t1 t2=some b)(r1:Rep w F t1 v)(r2:Rep w F t2 u)(h:Q b s):wpAny (model prog w) A (oneLt' true v u) Q (fun _ _=>False) s:=by
 cases t1 with
 |int i=>
  cases t2 with
  |int j=>obtain⟨_,rfl⟩:=r1;obtain⟨_,rfl⟩:=r2;cases(show some (decide (i<j))=some b from hl);exact kat_lt_int h
  |_=>cases hf
 |str i=>
  cases t2 with
  |str j=>obtain⟨_,rfl⟩:=r1;obtain⟨_,rfl⟩:=r2;cases(show some (decide (i.cps.toList<j.cps.toList))=some b from hl);exact oneLt_str h
  |_=>cases hf
 |_=>cases hf
theorem lN(hF:F.In s.heap){n:Nat}(hA:A.units+n<cLine){sh:Bool}:∀(ts us:List T)(is js:List Value)(i:Nat)(b fin:Bool),Cz ts us<=n->Dc ts us=some b->(sh=true->i=0->∀x y r q,ts=x::r->us=y::q->Xs x y=true)->fin=decide (is.length<js.length)->Reps w F ts is->Reps w F us js->Q b s->KatLex prog w A sh fin Q (is.zip js) i s:=by
 intro ts
 induction ts with
 |nil=>
  intro us is js i b fin hd hl hs hfin r1 r2 q;cases r1;rw[List.zip_nil_left];refine kat_nil ?_;cases hl;rw[hfin,r2.length];cases us with
  |nil=>exact q
  |cons _ _=>simpa using q
 |cons t ts ih=>
  rintro us is js i b fin hd hl hs hfin ⟨v,is,rfl,q1,r1⟩ r2 q;cases us with
  |nil=>cases r2;cases hl;rw[List.zip_nil_right];refine kat_nil ?_;rw[hfin];simpa using q
  |cons u us=>
   obtain⟨y,js,rfl,q2,r2⟩:=r2;have hm:max (Bc t u) (Cz ts us)<=n:=by rw[Cz]at hd;exact hd
   have h1:=Cr (Nat.le_max_left _ _) hm;have he:=Os hF n A t u _ _ hA h1 q1 q2;have hl':(if Ev.eqT t u=true then Dc ts us else E1 t u)=some b:=by rw[Dc]at hl;exact hl
   rw[List.zip_cons_cons];refine kat_cons (he prog w _ _ ?_);cases e:Ev.eqT t u with
   |true=>rw[e,if_pos rfl]at hl';exact kat_yes (ih us _ _ (i+1) b fin (Nat.le_trans (Nat.le_max_right _ _) hm) hl' (fun _ z=>by lia) (by rw[hfin];simp) r1 r2 q)
   |false=>
    rw[e,if_neg (by simp)]at hl';refine kat_no ?_;cases hq:(sh&&i==0)with
    |true=>rw[Cy]at hq;exact mP (hs hq.1 (by simpa using hq.2) t u ts us rfl rfl) hl' q1 q2 q
    |false=>exact kat_one _ _ (mM hF n A t u _ _ b hA h1 hl' q1 q2 prog w _ _ q)
end
end
section
end
end Nb
namespace Ev
open PySem Nb PySem.W PySem.Spec PyProof.Rows
variable {l:List T}
theorem cC:∀vs:List Value,(vs.zip vs).map (·.2)=vs
 |[]=>rfl
 |v::vs=>by rw[List.zip_cons_cons,Ba,cC vs]
theorem Za{α:Type}(d:α)(l:List α):l=(List.range l.length).map fun i=>l.getD i d:=by
 apply List.ext_getElem?;intro i;rw[Dm];by_cases hi:i<l.length
 .rw[List.getElem?_range hi,Dw hi];simp[List.getD_eq_getElem?_getD,hi]
 .rw[Gx (by simpa using hi),Gx (by simpa using hi)];rfl
def ah:Nat->Value
 |0=>.type "int"
 |1=>.type "str"
 |_=>.type "tuple"
def Oy(a:T):a7 Value:=(P5 a).map ah
theorem mO(h:∃n,∀x∈l,∃a r,x=.tup (a::r)/\P5 a=some n):∃Tv,∀x∈l,∃a r,x=.tup (a::r)/\Oy a=some Tv :=
 let⟨n,hk⟩:=h;⟨ah n,fun x hx=>let⟨a,r,e,k⟩:=hk x hx;⟨a,r,e,by unfold Oy;rw[k];rfl⟩⟩
theorem fQ{t:T}(h:Eo l=some t):OkN l/\t=.lst (Ha l):=by
 unfold Eo at h;split at h
 .rename_i hk;exact⟨hk,(Fe h).symm⟩
 .cases h
theorem OkN.at(h:OkN l){i j:Nat}(hi:i<l.length)(hj:j<l.length)(hne:i≠j):cD (l.getD j .non) (l.getD i .non)=!cD (l.getD i .non) (l.getD j .non):=by
 have g:∀{i},(hi:i<l.length)->l.getD i .non=l[i]:=fun{i}hi=>by rw[Hj,Dw hi];rfl
 have pw:=List.pairwise_iff_getElem.mp h.tot;rw[g hi,g hj];rcases Nat.lt_or_gt_of_ne hne with q|q
 .exact pw i j hi hj q
 .rw[pw j i hj hi q,Bool.not_not]
theorem mu(h:OkN l){p:List Nat}(hp:p.Perm (List.range l.length))(pw:p.Pairwise fun i j=>cD (l.getD i .non) (l.getD j .non)=true):Ha l=p.map fun i=>l.getD i .non:=by have e:l=(List.range l.length).map fun i=>l.getD i .non:=Za _ l;refine T2 h ?_ (List.pairwise_map.mpr pw);have:=hp.map fun i=>l.getD i .non;rw[<-e]at this;exact this
theorem OkN.perm{m:List T}(h:OkN l)(p:m.Perm l):OkN m:=by have k:∀{x},x∈m->x∈l:=fun hx=>p.mem_iff.mp hx;exact⟨by rw[p.length_eq];exact h.len,fun x hx y hy=>h.dp x (k hx) y (k hy),fun x hx y hy=>h.lt x (k hx) y (k hy),h.kd.imp (fun⟨n,hn⟩=>⟨n,fun x hx=>hn x (k hx)⟩) fun hn x hx=>hn x (k hx),p.symm.pairwise h.tot fun{x y}e=>by rw[e];simp,fun x hx y hy z hz=>h.tr x (k hx) y (k hy) z (k hz)⟩
theorem ou{m:List T}(h:OkN l)(p:m.Perm l):Ha m=Ha l:=(T2 h ((Iq m).trans p) (P8 (h.perm p).tot (h.perm p).tr)).symm
end Ev
namespace Nb
open PySem W Spec PyProof.Rows Ev
section
variable {a:Addr}{vs qc:List Value}{n:Nat}{xs:List T}
section
variable {prog:Program}{w:World}{A:Around}{E:Value->Shared->Prop}{s:Shared}{F:Fz}
theorem mS{g:Heap}(ho:g.get? a=some (seqObj "list" vs.toArray n))(out:Array Value):∃c,(sortedHeap g a vs out).get? a=some (seqObj "list" out c):=by obtain⟨e1,ho1⟩:∃e1,(g.update a (Obj.mapSeq fun _=>#[])).get? a=some (seqObj "list" #[] e1):=⟨_,get?_update_seq ho (fun _=>#[])⟩;have ho6:(((g.update a (Obj.mapSeq fun _=>#[])).push (seqObj "tuple" vs.toArray 0)).push (seqObj "list" #[] 0)).get? a=some (seqObj "list" #[] e1):=Bb _ (Bb _ ho1);exact⟨_,get?_update_seq ho6 fun _=>out⟩
theorem fB{g:Heap}{out:Array Value}{b:Addr}{o:Obj}(hb:b≠a)(e:g.get? b=some o):(sortedHeap g a vs out).get? b=some o:=by unfold sortedHeap;rw[Kw _ _ _ _ hb];exact Bb _ (Bb _ (by rw[Kw _ _ _ _ hb];exact e))
def Sw(prog:Program)(w:World)(A:Around)(vs:List Value)(c:Nat->Nat->Bool)(s:Shared):Prop :=
 ∃κ:SortKind,(∀(E:Value->Shared->Prop)(Q:SortKind->Shared->Prop),Q κ s->wpAny (model prog w) A (keyKind' vs.toArray) Q E s) /\
  ∀Q:Array Nat->Shared->Prop,(∀p:Array Nat,Pm vs.length p->(p.toList.Pairwise fun i j=>c i j=true)->Q p s)->(kas_sort vs.length).kasWp (kas_ask prog w A κ vs) Q s
theorem kU{R:Nat->Nat->Prop}(h:n<2):(List.range n).Pairwise R:=by
 match n,h with
 |0,_=>exact .nil
 |1,_=>exact List.pairwise_singleton _ _
theorem kX{c:Nat->Nat->Bool}{P:PySem.Fin->Shared->Prop}(ho:s.heap.get? a=some (seqObj "list" vs.toArray n))(h60:vs.length<=60)(hk:2<=vs.length->∀g:Heap,(∀b o,b≠a->s.heap.get? b=some o->g.get? b=some o)->Sw prog w A vs c {s with heap:=g})(h:∀p:List Nat,p.Perm (List.range vs.length)->(p.Pairwise fun i j=>c i j=true)->P (.done (.ret .none)) {s with heap:=sortedHeap s.heap a vs (p.map fun i=>vs.getD i .none).toArray}):wpAny (model prog w) A (Builtin.«list.sort» ⟨[.ref a],[]⟩) P E s:=by
 rw[list_sort_plain];have ha:a<s.heap.objs.size:=Cu ho;have hz:vs.toArray.size<=sizeLine:=by rw[Mh,Ew];lia
 refine Aa (listItems_at ho rfl (Aa (listUpdate_at ho rfl ?_ hz (E9 _))));obtain⟨e1,ho1⟩:∃e1,(s.heap.update a (Obj.mapSeq fun _=>#[])).get? a=some (seqObj "list" #[] e1):=⟨_,get?_update_seq ho (fun _=>#[])⟩;refine Aa (seqEpoch_at ho1 rfl (Aa (wpAny_newTuple ?_ (by show vs.length<=_;rw[Ew];lia))));refine Aa (wpAny_newList (E6 ?_) (E9 _));have ho6:(((s.heap.update a (Obj.mapSeq fun _=>#[])).push (seqObj "tuple" vs.toArray 0)).push (seqObj "list" #[] 0)).get? a=some (seqObj "list" #[] e1):=Bb _ (Bb _ ho1);have kp:∀b o,b≠a->s.heap.get? b=some o->(((s.heap.update a (Obj.mapSeq fun _=>#[])).push (seqObj "tuple" vs.toArray 0)).push (seqObj "list" #[] 0)).get? b=some o:=fun b o hb e=>Bb _ (Bb _ (by rw[Kw _ _ _ _ hb];exact e));show wpAny (model prog w) A _ P E {s with heap:=((s.heap.update a (Obj.mapSeq fun _=>#[])).push (seqObj "tuple" vs.toArray 0)).push (seqObj "list" #[] 0)};dsimp only;by_cases h2:vs.toArray.size<2
 .rw[if_pos h2,if_pos h2];refine Aa (Af ?_);rw[StateT.run_pure];refine Aa (Af ?_);dsimp only;refine Aa (seqEpoch_at ho6 rfl ?_);have eo:(arrOf (SortSt.mk' general' (vs.toArray.zip vs.toArray) #[] 7 none)).map (·.2)=vs.toArray:=by show(vs.toArray.zip vs.toArray).map (·.2)=vs.toArray;apply Array.toList_inj.mp;rw[Array.toList_map,Array.toList_zip];exact cC vs
  rw[eo];refine Aa (listUpdate_at ho6 rfl ?_ (E9 _) (by show vs.toArray.size<=_;lia));simp only[bne_self_eq_false,Bool.false_eq_true,if_false];have hv2:vs.length<2:=by simpa using h2
  have:=h (List.range vs.length) (List.Perm.refl _) (kU hv2);rw[<-Za]at this;exact Af this
 .rw[if_neg h2,if_neg h2];have hn2:2<=vs.length:=by rw[Mh]at h2;lia
  obtain⟨κ,kk,ask⟩:=hk hn2 _ kp;refine Aa (kk _ _ ?_);have ask:=ask (fun p s'=>s'={s with heap:=((s.heap.update a (Obj.mapSeq fun _=>#[])).push (seqObj "tuple" vs.toArray 0)).push (seqObj "list" #[] 0)}/\Pm vs.length p/\p.toList.Pairwise fun i j=>c i j=true) fun p p1 p2=>⟨rfl,p1,p2⟩;refine Aa (Eh (kat_run (Q:=fun st' s'=>∃p:Array Nat,p.size=vs.length/\arrOf st'=p.map (kas_item (vs.toArray.zip vs.toArray))/\failedOf st'=none/\s'={s with heap:=((s.heap.update a (Obj.mapSeq fun _=>#[])).push (seqObj "tuple" vs.toArray 0)).push (seqObj "list" #[] 0)}/\Pm vs.length p/\p.toList.Pairwise fun i j=>c i j=true)
   rfl (by lia) (by lia) (fun p' st' s' a1 a2 a3 a4=>⟨p',a1,a2,a3,a4⟩) ask) ?_ fun _ _ e=>e)
  rintro⟨⟨⟩,st'⟩ s' ⟨p,hp,har,hf,rfl,p1,p2⟩;dsimp only;have hout:=kat_snds rfl har;refine Aa (seqEpoch_at ho6 rfl ?_);rw[hout];refine Aa (listUpdate_at ho6 rfl ?_ (E9 _) (by show(List.toArray _).size<=_;rw[Mh,Aq,E7,hp,Ew];lia));rw[hf];simp only[bne_self_eq_false,Bool.false_eq_true,if_false];exact Af (h p.toList p1 p2)
theorem i6{r:Value}{Q:Value->Shared->Prop} (h:wpAny (model prog w) A.in1 (collect r) (fun vs s1=>vs.length<=60/\∃c:Nat->Nat->Bool,(2<=vs.length->∀(A':Around)(g:Heap),A'.units<=A.units+5->(∀b o,s1.heap.get? b=some o->g.get? b=some o)->Sw prog w A' vs c {s1 with heap:=g}) /\
   ∀(p:List Nat)(k:Nat)(g:Heap),p.Perm (List.range vs.length)->(p.Pairwise fun i j=>c i j=true)->(∀b o,s1.heap.get? b=some o->g.get? b=some o)->
    g.get? s1.heap.objs.size=some {cls:=.type "list",data:=.seq (p.map fun i=>vs.getD i .none).toArray k}->Q (.ref s1.heap.objs.size) {s1 with heap:=g}) E s):wpAny (model prog w) A (call (.builtin "sorted") [r]) Q E s:=by
 refine Calls.call_function_entry kind_sorted plain_sorted entry_sorted (args_sorted1 _) ?_;unfold Builtin.«sorted»;refine Aa (m:=checkCount "sorted" 1 1 _) (Af ?_);refine Aa (Eh h (fun vs s1 x=>?_) fun _ _ e=>e);obtain⟨h60,c,hk,q⟩:=x;refine Aa (wpAny_newList ?_ (by rw[Ew];lia));have hoL:(s1.heap.push (seqObj "list" vs.toArray 0)).get? s1.heap.objs.size=some (seqObj "list" vs.toArray 0):=Cv _ rfl;refine Aa (E6 (Ek slot_list_sort ⟨_,hoL,rfl⟩ entry_list_sort ?_ (args_list_sort _)));refine kX (c:=c) (s:={s1 with heap:=s1.heap.push (seqObj "list" vs.toArray 0)}) hoL h60 (fun h2 g hg=>hk h2 _ g ?_ fun b o e=>hg b o (Es (Cu e)) (Bb _ e)) fun p p1 p2=>⟨_,rfl,?_⟩
 .show _<=A.units+5
  first|exact Nat.le_add_right _ _|(show A.units+1<=A.units+5;lia)|(show A.units+2<=A.units+5;lia)|(show A.units+3<=A.units+5;lia)
 .obtain⟨k,hc⟩:=mS hoL (p.map fun i=>vs.getD i .none).toArray;exact Af ⟨_,rfl,q p k _ p1 p2 (fun b o e=>fB (Es (Cu e)) (Bb _ e)) hc⟩
theorem gx{a:T}{Tv:Value}(h:Oy a=some Tv):(Tv==Tv)=true:=by
 cases a<;>cases h
 .show(Value.type "int"==Value.type "int")=true;decide
 .show(Value.type "str"==Value.type "str")=true;decide
 .show(Value.type "tuple"==Value.type "tuple")=true;decide
theorem o7{M:Model}(hF:F.In s.heap){a:T}{Tv:Value}(h:Oy a=some Tv){u:Value}(r:Rep w F a u):Looks M s.heap (typeOf u) Tv:=by
 cases a with
 |int i=>cases h;obtain⟨t,rfl⟩:=r;exact .now
 |str i=>cases h;obtain⟨t,rfl⟩:=r;exact .now
 |tup xs=>cases h;obtain⟨a,o,qc,n,rfl,f,c,_⟩:=r;show Looks M s.heap (typeOf (Value.ref a)) (Value.type "tuple");rw[<-c];exact(Looks.ld (hF _ _ f)).andThen .now
 |_=>cases h
theorem cW{M:Model}(hF:F.In s.heap){Tv:Value}:∀{xs:List T}{qc:List Value},(∀x∈xs,∃a r,x=.tup (a::r)/\Oy a=some Tv)->Reps w F xs qc ->∃fs,KatTups s.heap qc fs/\fs.length=xs.length/\∀v∈fs,Looks M s.heap (typeOf v) Tv
 |[],_,_,r=>by cases r;exact⟨[],KatTups.nil,rfl,fun _ h=>nomatch h⟩
 |x::xs,_,hx,⟨v,qc,e,r1,r2⟩=>by
  subst e;obtain⟨fs,f1,f2,f3⟩:=cW hF (fun y hy=>hx y (.tail _ hy)) r2;obtain⟨a,q,rfl,hk⟩:=hx x (.head _);obtain⟨p,o,jts,n,rfl,f,c,d,_,u,ws,ej,k1,k2⟩:=r1;refine⟨u::fs,KatTups.cons (hF _ _ f) c d (by rw[<-Array.getElem?_toList,ej];rfl) f1,by simp[f2],fun v hv=>?_⟩;rcases omc hv with rfl|hv
  .exact o7 hF hk k1
  .exact f3 v hv
theorem at_N(hF:F.In s.heap)(r:Reps w F xs qc){i:Nat}(hi:i<xs.length){ys:List T}(hx:xs.getD i .non=.tup ys):∃p o n jts,qc.getD i .none=.ref p/\s.heap.get? p=some o/\o.data=.seq jts n/\Reps w F ys jts.toList:=by
 have e1:xs[i]?=some (.tup ys):=by rw[Hj,Dw hi]at hx;rw[Dw hi];exact Av some hx
 obtain⟨v,hv,p,o,jts,n,rfl,f,c,d,_,q⟩:=r.get e1;exact⟨p,o,n,jts,by rw[Hj,hv];rfl,hF _ _ f,d,q⟩
theorem jX(hF:F.In s.heap)(hA:A.units+20<cLine)(ok:OkN xs)(r:Reps w F xs qc)(h2:2<=qc.length):Sw prog w A qc (fun i j=>cD (xs.getD i .non) (xs.getD j .non)) s:=by
 have hl:=r.length;have srt:∀Q:Array Nat->Shared->Prop,(∀p:Array Nat,Pm qc.length p->(p.toList.Pairwise fun i j=>cD (xs.getD i .non) (xs.getD j .non)=true)->Q p s)->∀κ,(∀(i j:Nat)(C:Bool->Shared->Prop),i<xs.length->j<xs.length->C (cD (xs.getD i .non) (xs.getD j .non)) s->wpAny (model prog w) A (keyLt' κ (qc.getD i .none) (qc.getD j .none)) C (fun _ _=>False) s)->(kas_sort qc.length).kasWp (kas_ask prog w A κ qc) Q s:=fun Q q κ h=>by
  have mem:∀{i},i<xs.length->xs.getD i .non∈xs:=fun{i}hi=>by rw[Hj,Dw hi];exact Jy hi
  have T:=oB (n:=qc.length) (c:=fun i j=>cD (xs.getD i .non) (xs.getD j .non)) h2 ⟨fun i j hi hj hne=>ok.at (by lia) (by lia) hne,fun i j k hi hj hk'=>ok.tr _ (mem (by lia)) _ (mem (by lia)) _ (mem (by lia))⟩;refine Zw (n:=qc.length) (c:=fun i j=>cD (xs.getD i .non) (xs.getD j .non)) (I:=fun s'=>s'=s) (fun i j C s' hi hj hs hC=>?_) _ s T.1 rfl (fun s' hs=>by subst hs;exact q _ T.2.1 T.2.2);subst hs;exact h i j C (by lia) (by lia) (hC s' rfl)
 rcases ok.kd with hk|hk
 case inr=>
  have txt:∀i,i<xs.length->∃x t,xs.getD i .non=.str x/\qc.getD i .none=.str x t:=fun i hi=>by
   obtain⟨v,hv,rv⟩:=r.get (Dw hi);have:=hk _ (Jy hi);rw[Hj,Hj,Dw hi,hv];show ∃x t,xs[i]=_/\v=_;cases e:xs[i]with
   |str x=>rw[e]at rv;obtain⟨t,rfl⟩:=rv;exact⟨x,t,rfl,rfl⟩
   |_=>rw[e]at this;cases this
  refine⟨oneType',fun E Q q=>kas_kind (T:=.type "str") h2 (fun v hv=>?_) (by decide) (by decide) q,fun Q q=>srt Q q _ fun i j C hi hj hC=>?_⟩
  .obtain⟨i,hi,rfl⟩:=List.getElem_of_mem hv;obtain⟨x,t,_,e⟩:=txt i (by lia);rw[Hj,Dw hi]at e;rw[show qc[i]=.str x t from e];exact .now
  .obtain⟨x,t,e1,e2⟩:=txt i hi;obtain⟨y,u,e3,e4⟩:=txt j hj;rw[e2,e4];rw[e1,e3]at hC;refine kas_lt_str ?_;have:cD (.str x) (.str y)=decide (x.cps.toList<y.cps.toList):=by unfold cD;show(some (decide (x.cps.toList<y.cps.toList))==some true)=_;cases decide (x.cps.toList<y.cps.toList)<;>rfl
   rw[this]at hC;exact hC
 obtain⟨Tv,hk⟩:=mO hk;obtain⟨fs,f1,f2,f3⟩:=cW (M:=model prog w) hF hk r;have mem:∀{i},i<xs.length->xs.getD i .non∈xs:=fun{i}hi=>by rw[Hj,Dw hi];exact Jy hi
 obtain⟨a0,_,_,k0⟩:=hk _ (mem (i:=0) (by lia));refine⟨_,fun E Q q=>kat_kind (T:=Tv) f1 (by lia) f3 (gx k0) q,fun Q q=>srt Q q _ fun i j C hi' hj' hC=>?_⟩;obtain⟨a,ra,ea,ka⟩:=hk _ (mem hi');obtain⟨b,rb,eb,kb⟩:=hk _ (mem hj');obtain⟨p,o,n,jts,e1,e2,e3,e4⟩:=at_N hF r hi' ea;obtain⟨p',o',n',jts',g1,g2,g3,g4⟩:=at_N hF r hj' eb;obtain⟨bb,hb⟩:=ok.lt _ (mem hi') _ (mem hj');have dp:=ok.dp _ (mem hi') _ (mem hj');have ec:cD (xs.getD i .non) (xs.getD j .non)=bb:=by unfold cD;rw[hb];cases bb<;>rfl
 simp only[ec]at hC;rw[ea,eb]at hb dp;show wpAny (model prog w) A (keyLt' (tuples' (Tv != Value.type "tuple")) (qc.getD i .none) (qc.getD j .none)) C (fun _ _=>False) s;rw[e1,g1];refine kat_lt e2 e3 g2 g3 ?_;refine lN hF hA (a::ra) (b::rb) _ _ 0 bb _ (by rw[Bc]at dp;lia) (show Dc (a::ra) (b::rb)=some bb from hb) (fun hs _ x y rx ry ex ey=>?_) (by simp) e4 g4 hC;cases ex;cases ey;cases a with
 |int _=>cases ka;cases b<;>first|rfl|(cases kb;done)|(exact absurd (Fe kb) (by intro z;injection z with z;exact absurd z (by decide)))
 |str _=>cases ka;cases b<;>first|rfl|(cases kb;done)|(exact absurd (Fe kb) (by intro z;injection z with z;exact absurd z (by decide)))
 |tup _=>cases ka;exact absurd hs (by decide)
 |_=>cases ka
theorem Xy{xs:List T}{vs:List Value}(r:Reps w F xs vs):∀{p:List Nat},(∀i∈p,i<xs.length)->Reps w F (p.map fun i=>xs.getD i .non) (p.map fun i=>vs.getD i .none)
 |[],_=>rfl
 |i::p,h=>by have hi:=h i (.head _);obtain⟨v,hv,r1⟩:=r.get (Dw hi);refine Reps.cons ?_ (Xy r fun j hj=>h j (.tail _ hj));dsimp only;rw[Hj,Hj,hv,Dw hi];exact r1
end
section
variable {Y:Yc}{F:Fz}{s:Shared}
theorem Up.laidD{o:Obj}{h':Heap}{k:Nat}{d:Drawn}(hF:F.In s.heap)(hk:∀b o,s.heap.get? b=some o->h'.get? b=some o)(z:s.heap.get? a=none)(e:h'.get? a=some o):Up F s (fup F a o) {s with heap:=h',toks:=k,drawn:=d} :=
 have u:=Up.laid (k:=k) hF hk z e
 ⟨u.ext,rfl,id,u.ff,u.fh,u.nw⟩
theorem a9(hu:Y.Rm){E:Value->Shared->Prop}{t:T}{r:Value}(hF:F.In s.heap)(ht:Eo xs=some t)(h:∀R:List Value->Shared->Prop,(∀ys vs g k d,ys.Perm xs->Reps Y.w F ys vs->(∀b o,s.heap.get? b=some o->g.get? b=some o)->R vs {s with heap:=g,toks:=k,drawn:=d})->wpAny Y.M Y.A.in1 (collect r) R E s):wpAny Y.M Y.A (call (.builtin "sorted") [r]) (Res Y.w F s t) E s:=by
 obtain⟨ok,rfl⟩:=fQ ht;refine i6 (h _ fun ys vs g k d py r1 hk=>?_);rw[<-ou ok py];replace ok:=ok.perm py;clear h py;revert r1 ok;generalize ys=xs;intro r1 ok;have hl:=r1.length;refine⟨by rw[hl];exact ok.len,fun i j=>cD (xs.getD i .non) (xs.getD j .non),fun h2 A' g' hA' hk'=>jX (fun b o e=>hk' _ _ (hk _ _ (hF b o e))) (by lia) ok r1 h2,fun p c g' p1 p2 hk' hD=>?_⟩;generalize hs1:({s with heap:=g,toks:=k,drawn:=d}:Shared)=s1 at *;have hn:s.heap.get? s1.heap.objs.size=none:=by
  cases e:s.heap.get? s1.heap.objs.size with
  |none=>rfl
  |some o=>subst hs1;exact absurd (Cu (hk _ _ e)) (M6 _)
 have pl:∀i∈p,i<xs.length:=fun i hi=>by have:=List.mem_range.mp (p1.mem_iff.mp hi);lia
 have hp:p.length<=60:=by rw[p1.length_eq,Nc,hl];exact ok.len
 have U:=Up.laidD (h':=g') (k:=k) (d:=d) hF (fun b o e=>hk' _ _ (by subst hs1;exact hk _ _ e)) hn hD;have e1:({s1 with heap:=g'}:Shared)={s with heap:=g',toks:=k,drawn:=d}:=by subst hs1;rfl
 rw[e1];refine⟨_,U,_,_,c,rfl,Fq,by rw[Mh,Aq,Ew];lia,?_⟩;rw[mu ok (by rw[<-hl];exact p1) p2];exact(Xy r1 pl).mono (F9 (hF.none hn))
theorem nq{prog:Program}{w:World}{d:Addr}{en:Array DictEntry}{ep:Nat}(lo:(d==sysModules)=false):KdlSrc prog w "dict" d d en.size (fun i v=>∃e,en[i]?=some e/\v=e.key) (fun h=>RawD h d en ep) where
 type:=fun _ r=>r.ty
 there:=fun _ r=>⟨let⟨_,a,_⟩:=r;Cu a,let⟨_,a,_⟩:=r;Cu a⟩
 keep:=fun _ _ r hk=>r.to fun o e=>hk d (.inl rfl) o e
 notList:=by decide
 notTuple:=by decide
 hint:=fun _ _ _ _ r hq=>kdl_hint_dict r.ty hq
 iter:=fun A s hh r=>⟨_,_,(fun _ _ hq=>Yk lo r hq),(show Walks prog w A s.heap.objs.size [s.heap.objs.size,d] [s.heap.objs.size] en.size (fun i v=>∃e,en[i]?=some e/\v=e.key) (fun i h=>h.IsKeyIter s.heap.objs.size d i en.size ep/\RawD h d en ep)from
  have hne:d≠s.heap.objs.size:=Es (let⟨_,a,_⟩:=r;Cu a)
  {sub:=fun b hb=>by simp at hb;simp[hb]
   frame:=fun _ _ _ st hk=>⟨st.1.at fun o e=>hk _ (by simp) o e,st.2.to fun o e=>hk d (by simp) o e⟩
   item:=fun i s Q E hi st hQ=>aD st.1 st.2 hi fun g t' hs=>hQ _ g s.toks ⟨en[i],by simp[hi],rfl⟩ ⟨t',st.2.to fun o e=>hs.extBut d o hne e⟩ fun b o hb e=>hs.extBut b o (fun h=>hb (by simp[h])) e
   done:=fun s Q E st hQ=>Yw hh st.1 st.2 (Nat.le_refl _) fun g he=>hQ g s.toks fun b o hb e=>he b o (fun h=>hb (by simp[h])) e
   self:=fun _ _ _ _ st hQ=>wpAny_pyIter_keyiter st.1 hQ}),⟨⟨_,Cv _ rfl,rfl,rfl⟩,r.to fun o e=>Bb _ e⟩⟩
theorem ku{en:Array DictEntry}{acc:Array Value}(h:ItemsOf (fun i v=>∃e,en[i]?=some e/\v=e.key) acc en.size):acc.toList=en.toList.map (·.key):=by
 apply List.ext_getElem?;intro i;by_cases hi:i<en.size
 .have hi':i<acc.size:=by rw[h.1];exact hi
  obtain⟨e,he,hv⟩:=h.2 i acc[i] (by simp[hi']);rw[Gb,Hb hi',hv,Dm,Gb,he];rfl
 .rw[Gx (by rw[Array.length_toList,h.1];lia),Gx (by simp;lia)]
theorem qC(hu:Y.Rm)(cm:Y.calm):Bl Y (.builtin "sorted") (Gg .sorted):=fun{s F x t u E}S r h=>by
 cases x with
 |lst xs=>
  obtain⟨a,qc,n,rfl,f,z,r⟩:=r;exact a9 hu S.fh h fun R q=>collect_list (show s.heap.IsList a qc.toList.toArray from⟨_,S.fh _ _ f,rfl,n,rfl⟩) (q xs qc.toList _ s.toks s.drawn (.refl _) r fun b o e=>by rw[Kw _ _ _ _ (Es (Cu e))];exact Bb _ e) (by rw[E7];exact z)
 |dic ks vs=>obtain⟨a,o,es,ep,rfl,f,m,d,r,_⟩:=r;refine a9 hu S.fh h fun R q=>kdu_collect (nq (en:=es) (ep:=ep) m) (S.hd cm) ⟨o,S.fh _ _ f,d.ex,d.dt⟩ d.sz fun h' tk acc hk hacc=>?_;rw[ku hacc];exact q ks _ _ _ s.drawn (.refl _) r hk
 |_=>cases h
end
end
end Nb
section
namespace Nb
open PySem Spec PyProof.Rows Ev
section
variable {h:Heap}{w:World}{us:List Value}
variable {Y:Yc}{N:Str->Nat->Prop}{B:Bd}{pn:List (Addr×a7 Obj)}{ad:Nat->List Addr}{τ:List Sl}{F G:Fz}{s s' s1:Shared}{x y:Str}{i j:Nat}{is:List Nat}{ke ve:Expr}{pos p px apos cpos tp:Pos}{E:Value->Shared->Prop}{t k:T}{ts ks vs:List T}{u v kv:Value}{a d:Addr}{fk fv:Ev.Env->a7 T}{r:Ev.Env}
theorem St.big{P:Pc}{A:Around}{l:List PySem.Env}(h:St P A l F s):(s.heap.objs.size==sysModules)=false:=by have h1:mainGlobals<s.heap.objs.size:=(h.mod.glob.keeps h.bk).lt;have h2:sysModules<s.heap.objs.size:=Nat.lt_trans (by decide) h1;exact beq_eq_false_iff_ne.mpr (Ne.symm (Es h2))
theorem Dat.new(z:(h.objs.size==sysModules)=false):Dat w F (h.push {cls:=.type "dict",data:=.dict #[]}) h.objs.size [] [] :=
 ⟨_,#[],0,Cv _ rfl,z,⟨⟨rfl,rfl,rfl⟩,rfl,rfl,.nil,E9 _⟩,rfl,rfl⟩
theorem OwnD.vals(D:Dat w F h d ks us)(r:Reps w F vs us):OwnOk w F h [d] (.dic ks vs):=by obtain⟨o,es,ep,h1,h2,h3,h4,e⟩:=D;exact⟨rfl,o,es,ep,h1,h2,h3,h4,by subst e;exact r⟩
theorem aK:Lj Y N (.Dict [] [] pos) fun _=>some (.dic [] []):=fun{s F r sl E}A q=>by cases q;exact wpAny_Dict_empty ⟨_,F,rfl,Up.side (k:=s.toks) A.fh,A.fh.none Bs,Bs,OwnD.vals (Dat.new A.toSt.big) rfl⟩
theorem ft(hu:Y.Rm)(hk:Oke Y N ke fk)(hv:Oke Y N ve fv):Lj Y N (.Dict [some ke] [ve] pos) fun r=>(fk r).bind fun x=>(fv r).bind fun y=>if Bj [] x=true then some (.dic [x] [y])else none:=fun{s F r sl E}A q=>by
 obtain⟨x,e1,q⟩:=obs q;obtain⟨y,e2,q⟩:=obs q;split at q
 .rename_i hkk;cases q;refine wpAny_Dict_any rfl rfl (fun z=>nomatch z) (show 1<=15 by decide) ?_;have u0:Up F s F {s with heap:=s.heap.push {cls:=.type "dict",data:=.dict #[]} }:=Up.side (k:=s.toks) A.fh;have D0:Dat Y.w F (s.heap.push {cls:=.type "dict",data:=.dict #[]}) s.heap.objs.size [] []:=Dat.new A.toSt.big;refine pairTrees_cons_walk (thn (hk (A.up u0) e1) fun w s1 z=>?_);obtain⟨G1,u1,r1⟩:=z;refine thn (hv ((A.up u0).up u1) e2) fun w2 s2 z=>?_;obtain⟨G2,u2,r2⟩:=z;refine pairTrees_nil_walk ?_;have uu:=(u0.trans u1).trans u2;have D2:Dat Y.w G2 s2.heap s.heap.objs.size [] []:=OwnD.to D0 (fun o e=>u2.ext _ o (u1.ext _ o e)) (u1.ff.trans u2.ff) fun _ h=>h;have hA:Y.A.units+100<cLine:=hu;have dn:G2 s.heap.objs.size=none:=by
   cases q:G2 s.heap.objs.size with
   |none=>rfl
   |some o=>
    rcases(u1.trans u2).nw _ (by rw[q];simp)with w|w
    .exact absurd (A.fh.none Bs) w
    .rw[show(s.heap.push {cls:=.type "dict",data:=.dict #[]}).get? s.heap.objs.size=some _ from Cv _ rfl]at w;cases w
  have rk:=r1.mono u2.ff;unfold storeAll;rw[List.forIn_cons];refine Aa (Aa (Ru (A:=Y.A) (by lia) ⟨by lia,u2.fh,D2,hkk,rk⟩ (by decide) fun h' D3 hs=>Af ?_));show wpAny _ _ (forIn [] PUnit.unit _) _ _ _;rw[List.forIn_nil];refine Af ⟨_,G2,rfl,⟨fun b o e=>(hs.2 b fun z=>by rw[z,Bs]at e;cases e).trans (uu.ext b o e),uu.os,uu.bare,uu.ff,fun b o e=>(hs.2 b fun z=>by rw[z,dn]at e;cases e).trans (u2.fh b o e),uu.nw⟩,dn,Bs,?_⟩;have e1:Ax [] x=[x]:=rfl;have e2:Bh [] [] x w2=[w2]:=rfl;rw[e1,e2]at D3;exact OwnD.vals D3 ⟨_,_,rfl,r2,rfl⟩
 .cases q
theorem Fr.ownD(h:B.Fr pn ad τ F s)(hx:B.N[i]?=some x)(ht:τ[i]?=some (.dic ks vs)):∃d us,ad i=[d]/\Look B.toYc s.heap x (.ref d)/\Dat B.w F s.heap d ks us/\Reps B.w F vs us:=by
 obtain⟨⟨a,e,l⟩,q⟩:=h.slot i x _ hx ht;cases hd:ad i with
 |nil=>rw[hd]at e;cases e
 |cons b as=>rw[hd]at e q;cases e;obtain⟨rfl,o,es,ep,q1,q2,q3,q4,q5⟩:=q;exact⟨a,_,rfl,l,⟨o,es,ep,q1,q2,q3,q4,rfl⟩,q5⟩
theorem Dat.at(D:Dat w F h d ks us):∃o,h.get? d=some o/\o.cls=.type "dict"/\o.dict=none:=by obtain⟨o,_,_,q1,_,q2,_⟩:=D;exact⟨o,q1,q2.ex.1,q2.ex.2.1⟩
theorem Fr.swap{h':Heap}{tk:Nat}{sl sl':Sl}(h:B.Fr pn ad τ F s)(hx:B.N[i]?=some x)(ht:τ[i]?=some sl)(ha:ad i=[d])(l:Look B.toYc s.heap x (.ref d))(hs:Heap.SameBut d s.heap h')(q:OwnOk B.w F h' [d] sl'):∃ad',B.Fr pn ad' (τ.set i sl') F {s with heap:=h',toks:=tk} :=
 ⟨_,h.own' (d:=[d]) hx ht (fun b hb=>by rw[ha]at hb;exact hb) (fun b hb=>.inl (by rw[ha];exact hb)) (fun b hb=>by rw[omg hb];exact q.ex)
  (fun b o hb e=>(hs.2 b fun w=>hb (Me.mpr w)).trans e) rfl id fun lk=>.mk (lk _ l) q⟩
theorem Wv:∀{ks vs:List T}{us:List Value},us.length=ks.length->Reps w F vs us->Rep w F t v->Reps w F (Bh ks vs k t) (Bh ks us k v):=fun{ks vs us}hl r rv=>by
 rw[K6 (by rw[<-r.length];exact hl),K6 hl];cases Df ks k with
 |none=>exact r.app ⟨_,_,rfl,rv,rfl⟩
 |some i=>exact r.set i rv
theorem oM(hu:B.toYc.Rm)(is:List Nat)(hx:B.N[i]?=some x)(n:Nm x)(hk:Oke B.toYc (Nn B.N) ke fk)(hv:Oke B.toYc (Nn B.N) ve fv)(hs:swapsWith ve (some (.Subscript (.Name x px) ke tp)) pos.line B.env=pure false):PS B (.Assign [.Subscript (.Name x px) ke tp] ve pos) fun τ=>(fv (Au (frzAt is τ))).bind fun y=>(fk (Au (frzAt is τ))).bind fun k=>sh (frzAt is τ) i (Ms (frzAt is τ)[i]? k y):=fun{pn ad τ F s o}hF q=>by
 obtain⟨y,e1,q⟩:=obs q;obtain⟨k,e2,q⟩:=obs q;obtain⟨sl,e3,rfl⟩:=oms q;obtain⟨G,ad',le,h'⟩:=hF.frzAt is;have hu:B.A.units+100<cLine:=hu;cases ht:(frzAt is τ)[i]? with
 |none=>rw[ht]at e3;cases e3
 |some s0=>
  rw[ht]at e3;have lk:∃d,ad' i=[d]/\Look B.toYc s.heap x (.ref d):=by
   cases s0 with
   |own ts=>obtain⟨a,_,_,h1,h2,_⟩:=h'.ownL hx ht;exact⟨a,h1,h2⟩
   |dic ks vs=>obtain⟨a,_,h1,h2,_⟩:=h'.ownD hx ht;exact⟨a,h1,h2⟩
   |_=>cases e3
  obtain⟨d,ha,hl⟩:=lk;refine wpAny_Assign_Subscript (thn (hv h'.at e1) fun w1 s1 z=>?_) hs;obtain⟨G1,u1,r1⟩:=z;have h1:=h'.after u1;refine Mm h1.ok n (hl.up u1) (thn (hk h1.at e2) fun w2 s2 z=>?_);obtain⟨G2,u2,r2⟩:=z;have h2:=h1.after u2;have ry:=r1.mono u2.ff;have fin:∀{h':Heap}{tk:Nat},Heap.SameBut d s2.heap h'->OwnOk B.w G2 h' [d] sl->B.Post pn F (.nx ((frzAt is τ).set i sl)) .next {s2 with heap:=h',toks:=tk}:=fun{h3 tk}hs q=>by obtain⟨ad3,h3⟩:=h2.swap (tk:=tk) hx ht ha ((hl.up u1).up u2) hs q;exact⟨_,_,(le.trans u1.ff).trans u2.ff,h3⟩
  cases s0 with
  |own ts=>
   cases k with
   |int kk=>obtain⟨jj,e4,rfl⟩:=oms e3;obtain⟨tk,rfl⟩:=r2;obtain⟨a2,qc,m,q1,_,q2,q3,q4,q5⟩:=h2.ownL hx ht;rw[ha]at q1;cases q1;refine pO q2 q3 (by rw[q4];exact e4) (fin (tk:=s2.toks) (Ij ..) ?_);exact⟨rfl,qc.setIfInBounds jj w1,_,by rw[Heap.get?_update_self _ q2 rfl];rfl,by simpa using q3,by simpa using q5.set jj ry⟩
   |_=>cases e3
  |dic ks vs=>
   replace e3:(if Bj ks k=true/\ks.length<SZ then some (Sl.dic (Ax ks k) (Bh ks vs k y))else none)=some sl:=e3;split at e3
   .rename_i hz;cases e3;obtain⟨a2,us,q1,_,D,rv⟩:=h2.ownD hx ht;rw[ha]at q1;cases q1;exact a8 (rdy hu h2.up.fh D hz.1 r2) (Nat.lt_of_lt_of_le hz.2 (by rw[Ew];exact Dn _)) fun h3 D3 hs=>fin hs (OwnD.vals D3 (Wv D.len rv ry))
   .cases e3
  |_=>cases e3
end
section
open W
theorem pJ:typeLookup (.type "list") "keys"=pure none:=by rw[typeLookup_type,builtinLookup_eq_fast];kernel_rfl
theorem gG:typeLookup (.type "list") "__getattr__"=pure none:=by rw[typeLookup_type,builtinLookup_eq_fast];kernel_rfl
section
variable {prog:Program}{w:World}{A:Around}{E:Value->Shared->Prop}{Q:a7 Value->Shared->Prop}{s:Shared}{a:Addr}{xs:Array Value}{n:Nat}{sl:Array (a7 Value)}
theorem gZ(hx:s.heap.get? a=some {cls:=.type "list",dict:=none,data:=.seq xs n,slots:=sl})(hA:A.handled=none)(h:∀h' tk,(∀b o,s.heap.get? b=some o->h'.get? b=some o)->Q none {s with heap:=h',toks:=tk}):wpAny (model prog w) A (getAttr? (.ref a) "keys") Q E s:=by
 obtain⟨hp,g,d,tk,os⟩:=s;have hT:∀t,(⟨hp,g,d,t,os⟩:Shared).TypeIs (.ref a) "list":=fun t=>⟨_,hx,rfl⟩;have f1:=sub_AttributeError;have f3:=F.slot_list_getattribute.lookup;have f4:=F.slot_list_getattribute.bind (.ref a);have f5:=gG;unfold getAttr? getAttrBy? getAttrBy
 repeat(any_goals (first|assumption|exact hT _|wp_step))
 refine codeAny_call_builtin F.slot_list_getattribute.plain F.entry_list_ga (F.slot_list_getattribute.check _ _ _ _ _ _ _ _ (hT _) (F.args_list_getattribute_2 _ _) ?_);have f6:=pJ;have hT':=hT (tk+1);unfold Builtin.«object.__getattribute__»
 repeat(any_goals (first|assumption|exact hT _|wp_step))
 refine wpAny_raiseAttrError (by first|exact hA|simp[hA]) (fun h' tk' e hx'=>?_) (attrMsg_fits (by decide +kernel) (by rw[Ew];decide +kernel));obtain⟨t',u',he⟩:=hx'.there;show wpAny _ _ (getattributeRaised _ _ _ _ _ _ _) _ _ _;unfold getattributeRaised
 repeat(any_goals (first|assumption|wp_step))
 exact h h' tk' hx'.keeps
end
theorem Z4:entryFor table "dict.update.loop"=some Builtin.«dict.update.loop»:=entryFor_of_tree (by kernel_rfl)
theorem Ph:plainId "dict.update.loop"=true:=by decide +kernel
theorem pA{ks:List T}{k:T}:(Ax ks k).length<=ks.length+1:=by rw[Mz];split<;>simp
section
variable {prog:Program}{w:World}{F:Fz}{A:Around}{R:Result->Shared->Prop}{I D:Addr}{fp wr:List Addr}{G:Array GenState->Array GenState->Prop}{P:Nat->Value->Prop}{St:Nat->Shared->Prop}
theorem dv{x:T}{l ks vs:List T}{t:T}(h:Hg (x::l) ks vs=some t):∃k y,x=.tup [k,y]/\Bj ks k=true/\Hg l (Ax ks k) (Bh ks vs k y)=some t:=by
 unfold Hg at h;split at h
 .rename_i e;cases e
 .rename_i k v r e;cases e;split at h
  .exact⟨k,v,rfl,‹_›,h⟩
  .cases h
 .cases h
theorem oH{n:Nat}{xs:List T}{qc:Array Value}{ks' vs':List T}(W:WalksS prog w A.in1 I fp wr G n P St)(hP:∀i v,P i v->qc[i]?=some v)(hf:D∉fp)(hFw:∀c∈wr,F c=none)(hFD:F D=none)(hn:n<=1000)(hu:A.units+60<cLine)(r:Reps w F xs qc.toList):∀(l:List T)(i:Nat)(ks vs:List T)(us:List Value)(s:Shared),xs.drop i=l->i+l.length=n->St i s->F.In s.heap->Dat w F s.heap D ks us->Reps w F vs us->ks.length<=i->Hg l ks vs=some (.dic ks' vs') ->(∀s' us',Moved (D::wr) G s s'->F.In s'.heap->Dat w F s'.heap D ks' us'->Reps w F vs' us'->R (.ok (.ret .none)) s')->codeAny (model prog w) A (.builtin "dict.update.loop" ⟨[.ref D,.ref I,rawInt i,.none],[]⟩) R s:=by
 have hsu:∀c∈wr,c∈D::wr:=fun c hc=>G8 _ hc;have hw:D∉wr:=fun z=>hf (W.sub _ z);have kF:∀{s s1:Shared},Moved wr G s s1->F.In s.heap->F.In s1.heap:=fun mv hF b o e=>mv.heap b o (fun z=>by rw[hFw b z]at e;cases e) (hF b o e);have kD:∀{s s1:Shared}{ks us},Moved wr G s s1->Dat w F s.heap D ks us->Dat w F s1.heap D ks us:=fun mv ⟨o,es,ep,h1,h2⟩=>⟨o,es,ep,mv.heap _ _ hw h1,h2⟩;intro l
 induction l with
 |nil=>
  intro i ks vs us s e1 e2 st hF hD rv hl hp q;cases hp;have e3:i=n:=by simpa using e2
  subst e3;refine codeAny_builtin Z4 (show wpAny _ _ _ _ _ _ from ?_);rw[Around.under_plainId Ph _];show wpAny _ A.in1 (pyNext (.ref I) >>= _) _ _ s;refine Aa (W.done s _ _ st fun s1 mv=>?_);show wpAny _ A.in1 (Builtin.Dict.addKeywords D [] >>= fun _=>ret Value.none) _ _ s1;exact Aa (show wpAny _ _ (pure ()) _ _ _ from Af (Af (q s1 us (mv.mono hsu) (kF mv hF) (kD mv hD) rv)))
 |cons x l ih=>
  intro i ks vs us s e1 e2 st hF hD rv hl hp q;have lt:i<n:=by rw[Eb]at e2;lia
  have ex:xs[i]?=some x:=by rw[<-List.head?_drop,e1];rfl
  obtain⟨u,hu1,ru⟩:=r.get ex;refine codeAny_builtin Z4 (show wpAny _ _ _ _ _ _ from ?_);rw[Around.under_plainId Ph _];show wpAny _ A.in1 (pyNext (.ref I) >>= _) _ _ s;refine Aa (W.item i s _ _ lt st fun v s1 hPv st1 mv=>?_);have ev:v=u:=by rw[Gb,hP i v hPv]at hu1;exact Fe hu1
  subst ev;obtain⟨k,y,rfl,hkk,hp⟩:=dv hp;obtain⟨a,o,jts,m,e3,f,c,d,_,kv,_,e4,rk,v2,_,e5,ry,e6⟩:=ru;cases e6;subst e3 e5;have ej:jts=#[kv,v2]:=Array.toList_inj.mp e4;subst ej;have hF1:=kF mv hF;have hD1:=kD mv hD;dsimp only;refine Aa (E6 (Aa (wpAny_tryCatch ?_)));unfold Builtin.Dict.pairItems;refine Aa (Looks.here (show Looks _ s1.heap (typeOf (.ref a)) o.cls from(Looks.ld (hF1 _ _ f)).andThen .now) ?_);rw[c,if_pos (by decide)];refine Aa (Looks.here (show Looks _ s1.heap (seqItems? (.ref a)) (some #[kv,v2])from(Looks.ld (hF1 _ _ f)).andThen (by rw[d];exact .now)) (Af ?_));show wpAny _ _ (holding [kv,v2] (dictSet D kv v2)) _ _ s1;refine E6 (Ru (A:=A.in1) (by show A.units+1+50<cLine;lia) ⟨by show A.units+1+52<cLine;lia,hF1,hD1,hkk,rk⟩ (by rw[Ew];lia) fun h' hD2 hs=>?_);refine Af ⟨plainId_quiet Ph _,ih (i+1) _ _ _ _ (by rw[<-List.tail_drop,e1];rfl) (by rw[Eb]at e2;lia) ?_ (fun b o e=>?_) hD2 (Wv hD.len rv ry) (Cr pA (Nat.succ_le_succ hl)) hp fun s2 us2 mv2=>q s2 us2 ?_⟩
  .exact W.frame _ s1 _ _ st1 (Nat.le_add_right _ _) fun c hc o e=>by show h'.get? c=some o;rw[hs.2 c fun z:c=D=>hf (by rw[<-z];exact hc)];exact e
  .show h'.get? b=some o;rw[hs.2 b fun z:b=D=>by rw[z,hFD]at e;cases e];exact hF1 b o e
  .refine Moved.trans W.gtrans ((mv.mono hsu).then_heap (Nat.le_add_right _ _) fun c o hc e=>?_) mv2;rw[hs.2 c fun z:c=D=>hc (by rw[z];exact J8)];exact e
end
section
variable {Y:Yc}
theorem jd(hu:Y.Rm)(cm:Y.calm):Bl Y (.type "dict") (Gg .dict):=fun{s F x t u E}S r h=>by
 cases x with
 |lst xs=>
  have h:(if xs.length<=1000 then Hg xs [] []else none)=some t:=h;split at h
  .rename_i h1000;obtain⟨l,qc,m,rfl,f,z,r⟩:=r;obtain⟨ks',vs',rfl⟩:∃ks' vs',t=.dic ks' vs':=by
    have go:∀{l:List T}{ks vs:List T},Hg l ks vs=some t->∃ks' vs',t=.dic ks' vs':=by
     intro l
     induction l with
     |nil=>intro ks vs e;cases e;exact⟨_,_,rfl⟩
     |cons x l ih=>intro ks vs e;obtain⟨_,_,_,_,e⟩:=dv e;exact ih e
    exact go h
   have hl:=S.fh _ _ f;have hsz:qc.size=xs.length:=E8 r;refine callType_codes (Q₁:=fun obj s₁=>obj=.ref s.heap.objs.size/\s₁={s with heap:=s.heap.push {cls:=.type "dict",data:=.dict #[]} }) PySem.F.kt_called_dict (PySem.F.kt_typeCall_dict_1 _) PySem.F.entry_dict_init (kt_code_dict_new _ ⟨rfl,rfl⟩) ?_;rintro obj s₁ ⟨rfl,rfl⟩;have hty:({s with heap:=s.heap.push {cls:=.type "dict",data:=.dict #[]} }:Shared).TypeIs (.ref s.heap.objs.size) "dict":=⟨_,Cv _ rfl,rfl⟩;have hl1:=Bb {cls:=.type "dict",data:=.dict #[]} hl;refine⟨hty,PySem.F.args_dict_init_2 _ _,?_⟩;unfold Builtin.«dict.__init__»;refine Aa ?_;unfold Builtin.Dict.selfAndRest;refine Aa (wpAny_notOrdered_dict hty ?_);show wpAny _ _ (pure (s.heap.objs.size,[Value.ref l])) _ _ _;refine Af ?_;show wpAny _ _ (Builtin.Dict.updateFrom "dict.__init__" s.heap.objs.size (.ref l) [] .none) _ _ _;unfold Builtin.Dict.updateFrom;refine Aa (wpAny_typeOf (show Shared.TypeIs _ (.ref l) "list" from⟨_,hl1,rfl⟩) ?_);rw[if_pos (by decide)];refine wpAny_bind (gZ hl1 (by simp[S.hd cm]) fun h' tk' kp=>?_);rw[if_pos (show(none:a7 Value).isNone=true from rfl)];refine Aa (wpAny_rule ?_);have hl2:=kp _ _ hl1;have kp':∀b o,s.heap.get? b=some o->h'.get? b=some o:=fun b o e=>kp _ _ (Bb _ e);refine Aa (wpAny_pyIter_list (items:=qc) ⟨_,hl2,rfl,m,rfl⟩ (Af ⟨plainId_quiet Ph _,?_⟩));have ll:l<h'.objs.size:=Cu hl2;have hD0:h'.get? s.heap.objs.size=some {cls:=.type "dict",data:=.dict #[]}:=kp _ _ (Cv _ rfl);have lD:s.heap.objs.size<h'.objs.size:=Cu hD0;have ll0:l<s.heap.objs.size:=Cu hl;have W:=(Walks.list (prog:=Y.prog) (w:=Y.w) (A:=Y.A.in1.in1) (by simp[S.hd cm]) h'.objs.size l (Nat.ne_of_lt ll) qc).toS;have nI:F h'.objs.size=none:=S.fh.none (Heap.get?_none_of_le (Nat.le_of_lt lD));have nD:F s.heap.objs.size=none:=S.fh.none Bs;refine oH (F:=F) (D:=s.heap.objs.size) (xs:=xs) (qc:=qc) W (fun i v h=>h) ?_ (fun c hc=>by rw[omg hc];exact nI) nD (by lia) (by show Y.A.units+1+60<cLine;lia) r xs 0 [] [] [] _ rfl (by lia) ?_ (fun b o e=>Bb _ (kp' b o (S.fh b o e)))
    ⟨_,#[],0,Bb _ hD0,S.big,⟨⟨rfl,rfl,rfl⟩,rfl,rfl,.nil,E9 _⟩,rfl,rfl⟩ rfl (E9 _) h fun s' us' mv hF' hD' rv=>?_
   .simp only[List.mem_cons,List.not_mem_nil,or_false,not_or];exact⟨Es lD,Nat.ne_of_gt ll0⟩
   .exact⟨⟨_,Cv _ rfl,rfl,rfl⟩,⟨_,Bb _ hl2,rfl,m,rfl⟩⟩
   .obtain⟨g3,gs3,d3,tk3,os3⟩:=s';have eg:gs3=s.gens:=mv.gens;have ed:d3=s.drawn:=mv.drawn;have eo:os3=s.os:=mv.os;subst eg;subst ed;subst eo;have kk:∀b o,s.heap.get? b=some o->g3.get? b=some o:=fun b o e=>mv.heap b o (by have hb:=Cu e;simp only[List.mem_cons,List.not_mem_nil,or_false,not_or];exact⟨Es hb,Es (Nat.lt_trans hb lD)⟩) (Bb _ (kp' _ _ e));obtain⟨o,es,ep,h1,h2,h3,h4,h5⟩:=hD';subst h5;have le:=F9 (F:=F) (a:=s.heap.objs.size) (o:=o) nD;exact⟨rfl,_,Up.laid (h':=g3) (k:=tk3) S.fh kk Bs h1,_,o,es,ep,rfl,Fq,h2,h3,h4.mono le,rv.mono le⟩
  .cases h
 |_=>cases h
end
end
end Nb
section
namespace Nb
open PySem Ev
section
def Dh:List Str->Str->a7 Nat
 |[],_=>none
 |y::r,x=>if y==x then some 0 else(Dh r x).map (·+1)
structure Tc where
 sc:Scope
 nm:List Str
def Ls(sc:Scope)(x:Str):Bool:=match sc.names.lookup x with
 |some .local=>true
 |some .cell=>true
 |some .free=>true
 |_=>false
def Ea(sc:Scope)(x:Str):Bool:=sc.names.lookup x==some .globalImplicit
def Ec(x:Str):Bool:=!(x==("__debug__":Str))&&!(x==("__classdict__":Str))&&!(x==("__name__":Str))&&!(x==(".0":Str))
def Fi(sc:Scope)(x:Str):Bool:=Ec x&&(sc.names.lookup x==some .local||sc.names.lookup x==some .cell)
def Tc.N(c:Tc)(x:Str)(i:Nat):Prop:=Ec x=true/\Ls c.sc x=true/\Dh c.nm x=some i
def Kv:Expr->a7 (List Str)
 |.Name x _=>some [x]
 |.Tuple es _ _=>es.mapM fun e=>match e with
  |.Name x _=>some x
  |_=>none
 |_=>none
def J1:Expr->Bool
 |.Tuple ..=>true
 |_=>false
def R6:List Str->Bool
 |[]=>true
 |x::r=>!r.contains x&&R6 r
def Qe(out sc:Scope)(xs:List Str):Bool :=
 sc.kind==.function&&R6 xs&&(xs.all (Fi sc)) &&
 (sc.names.all fun p=>match p.2 with
  |.free=>(sc.names.lookup p.1==some .free)&&(out.names.lookup p.1==some .cell||out.names.lookup p.1==some .free)
  |.local=>(sc.names.lookup p.1==some .local)&&(xs.contains p.1||p.1==(".0":Str))
  |.cell=>(sc.names.lookup p.1==some .cell)&&xs.contains p.1
  |_=>true)
theorem M1:∀{l:List Str}{x:Str}{i:Nat},Dh l x=some i->l[i]?=some x
 |[],_,_,h=>by cases h
 |y::r,x,i,h=>by
  unfold Dh at h;split at h
  .rename_i e;cases h;rw[Fh e];rfl
  .obtain⟨j,hj,rfl⟩:=oms h;simpa using M1 hj
theorem aV:∀{l r:List Str}{x:Str}{i:Nat},Dh (l++r) x=some i->(Dh l x=some i/\i<l.length)\/(x∉l/\l.length<=i/\Dh r x=some (i-l.length))
 |[],r,x,i,h=>.inr ⟨by simp,Nat.zero_le _,by simpa using h⟩
 |y::l,r,x,i,h=>by
  rw[List.cons_append,Dh]at h;split at h
  .rename_i e;cases h;left;rw[Dh,if_pos e];exact⟨rfl,by simp⟩
  .rename_i e;obtain⟨j,hj,rfl⟩:=oms h;rcases aV hj with⟨h1,h2⟩|⟨h1,h2,h3⟩
   .left;rw[Dh,if_neg e,h1];exact⟨rfl,by simpa using h2⟩
   .right;refine⟨fun z=>?_,by simpa using h2,?_⟩
    .rcases omc z with q|q
     .exact e (by rw[q];exact Gu _)
     .exact h1 q
    .rw[h3,Eb,show j+1-(l.length+1)=j-l.length by lia]
theorem Y1:∀{xs:List Str},R6 xs=true->xs.Nodup
 |[],_=>R7
 |x::r,h=>by simp only[R6,Bool.and_eq_true,Bool.not_eq_true']at h;refine Er.mpr ⟨fun z=>?_,Y1 h.2⟩;have:=h.1;rw[List.contains_iff_mem.mpr z]at this;cases this
structure Ic(out sc:Scope)(xs:List Str):Prop where
 kind:sc.kind=.function
 nd:xs.Nodup
 own:∀x∈xs,Ec x=true/\(sc.names.lookup x=some .local\/sc.names.lookup x=some .cell)
 free:∀y∈sc.names,y.2=.free->sc.names.lookup y.1=some .free/\(out.names.lookup y.1=some .cell\/out.names.lookup y.1=some .free)
 loc:∀y∈sc.names,y.2=.local->sc.names.lookup y.1=some .local/\(y.1∈xs\/y.1=".0")
 cel:∀y∈sc.names,y.2=.cell->sc.names.lookup y.1=some .cell/\y.1∈xs
theorem Qr{sc:Scope}{x:Str}(h:Fi sc x=true):Ec x=true/\(sc.names.lookup x=some .local\/sc.names.lookup x=some .cell):=by simpa[Fi,Bool.and_eq_true,Bool.or_eq_true]using h
theorem bR{out sc:Scope}{xs:List Str}(h:Qe out sc xs=true):Ic out sc xs:=by
 simp only[Qe,Bool.and_eq_true]at h;obtain⟨⟨⟨h1,h2⟩,h3⟩,h4⟩:=h;have all:=oml h4;refine⟨by simpa using h1,Y1 h2,fun x hx=>Qr (oml h3 x hx),fun y hy e=>?_,fun y hy e=>?_,fun y hy e=>?_⟩<;>(have q:=all y hy;rw[e]at q;simp only[Bool.and_eq_true,Bool.or_eq_true,beq_iff_eq]at q)
 .exact q
 .exact⟨q.1,q.2.imp (fun z=>List.contains_iff_mem.mp z) id⟩
 .exact⟨q.1,List.contains_iff_mem.mp q.2⟩
end
end Nb
namespace L2
open PySem
variable {scope:Scope}{env:Env}
def F2(env:Env):List (Str×NameKind)->List (Str×Addr)->List (Str×Addr)
 |[],acc=>acc
 |(n,k)::r,acc=>if k==.free then F2 env r ((n,(env.cells.lookup n).getD 0)::acc)else F2 env r acc
theorem Vv{env:Env}(f:Str×NameKind->List (Str×Addr)->Sem (ForInStep (List (Str×Addr))))(hf:∀n k cs,f (n,k) cs=if k==.free then(do let a <-cellOf env n;pure (ForInStep.yield ((n,a)::cs)))else pure (.yield cs)):∀(names:List (Str×NameKind))(acc:List (Str×Addr)),(∀y∈names,y.2=.free->∃c,env.cells.lookup y.1=some c)->(forIn names acc f:Sem _)=pure (F2 env names acc)
 |[],acc,_=>rfl
 |(n,k)::r,acc,h=>by
  rw[List.forIn_cons,hf];unfold F2;by_cases hk:(k==.free)=true
  .rw[if_pos hk,if_pos hk];obtain⟨c,hc⟩:=h (n,k) List.mem_cons_self (by simpa using hk);have e:cellOf env n=pure c:=by unfold cellOf;rw[hc]
   rw[e,hc];simp only[pure_bind,Option.getD_some];exact Vv f hf r _ fun y hy=>h y (G8 _ hy)
  .rw[if_neg hk,if_neg hk];simp only[pure_bind];exact Vv f hf r _ fun y hy=>h y (G8 _ hy)
theorem To(h:∀y∈scope.names,y.2=.free->∃c,env.cells.lookup y.1=some c):closureFor scope env=pure (F2 env scope.names []):=by simp only[closureFor];rw[Vv (env:=env) _ (fun n k cs=>by by_cases hk:(k==NameKind.free)=true<;>simp[hk]) scope.names [] h];simp only[pure_bind]
theorem Qp{env:Env}:∀(names:List (Str×NameKind))(acc:List (Str×Addr)),(∀x c,acc.lookup x=some c->env.cells.lookup x=some c)->(∀y∈names,y.2=.free->∃c,env.cells.lookup y.1=some c) ->∀x c,(F2 env names acc).lookup x=some c->env.cells.lookup x=some c
 |[],acc,h,_,x,c,e=>h x c e
 |(n,k)::r,acc,h,hn,x,c,e=>by
  unfold F2 at e;have hr:∀y∈r,y.2=.free->∃c,env.cells.lookup y.1=some c:=fun y hy=>hn y (G8 _ hy);by_cases hk:(k==.free)=true
  .rw[if_pos hk]at e;obtain⟨c',hc'⟩:=hn (n,k) List.mem_cons_self (by simpa using hk);refine Qp r _ (fun x c e=>?_) hr x c e;rw[Ga]at e;cases hb:x==n with
   |true=>rw[hb]at e;have e':some ((env.cells.lookup n).getD 0)=some c:=e;rw[hc']at e';cases e';rw[Ki.mp hb];exact hc'
   |false=>rw[hb]at e;exact h x c e
  .rw[if_neg hk]at e;exact Qp r acc h hr x c e
theorem Oa{env:Env}{x:Str}:∀(names:List (Str×NameKind))(acc:List (Str×Addr)),((x,NameKind.free)∈names\/(acc.lookup x).isSome=true)->((F2 env names acc).lookup x).isSome=true
 |[],acc,h=>h.elim (fun z=>nomatch z) id
 |(n,k)::r,acc,h=>by
  unfold F2;have up:∀a:Addr,(acc.lookup x).isSome=true->(List.lookup x ((n,a)::acc)).isSome=true:=fun a z=>by
   rw[Ga];cases x==n with
   |true=>rfl
   |false=>exact z
  by_cases hk:(k==.free)=true
  .rw[if_pos hk];refine Oa r _ ?_;rcases h with h|h
   .rcases omc h with e|e
    .cases e;right;rw[Ga,Gu];rfl
    .exact .inl e
   .exact .inr (up _ h)
  .rw[if_neg hk];refine Oa r _ ?_;rcases h with h|h
   .rcases omc h with e|e
    .cases e;exact absurd rfl hk
    .exact .inl e
   .exact .inr h
theorem ja{x:Str}{names:List (Str×NameKind)}(hn:∀y∈names,y.2=.free->∃c,env.cells.lookup y.1=some c)(h:(x,NameKind.free)∈names):(F2 env names []).lookup x=env.cells.lookup x:=by obtain⟨c,hc⟩:=Option.isSome_iff_exists.mp (Oa (env:=env) names [] (.inl h));rw[hc,Qp names [] (fun _ _ e=>by cases e) hn x c hc]
theorem M9:∀(names:List (Str×NameKind))(n:Nat)(acc:List (Str×Addr)),cellsFrom n names acc=cellsFrom n names []++acc
 |[],n,acc=>rfl
 |(x,k)::r,n,acc=>by
  unfold cellsFrom;by_cases hk:(k==.cell)=true
  .rw[if_pos hk,if_pos hk,M9 r (n+1) ((x,n)::acc),M9 r (n+1) [(x,n)],K9];rfl
  .rw[if_neg hk,if_neg hk];exact M9 r n acc
theorem Pv{x:Str}{c:Addr}:∀(names:List (Str×NameKind))(n:Nat),(x,c)∈cellsFrom n names []->n<=c/\(x,NameKind.cell)∈names
 |[],n,h=>by cases h
 |(y,k)::r,n,h=>by
  unfold cellsFrom at h;by_cases hk:(k==.cell)=true
  .rw[if_pos hk,M9]at h;have ek:k=.cell:=by simpa using hk
   rcases oma h with h|h
   .obtain⟨h1,h2⟩:=Pv r (n+1) h;exact⟨by lia,G8 _ h2⟩
   .have e:(x,c)=(y,n):=by simpa using h
    cases e;exact⟨Dn _,by rw[ek];exact J8⟩
  .rw[if_neg hk]at h;obtain⟨h1,h2⟩:=Pv r n h;exact⟨h1,G8 _ h2⟩
theorem Wq{x:Str}:∀(names:List (Str×NameKind))(n:Nat)(acc:List (Str×Addr)),((x,NameKind.cell)∈names\/(acc.lookup x).isSome=true)->((cellsFrom n names acc).lookup x).isSome=true
 |[],_,acc,h=>h.elim (fun z=>nomatch z) id
 |(y,k)::r,n,acc,h=>by
  unfold cellsFrom;by_cases hk:(k==.cell)=true
  .rw[if_pos hk];refine Wq r _ _ ?_;rcases h with h|h
   .rcases omc h with e|e
    .cases e;right;rw[Ga,Gu];rfl
    .exact .inl e
   .right;rw[Ga];cases x==y with
    |true=>rfl
    |false=>exact h
  .rw[if_neg hk];refine Wq r _ _ ?_;rcases h with h|h
   .rcases omc h with e|e
    .cases e;exact absurd rfl hk
    .exact .inl e
   .exact .inr h
theorem jg{x:Str}{c:Addr}{names:List (Str×NameKind)}{n:Nat}{acc:List (Str×Addr)}(h:(cellsFrom n names acc).lookup x=some c):(x,c)∈cellsFrom n names []\/((cellsFrom n names []).lookup x=none/\acc.lookup x=some c):=by
 rw[M9,List.lookup_append]at h;cases e:(cellsFrom n names []).lookup x with
 |none=>rw[e]at h;exact .inr ⟨rfl,by simpa using h⟩
 |some d=>
  rw[e]at h;have h':some d=some c:=by simpa using h
  cases h';exact .inl (mem_of_lookup e)
section
variable {M:Model}{A:Around}{E:Value->Shared->Prop}{s:Shared}
theorem lW{globals:Addr}{cl:List (Str×Addr)}{qual:Str}{Q:Env->Shared->Prop}(hQ:Q {scope:=scope,locals:=s.heap.objs.size,globals:=globals,cells:=cellsFrom (s.heap.objs.size+1) scope.names cl,qual:=qual,func:=none,code:=env.code,frame:=env.frame,builtins:=env.builtins} {s with heap:=pushCells (s.heap.push {cls:=.type "dict",data:=.dict #[]}) scope.names}):wpAny M A (newFunctionEnv scope globals cl [] qual none .none (some env)) Q E s:=by
 simp only[newFunctionEnv,Option.isSome_some,if_true];refine Aa (wpAny_alloc ?_);refine wpAny_bind (wpAny_layCells _ (fun name kind cells=>by cases hkc:kind==NameKind.cell<;>simp[]) _ _ _ _ ?_);rw[show({s with heap:=s.heap.push {cls:=.type "dict",data:=.dict #[]} }:Shared).heap.objs.size=s.heap.objs.size+1 from Gw ..];simp only[List.forIn_nil,pure_bind];exact Af hQ
end
end L2
section
namespace Nb
open PySem Spec PyProof.Rows Ev L2
section
theorem bG{env:PySem.Env}:∀(names:List (Str×NameKind))(x:Str),(names.map fun(n,k)=>if(k==NameKind.free&&env.scope.kind==.function&&env.kindOf n==some .cell)then(n,NameKind.cell)else(n,k)).lookup x =(match names.lookup x with|some .free=>if(env.scope.kind==.function&&env.kindOf x==some .cell)then some .cell else some .free|o=>o)
 |[],_=>rfl
 |(n,k)::r,x=>by
  rw[Ba];cases hx:x==n with
  |false=>
   have e:∀k',List.lookup x ((n,k')::(r.map fun(n,k)=>if(k==NameKind.free&&env.scope.kind==.function&&env.kindOf n==some .cell)then(n,NameKind.cell)else(n,k)))=List.lookup x (r.map fun(n,k)=>if(k==NameKind.free&&env.scope.kind==.function&&env.kindOf n==some .cell)then(n,NameKind.cell)else(n,k)):=fun k'=>by rw[Ga,hx]
   have e2:List.lookup x ((n,k)::r)=List.lookup x r:=by rw[Ga,hx]
   rw[e2,<-bG r x];show List.lookup x ((if(k==NameKind.free&&env.scope.kind==.function&&env.kindOf n==some .cell)=true then(n,NameKind.cell)else(n,k))::_)=_;by_cases hc:(k==NameKind.free&&env.scope.kind==.function&&env.kindOf n==some .cell)=true
   .rw[if_pos hc];exact e _
   .rw[if_neg hc];exact e _
  |true=>
   have en:x=n:=Ki.mp hx;subst en;have e2:List.lookup x ((x,k)::r)=some k:=by rw[Ga,Gu]
   rw[e2];have e:∀k',List.lookup x ((x,k')::(r.map fun(n,k)=>if(k==NameKind.free&&env.scope.kind==.function&&env.kindOf n==some .cell)then(n,NameKind.cell)else(n,k)))=some k':=fun k'=>by rw[Ga,Gu]
   cases k<;>simp only[beq_self_eq_true,Bool.true_and,Bool.false_and,Bool.false_eq_true,if_false,show(NameKind.local==NameKind.free)=false from rfl,show(NameKind.cell==NameKind.free)=false from rfl,show(NameKind.globalExplicit==NameKind.free)=false from rfl,show(NameKind.globalImplicit==NameKind.free)=false from rfl]<;>first|exact e _|(split<;>exact e _)
structure Im(Y:Yc)(sc:Scope):Prop where
 gl:∀x,Ea sc x=true->Gl Y x
 cap:∀x,sc.names.lookup x=some .cell\/sc.names.lookup x=some .free->Y.env.kindOf x=some .cell\/Y.env.kindOf x=some .free
def Cx(Y:Yc)(scope:Scope)(L:Addr):Yc:={Y with
 env:={scope:=relabel scope Y.env,locals:=L,globals:=Y.env.globals,cells:=cellsFrom (L+1) scope.names (F2 Y.env scope.names []),qual:=Y.env.qual,func:=none,code:=Y.env.code,frame:=Y.env.frame,builtins:=Y.env.builtins},I:=fun _=>True}
def Mq(Y:Yc)(scope:Scope)(L:Addr)(xs:List Str)(F:Fz)(s:Shared):Bd:={Cx Y scope L with tbp:=[],N:=xs,F0:=F,s0:=s}
variable {Y:Yc}{out scope:Scope}{L:Addr}{xs nm:List Str}{F F3 G:Fz}{s s3:Shared}{r:Ev.Env}{N:Str->Nat->Prop}
theorem Nj{l:List (Str×NameKind)}{x:Str}{k:NameKind}(h:l.lookup x=some k):(x,k)∈l:=PySem.mem_of_lookup h
theorem P3(x:Str):(Cx Y scope L).env.scope.names.lookup x=(match scope.names.lookup x with|some .free=>if(Y.env.scope.kind==.function&&Y.env.kindOf x==some .cell)then some .cell else some .free|o=>o):=bG scope.names x
theorem gI(S:Ic out scope xs)(R:Im Y out):Im (Cx Y scope L) scope:=⟨fun x h=>by
 show(Cx Y scope L).env.scope.names.lookup x=_;have h:scope.names.lookup x=some .globalImplicit:=by simpa[Ea]using h
 rw[P3,h],fun x h=>by
 show(Cx Y scope L).env.scope.names.lookup x=_\/(Cx Y scope L).env.scope.names.lookup x=_;rw[P3];rcases h with h|h<;>rw[h]
 .exact .inl rfl
 .dsimp only;split
  .exact .inl rfl
  .exact .inr rfl⟩
theorem Vi(S:Ic out scope xs)(R:Im Y out)(ok:Y.Ok):∀y∈scope.names,y.2=.free->∃c,Y.env.cells.lookup y.1=some c:=fun y hy e=>ok.has _ (R.cap _ (S.free y hy e).2)
theorem iL(S:Ic out scope xs)(R:Im Y out)(ok:Y.Ok):(Cx Y scope L).Ok where
 kind:=S.kind
 glob:=ok.glob
 blt:=ok.blt
 im:=fun _ z=>z
 has:=fun x h=>by
  have h':(Cx Y scope L).env.scope.names.lookup x=some .cell\/(Cx Y scope L).env.scope.names.lookup x=some .free:=h;rw[P3]at h';have key:(x,NameKind.cell)∈scope.names\/(x,NameKind.free)∈scope.names:=by
   cases e:scope.names.lookup x with
   |none=>rw[e]at h';rcases h' with h'|h'<;>cases h'
   |some k=>
    rw[e]at h';cases k with
    |cell=>exact .inl (Nj e)
    |free=>exact .inr (Nj e)
    |_=>rcases h' with h'|h'<;>cases h'
  refine Option.isSome_iff_exists.mp (Wq scope.names _ _ ?_);exact key.imp id fun k=>Oa scope.names [] (.inl k)
theorem Sy{env:PySem.Env}:∀(names:List (Str×NameKind))(acc:List (Str×Addr)){x:Str}{c:Addr},(F2 env names acc).lookup x=some c->(x,NameKind.free)∈names\/acc.lookup x=some c
 |[],acc,_,_,e=>.inr e
 |(n,k)::r,acc,x,c,e=>by
  unfold F2 at e;by_cases hk:(k==.free)=true
  .rw[if_pos hk]at e;rcases Sy r _ e with h|h
   .exact .inl (.tail _ h)
   .rw[Ga]at h;cases hb:x==n with
    |true=>exact .inl (by rw[Ki.mp hb,show k=.free by simpa using hk];exact .head _)
    |false=>rw[hb]at h;exact .inr h
  .rw[if_neg hk]at e;exact(Sy r _ e).imp (.tail _) id
theorem O6(S:Ic out scope xs){x:Str}{c:Addr}(hx:x∈xs)(h:(Cx Y scope L).env.cells.lookup x=some c):L+1<=c/\(x,c)∈cellsFrom (L+1) scope.names []:=by
 rcases jg h with h|⟨_,h2⟩
 .exact⟨(Pv scope.names _ h).1,h⟩
 .rcases Sy scope.names [] h2 with q|q
  .have:=(S.free _ q rfl).1;rcases(S.own x hx).2 with z|z<;>rw[z]at this<;>cases this
  .cases q
theorem pR(S:Ic out scope xs)(R:Im Y out)(A:At Y N r F s)(u:Up F s F3 s3):(Mq Y scope s3.heap.objs.size xs F s).Fr [] (fun _=>[]) (List.replicate xs.length .no) F3 {s3 with heap:=pushCells (s3.heap.push {cls:=.type "dict",data:=.dict #[]}) scope.names}:=by
 have keep:∀b o,s3.heap.get? b=some o->(pushCells (s3.heap.push {cls:=.type "dict",data:=.dict #[]}) scope.names).get? b=some o:=fun b o e=>pushCells_keeps _ _ b o (Bb _ e);have cok:=cellsFrom_ok scope.names (s3.heap.push {cls:=.type "dict",data:=.dict #[]}) (s3.heap.objs.size+1) [] ⟨fun _ _ hm=>(nomatch hm),List.Pairwise.nil⟩ (by rw[Gw];exact Dn _);rw[Gw]at cok;have new:∀x∈xs,∀c,(Cx Y scope s3.heap.objs.size).env.cells.lookup x=some c->s3.heap.get? c=none:=fun x hx c h=>Heap.get?_none_of_le (Nat.le_of_lt (O6 S hx h).1);refine⟨⟨iL S R A.ok,trivial,fun u' _=>A.toSt.up u',u.old Bs,fun x hx c h=>u.old (new x hx c h),fun x hx y hy c h1 h2=>name_of_addr cok.apart (O6 S hx h1).2 (O6 S hy h2).2,S.nd⟩,u.trans (Up.kept (k:=s3.toks) u.fh keep),?_,⟨u.fh.none Bs,fun _=>none,(Heap.Ns.new s3.heap (.type "dict")).keeps (pushCells_keeps _ _)⟩,fun x hx c h=>⟨u.fh.none (new x hx c h),_,(cok.empty x c (O6 S hx h).2).1⟩,fun _ _ e=>(nomatch e),fun _ z=>(nomatch z),fun _ _ _ e=>(nomatch e),fun i y sl e1 e2=>?_⟩
 .exact List.length_replicate ..
 .rw[List.getElem?_replicate]at e2;split at e2<;>cases e2;trivial
theorem bc{pn:List (Addr×a7 Obj)}{ad:Nat->List Addr}{ts:List T}(S:Ic out scope xs)(R:Im Y out)(A:At Y (Tc.N ⟨out,nm⟩) r F s)(h:(Mq Y scope L xs F s).Fr pn ad (ts.map .val) G s3)(hl:ts.length=xs.length):At (Cx Y scope L) (Tc.N ⟨scope,xs++nm⟩) (ts.map some++r) G s3:=⟨h.toSt,h.ok,trivial,fun x i t ⟨n1,n2,n3⟩ e=>by
 rcases aV n3 with⟨h1,h2⟩|⟨h1,h2,h3⟩
 .rw[Xl (by simpa[hl]using h2)]at e;refine h.at.get x i t (M1 h1) ?_;rw[<-e];simp[Au,List.getElem?_map,Function.comp_def,Sl.get]
 .rw[dE (by simp[hl];lia)]at e;have e:r[i-xs.length]?=some (some t):=by simpa[hl]using e
  have hfree:scope.names.lookup x=some .free:=by
   unfold Ls at n2;dsimp only at n2;cases q:scope.names.lookup x with
   |none=>rw[q]at n2;cases n2
   |some kd=>
    rw[q]at n2;cases kd with
    |free=>rfl
    | «local»=>
     rcases(S.loc _ (Nj q) rfl).2 with z|z
     .exact absurd z h1
     .rw[show x=".0" from z]at n1;exact absurd n1 (by decide +kernel)
    |cell=>exact absurd (S.cel _ (Nj q) rfl).2 h1
    |_=>cases n2
  have hm:=Nj hfree;have ho:=(S.free _ hm rfl).2;have hk:=R.cap x ho;obtain⟨v,l,q⟩:=A.get x (i-xs.length) t ⟨n1,by rcases ho with z|z<;>simp[Ls,z],h3⟩ e;refine⟨v,.inr ⟨?_,?_⟩,q.mono h.up.ff⟩
  .show(Cx Y scope L).env.scope.names.lookup x=_\/(Cx Y scope L).env.scope.names.lookup x=_;rw[P3,hfree];dsimp only;split
   .exact .inl rfl
   .exact .inr rfl
  .rcases l with⟨k,_⟩|⟨k,c,hc,z⟩
   .rcases hk with hk|hk<;>rw[hk]at k<;>cases k
   .refine⟨c,?_,z.keeps h.up.ext⟩;show(cellsFrom (L+1) scope.names (F2 Y.env scope.names [])).lookup x=some c;have e0:(cellsFrom (L+1) scope.names []).lookup x=none:=by
     cases q:(cellsFrom (L+1) scope.names []).lookup x with
     |none=>rfl
     |some d=>have:=S.cel _ (Pv scope.names _ (PySem.mem_of_lookup q)).2 rfl;rw[hfree]at this;cases this.1
    rw[M9,List.lookup_append,e0,ja (Vi S R A.ok) hm];exact hc⟩
end
section
variable {is:List Nat}{fp:List Addr}{tn:Nat->Heap->Prop}{total:List T}
variable {Y:Yc}{out scope:Scope}{L:Addr}{xs nm:List Str}{F F3 G:Fz}{s s2 s3:Shared}{r:Ev.Env}{N:Str->Nat->Prop}{B:Bd}{tg iter elt:Expr}{ifs:List Expr}{pos:Pos}{E:Value->Shared->Prop}
def Tgs(B:Bd)(xs:List Str)(is:List Nat):Prop:=xs.length=is.length/\∀(j:Nat)x i,xs[j]?=some x->is[j]?=some i->B.N[i]?=some x/\Loc B.env.scope x
theorem Tgs.cons{x:Str}{i:Nat}(h:Tgs B (x::xs) (i::is)):(B.N[i]?=some x/\Loc B.env.scope x)/\Tgs B xs is:=⟨h.2 0 x i rfl rfl,by simpa using h.1,fun j y k e1 e2=>h.2 (j+1) y k (by simpa using e1) (by simpa using e2)⟩
theorem cU:∀{es:List Expr}{xs:List Str}{is:List Nat},(es.mapM fun e=>match e with|.Name x _=>some x|_=>none)=some xs->Tgs B xs is ->PGs B es is/\(assignEach es B.env).length=xs.length/\(assignEach es B.env).findIdx? (·.1)=none
 |[],xs,is,h,ha=>by
  have e:xs=[]:=by simpa using h.symm
  subst e;cases is with
  |nil=>exact⟨mW,rfl,rfl⟩
  |cons _ _=>cases ha.1
 |e::es,xs,is,h,ha=>by
  rw[List.mapM_cons]at h;obtain⟨x,h1,h⟩:=obs h;obtain⟨xs',h2,h⟩:=obs h;cases h;cases is with
  |nil=>cases ha.1
  |cons i is=>
   obtain⟨⟨a1,a2⟩,a3⟩:=ha.cons;obtain⟨q1,q2,q3⟩:=cU h2 a3;cases e with
   |Name y pos=>
    cases h1;refine⟨mh a1 a2 q1 rfl,?_,?_⟩
    .show(assignEach es B.env).length+1=xs'.length+1;rw[q2]
    .show List.findIdx? (·.1) ((false,_)::assignEach es B.env)=none;rw[List.findIdx?_cons];simp[q3]
   |_=>cases h1
theorem Xn(cm:B.calm)(h:Kv tg=some xs)(ha:Tgs B xs is)(h2:J1 tg=true->2<=xs.length):PG B tg is:=by
 cases tg with
 |Name x pos=>
  cases h;rcases is with _|⟨i,_|_⟩
  .cases ha.1
  .exact pj ha.cons.1.1 ha.cons.1.2
  .cases ha.1
 |Tuple es k pos=>obtain⟨q1,q2,q3⟩:=cU h ha;exact oJ cm q1 (by rw[<-ha.1];exact h2 rfl) (q2.trans ha.1) q3
 |_=>cases h
theorem ax:∀(us:List T)(front pre:List Sl),pre.length=us.length->Jl (List.range' front.length us.length) us (front++pre)=some (front++us.map .val)
 |[],front,pre,h=>by
  cases pre with
  |nil=>rfl
  |cons _ _=>cases h
 |u::us,front,pre,h=>by
  cases pre with
  |nil=>cases h
  |cons p pre=>
   rw[Eb,List.range'_succ,Jl];have e:(front++p::pre).set front.length (.val u)=(front++[.val u])++pre:=by rw[List.set_append,if_neg (Nat.lt_irrefl _)];simp
   have e2:(front++[Sl.val u]).length=front.length+1:=by simp
   rw[e,<-e2,ax us _ pre (by simpa using h)];simp
theorem gj{x:T}{τ:List Sl}{r':Ev.Env}{n:Nat}(h:bnd n x r=some r')(hl:τ.length=n)(hn:n≠0):∃us:List T,us.length=n/\r'=us.map some++r/\G6 (List.range' 0 n) x τ=some (us.map .val):=by
 unfold bnd at h;split at h
 .rename_i e;subst e;cases h;rcases τ with _|⟨a,_|_⟩
  .cases hl
  .exact⟨[x],rfl,rfl,rfl⟩
  .cases hl
 .rename_i hn1;cases x with
  |tup us=>
   replace h:(if us.length=n then some (us.map some++r)else none)=some r':=h;split at h
   .rename_i e;cases h;refine⟨us,e,rfl,?_⟩;have:=ax us [] τ (by rw[hl,e]);rw[List.length_nil,e]at this;rcases n with _|_|n
    .exact absurd rfl hn
    .exact absurd rfl hn1
    .exact this
   .cases h
  |_=>cases h
def Okf(Y:Yc)(N:Str->Nat->Prop)(ifs:List Expr)(fo:Ev.Env->a7 (a7 T)):Prop :=
 ∀{s F r c E},At Y N r F s->fo r=some c->wpAny Y.M Y.A (forIn ifs true fun c r=>if r=true then do let ok <-isTrue c Y.env (eval c Y.env);pure (ForInStep.yield ok)else pure (ForInStep.yield r)) (fun ok s'=>∃G,Up F s G s'/\if ok=true then c=none\/c=some (.bl true)else c=some (.bl false)) E s
theorem qY:Okf Y N [] fun _=>some none:=fun A q=>by cases q;exact wpAny_tests_nil ⟨_,Up.tok A.fh,.inl rfl⟩
theorem kQ{c:Expr}{f:Ev.Env->a7 T}(h:Okb Y N c f):Okf Y N [c] fun r=>(f r).map some:=fun A q=>by
 obtain⟨t,e,rfl⟩:=oms q;refine wpAny_tests_one (thn (h A e) fun b s1 z=>?_);obtain⟨G,u,rfl⟩:=z;cases b with
 |true=>exact⟨G,u,.inr rfl⟩
 |false=>exact⟨G,u,rfl⟩
def M0(n:Nat)(r:Ev.Env)(fo:Ev.Env->a7 (a7 T))(fe:Ev.Env->a7 T)(x:T):a7 (a7 T):=(bnd n x r).bind fun r'=>(fo r').bind fun c=>match c with
  |none=>(fe r').map some
  |some (.bl true)=>(fe r').map some
  |some (.bl false)=>some none
  |some _=>none
def Kl(n:Nat)(fi:Ev.Env->a7 (List T))(fo:Ev.Env->a7 (a7 T))(fe:Ev.Env->a7 T)(r:Ev.Env):a7 T:=((fi r).bind fun qc=>if qc.length<=SZ then some qc else none).bind fun qc=>(Eu (M0 n r fo fe) qc).map .lst
theorem Walk.blk{qc:List T}{it:Addr}(W:Walk Y tg qc F fp it tn):Walk (Cx Y scope L) tg qc F fp it tn:=⟨W.obj,W.keep,W.item,W.done,W.self⟩
structure Cend(Y:Yc)(F:Fz)(s:Shared)(C D:Addr)(total:List T)(G:Fz)(s':Shared):Prop where
 up:Up F s G s'
 c0:s.heap.get? C=none
 gc:G C=none
 ns:∃m,s'.heap.Ns C m
 d0:s.heap.get? D=none
 gd:G D=none
 ne:D≠C
 lst:∃js k,s'.heap.get? D=some {cls:=.type "list",data:=.seq js k}/\js.size<=sizeLine/\Reps Y.w G total js.toList
theorem Yq{fo:Ev.Env->a7 (a7 T)}{fe:Ev.Env->a7 T}{qc:List T}{G2:Fz}{it:Addr}(cm:Y.calm)(S:Ic out scope xs)(R:Im Y out)(htg:Kv tg=some xs)(h2n:J1 tg=true->2<=xs.length)(hn:xs≠[])(A:At Y (Tc.N ⟨out,nm⟩) r F s)(hf:∀L,Okf (Cx Y scope L) (Tc.N ⟨scope,xs++nm⟩) ifs fo)(he:∀L,Oke (Cx Y scope L) (Tc.N ⟨scope,xs++nm⟩) elt fe)(u2:Up F s G2 s2)(fr:∀b∈fp,s.heap.get? b=none/\G2 b=none)(W:Walk Y tg qc G2 fp it tn)(t0:tn 0 s2.heap)(hz:qc.length<=SZ)(hcm:Eu (M0 xs.length r fo fe) qc=some total):wpAny Y.M Y.A (newList []) (fun acc qz=>wpAny Y.M Y.A (newFunctionEnv scope Y.env.globals (F2 Y.env scope.names []) [] Y.env.qual none .none (some Y.env)) (fun cenv s₄=>
   codeAny Y.M Y.A (.compStart (.ListComp elt [⟨tg,iter,ifs,0⟩] scope pos) 0 (.ref it) acc {cenv with scope:=relabel scope Y.env})
    (fun res s'=>res=.ok .next/\∃D G,acc=.ref D/\Cend Y F s cenv.locals D total G s') s₄) E qz) E s2:=by
 refine Gn ?_ (by size_fits);have u3:Up F s G2 {s2 with heap:=s2.heap.push {cls:=.type "list",data:=.seq #[]} }:=u2.trans (Up.side (k:=s2.toks) u2.fh);have d0:s.heap.get? s2.heap.objs.size=none:=u2.old Bs;have dG:G2 s2.heap.objs.size=none:=u2.fh.none Bs;have dfp:s2.heap.objs.size∉fp:=fun hb=>by obtain⟨o,e⟩:=W.obj t0 _ hb;rw[Bs]at e;cases e
 generalize hs3:({s2 with heap:=s2.heap.push {cls:=.type "list",data:=.seq #[]} }:Shared)=s3 at u3 ⊢;have d3:s3.heap.get? s2.heap.objs.size=some {cls:=.type "list",data:=.seq #[]}:=by rw[<-hs3];exact Cv _ rfl
 have t3:tn 0 s3.heap:=W.keep t0 fun b _ o e=>by rw[<-hs3];exact Bb _ e
 generalize hD:(s2.heap.objs.size:Addr)=D at d0 dG d3 dfp ⊢;refine lW ?_;have h4:=pR S R A u3;have keep4:∀b o,s3.heap.get? b=some o->(pushCells (s3.heap.push {cls:=.type "dict",data:=.dict #[]}) scope.names).get? b=some o:=fun b o e=>pushCells_keeps _ _ b o (Bb _ e);have t4:=W.keep t3 fun b _ o e=>keep4 b o e;have pg:PG (Mq Y scope s3.heap.objs.size xs F s) tg (List.range' 0 xs.length):=Xn cm htg ⟨by simp,fun j x i e1 e2=>by
  have hj:j<xs.length:=(ome e1).1;rw[List.getElem?_range' hj]at e2;cases e2;refine⟨by simpa[Mq]using e1,?_⟩;show(Cx Y scope s3.heap.objs.size).env.scope.names.lookup x=_\/(Cx Y scope s3.heap.objs.size).env.scope.names.lookup x=_;rw[P3];rcases(S.own x (Ee e1)).2 with e|e<;>rw[e]
  .exact .inl rfl
  .exact .inr rfl⟩ h2n
 have off3:∀{b},(∃o,s3.heap.get? b=some o)->s.heap.get? b=none->Off (Cx Y scope s3.heap.objs.size) xs s [] (fun _=>[]) b:=fun{b} ⟨o,ho⟩ z=>⟨z,(fun e=>by rw[e]at ho;rw[show s3.heap.get? (Cx Y scope s3.heap.objs.size).env.locals=none from Bs]at ho;cases ho),(fun x hx c hc e=>by rw[<-e,Heap.get?_none_of_le (Nat.le_of_lt (O6 S hx hc).1)]at ho;cases ho),fun _ z=>(nomatch z),fun _ z=>(nomatch z)⟩;have DC:D≠s3.heap.objs.size:=fun e=>by rw[e,Bs]at d3;cases d3
 have c0:s.heap.get? s3.heap.objs.size=none:=u3.old Bs;have start:∀b∈D::fp,G2 b=none/\Off (Cx Y scope s3.heap.objs.size) xs s [] (fun _=>[]) b:=fun b hb=>by
  rcases omc hb with rfl|hb
  .exact⟨dG,off3 ⟨_,d3⟩ d0⟩
  .exact⟨(fr b hb).2,off3 (W.obj t3 b hb) (fr b hb).1⟩
 refine codeAny_compStart_list ?loop (W.self t4 ?loop);refine codeAny_loop rfl (fun n s'=>∃i ad τ G js k rs rest,(Mq Y scope s3.heap.objs.size xs F s).Fr [] ad τ G s'/\G2.le G/\tn i s'.heap/\(∀b∈D::fp,G b=none/\Off (Cx Y scope s3.heap.objs.size) xs s [] ad b) /\
   s'.heap.get? D=some {cls:=.type "list",data:=.seq js k}/\js.size<=i/\Reps Y.w G rs js.toList/\n+i=qc.length/\Eu (M0 xs.length r fo fe) (qc.drop i)=some rest/\rs++rest=total) ?_ qc.length
  ⟨0,_,_,_,#[],0,[],total,h4,fun _ _ e=>e,t4,start,keep4 _ _ d3,Dn _,rfl,rfl,hcm,rfl⟩
 rintro n s5 ⟨i,ad,τ,G,js,k,rs,rest,h5,le5,t5,of5,e5,hj5,rs5,hn5,cm5,tot5⟩;have of5':∀b∈fp,G b=none/\Off (Cx Y scope s3.heap.objs.size) xs s [] ad b:=fun b hb=>of5 b (.tail _ hb);show wpAny _ Y.A ((compTurn (.ListComp elt [⟨tg,iter,ifs,0⟩] scope pos) 0 (.ref it) (.ref D) (Cx Y scope s3.heap.objs.size).env).onRaise (fun x=>do noteFrame x (Cx Y scope s3.heap.objs.size).env;theTreesLotGoes x)) _ _ s5;refine wpAny_noted ?_;rw[compTurn_list];refine Aa (wpAny_standAt (Aa ?_));cases hx:qc[i]? with
 |none=>have hl:=List.getElem?_eq_none_iff.mp hx;rw[List.drop_eq_nil_of_le hl]at cm5;cases cm5;rw[Jv]at tot5;subst tot5;refine thn (W.done le5 h5.up.fh (fun b hb=>(of5' b hb).1) t5 (by lia)) fun res s6 z=>?_;obtain⟨rfl,u6⟩:=z;have h6:=Fr.turned h5 (fun b hb=>(of5' b hb).2) u6;exact Af ⟨rfl,D,G,rfl,h6.up,c0,h6.ns.1,h6.ns.2,d0,(of5 D (.head _)).1,DC,js,k,u6.ext D _ dfp e5,Cr hj5 (by have:=Kq hz;lia),rs5⟩
 |some x=>
  obtain⟨hil,ex⟩:=ome hx;rw[List.drop_eq_getElem_cons hil,ex,Eu]at cm5;obtain⟨ro,hro,cm5⟩:=obs cm5;obtain⟨rest',cm6,cm5⟩:=obs cm5;obtain⟨r',hb,hro⟩:=obs hro;obtain⟨co,hco,hro⟩:=obs hro;obtain⟨us,l1,rfl,l3⟩:=gj hb (τ:=τ) h5.len (fun e=>hn (List.length_eq_zero_iff.mp e));refine thn (W.item le5 h5.up.fh (fun b hb=>(of5' b hb).1) t5 hx) fun res s6 z=>?_;obtain⟨v,rfl,z⟩:=z;refine Aa (thn z fun _ s7 z=>?_);obtain⟨G7,u7,r7,t7⟩:=z;have h7:=Fr.turned h5 (fun b hb=>(of5' b hb).2) u7;have le7:=le5.trans u7.ff;have e7:=u7.ext D _ dfp e5;have rs7:=rs5.mono u7.ff;have dG7:G7 D=none:=by
   cases q:G7 D with
   |none=>rfl
   |some o=>rcases u7.nw D (by rw[q];simp)with w|w
            .exact absurd (of5 D (.head _)).1 w
            .rw[e5]at w;cases w
  have of7:∀b∈D::fp,G7 b=none/\Off (Cx Y scope s3.heap.objs.size) xs s [] ad b:=fun b hb=>⟨by
   rcases omc hb with rfl|hb
   .exact dG7
   .exact u7.fn b hb,(of5 b hb).2⟩
  have h7p:=Fr.pinned (fp:=D::fp) h7 of7;refine Aa (no (thn (pg h7p r7 l3) fun _ s8 z=>?_));obtain⟨ad8,h8⟩:=z;refine Aa (thn (hf _ (bc S R A h8 l1) hco) fun ok s9 z=>?_);obtain⟨G9,u9,hok⟩:=z;have h9:=h8.after u9;have pk:∀{ad' τ' G' s'},(Mq Y scope s3.heap.objs.size xs F s).Fr ([]++Jk (D::fp) s7.heap) ad' τ' G' s'->∀b∈D::fp,∃o,s7.heap.get? b=some o/\s'.heap.get? b=some o/\G' b=none/\Off (Cx Y scope s3.heap.objs.size) xs s [] ad' b:=fun{ad' τ' G' s'}h b hb=>by
   obtain⟨o,eo⟩:∃o,s7.heap.get? b=some o:=by
    rcases omc hb with rfl|hb
    .exact⟨_,e7⟩
    .exact W.obj t7 b hb
   obtain⟨p1,⟨p3,_⟩,p6⟩:=h.pin (b,some o) (Hk _ (Hx.mpr ⟨b,hb,by rw[eo];rfl⟩));exact⟨o,eo,p3,p1.f,p1.z,p1.l,p1.c,p6,fun _ z=>(nomatch z)⟩
  cases ok with
  |false=>
   rw[if_neg Fg]at hok;subst hok;cases hro;cases cm5;refine Af ⟨rfl,n-1,by lia,i+1,ad8,_,G9,js,k,rs,_,Fr.unpin (pn:=[]) h9,le7.trans u9.ff,W.keep t7 fun b hb o e=>?_,fun b hb=>(pk h9 b hb).choose_spec.2.2,?_,by lia,rs7.mono u9.ff,by lia,cm6,tot5⟩
   .obtain⟨o',w1,w2,_⟩:=pk h9 b (.tail _ hb);rw[e]at w1;cases w1;exact w2
   .obtain⟨o',w1,w2,_⟩:=pk h9 D (.head _);rw[e7]at w1;cases w1;exact w2
  |true=>
   rw[if_pos rfl]at hok;have hro:(fe (us.map some++r)).map some=some ro:=by rcases hok with rfl|rfl<;>exact hro
   obtain⟨y,hy,rfl⟩:=oms hro;cases cm5;refine Aa (Aa (thn (he _ (bc S R A h9 l1) hy) fun w s10 z=>?_));obtain⟨G10,u10,r10⟩:=z;have h10:=h9.after u10;obtain⟨o',w1,w2,w3,w4⟩:=pk h10 D (.head _);rw[e7]at w1;cases w1;have hsz:js.size+1<=sizeLine:=Cr (show js.size+1<=qc.length by lia) (Kq hz);refine Aa (call_meets PySem.F.slot_list_append (Mf w2) PySem.F.entry_list_append (PySem.F.args_list_append_2 _ _) (PySem.list_append D js k w (by lia)) ⟨w2,?_⟩);obtain⟨k',e11⟩:∃k',(s10.heap.update D (Obj.mapSeq fun x=>x.push w)).get? D=some {cls:=.type "list",data:=.seq (js.push w) k'}:=⟨_,by rw[Heap.get?_update_self _ w2 rfl];rfl⟩;have h11:=Fr.turned (fp:=[D]) (Fr.unpin (pn:=[]) h10) (fun b hb=>by rw[omg hb];exact w4) (UpX.one (k:=s10.toks) (h':=s10.heap.update D (Obj.mapSeq fun x=>x.push w)) h10.up.fh w3 fun b o hb e=>(Heap.get?_update_other _ _ (Ne.symm hb)).trans e);refine Af (Af ⟨rfl,n-1,by lia,i+1,ad8,_,G10,_,_,rs++[y],_,h11,(le7.trans u9.ff).trans u10.ff,W.keep t7 fun b hb o e=>?_,fun b hb=>(pk h10 b hb).choose_spec.2.2,e11,by rw[Array.size_push];lia,?_,by lia,cm6,by rw[K9];exact tot5⟩)
   .obtain⟨o',w1,w2,_⟩:=pk h10 b (.tail _ hb);rw[e]at w1;cases w1;exact(Heap.get?_update_other _ _ fun z=>dfp (by rw[z];exact hb)).trans w2
   .rw[Array.toList_push];exact((rs7.mono u9.ff).mono u10.ff).app ⟨_,_,rfl,r10,rfl⟩
theorem Cend.fin{C D:Addr}{G:Fz}{h':Heap}{k:Nat}(c:Cend Y F s C D total G s2)(hs:Heap.SameBut C s2.heap h'):∃G',Up F s G' {s2 with heap:=h',toks:=k}/\Rep Y.w G' (.lst total) (.ref D)/\G' C=none:=by
 obtain⟨js,e,d1,d2,d3⟩:=c.lst;have d1':h'.get? D=some _:=(hs.2 D c.ne).trans d1;have le:G.le (fup G D {cls:=.type "list",data:=.seq js e}):=F9 c.gd;refine⟨fup G D {cls:=.type "list",data:=.seq js e},⟨fun b o e=>(hs.2 b fun z=>by rw[z,c.c0]at e;cases e).trans (c.up.ext b o e),c.up.os,c.up.bare,c.up.ff.trans le,fun b o q=>?_,fun b q=>?_⟩,⟨D,js,e,rfl,Fq,d2,d3.mono le⟩,by unfold fup;rw[if_neg (Ne.symm c.ne)];exact c.gc⟩
 .unfold fup at q;split at q
  .rename_i z;cases q;rw[z];exact d1'
  .exact(hs.2 b fun z=>by rw[z,c.gc]at q;cases q).trans (c.up.fh b o q)
 .unfold fup at q;split at q
  .rename_i z;exact .inr (by rw[z];exact c.d0)
  .exact c.up.nw b q
section
variable {fi:Ev.Env->a7 (List T)}{fo:Ev.Env->a7 (a7 T)}{fe:Ev.Env->a7 T}(cm:Y.calm)(S:Ic out scope xs)(R:Im Y out)(htg:Kv tg=some xs)(h2n:J1 tg=true->2<=xs.length)(hn:xs≠[])(hit:Hm Y (Tc.N ⟨out,nm⟩) tg iter fi)(hfs:∀x,foldedSetIterable iter Y.env x=pure x)
 (hf:∀L,Okf (Cx Y scope L) (Tc.N ⟨scope,xs++nm⟩) ifs fo) (he:∀L,Oke (Cx Y scope L) (Tc.N ⟨scope,xs++nm⟩) elt fe)
include cm S R htg h2n hn hit hfs hf he
theorem c5{t:T}(h:Kl xs.length fi fo fe r=some t):∃qc total,fi r=some qc/\qc.length<=SZ/\Eu (M0 xs.length r fo fe) qc=some total/\t=.lst total:=by
 obtain⟨qc,h1,h⟩:=obs h;obtain⟨its',h2,h1⟩:=obs h1;split at h1
 .rename_i hz;cases h1;obtain⟨total,h3,rfl⟩:=oms h;exact⟨qc,total,h2,hz,h3,rfl⟩
 .cases h1
theorem aF:Oke Y (Tc.N ⟨out,nm⟩) (.ListComp elt [⟨tg,iter,ifs,0⟩] scope pos) (Kl xs.length fi fo fe):=fun A q=>by obtain⟨qc,total,h1,hz,hcm,rfl⟩:=c5 cm S R htg h2n hn hit hfs hf he q;rw[eval_ListComp];refine wpAny_comprehension_free (use:=none) rfl hfs (To (Vi S R A.ok)) S.kind (fun y hy e=>(S.loc y hy e).1) (thn (hit A h1) fun v s1 z=>thn z fun itv s2 z=>?_);obtain⟨it,fp,tn,G2,rfl,u2,fr,W,t0⟩:=z;refine thn (Yq cm S R htg h2n hn A hf he u2 fr W t0 hz hcm) fun acc s3 h3=>thn h3 fun cenv s4 h4=>codeAny_mono h4 fun res s' hres=>?_;obtain⟨rfl,D,G,rfl,c⟩:=hres;obtain⟨m,hm⟩:=c.ns;exact⟨m,hm,fun h' hsb=>let⟨G',u,r,_⟩:=c.fin (k:=s'.toks) hsb;⟨G',u,r⟩⟩
end
end
section
variable {B:Bd}{out scope:Scope}{xs nm:List Str}{tg iter elt:Expr}{ifs:List Expr}{pos p spos:Pos}{x:Str}{i:Nat}
theorem At.mono{Y:Yc}{N N':Str->Nat->Prop}{r:Ev.Env}{F:Fz}{s:Shared}(A:At Y N r F s)(h:∀x i,N' x i->N x i):At Y N' r F s:={A with get:=fun x i t n=>A.get x i t (h x i n)}
theorem gF{fi:Ev.Env->a7 (List T)}{fo:Ev.Env->a7 (a7 T)}{fe:Ev.Env->a7 T}(is:List Nat)(cm:B.calm)(S:Ic out scope xs)(R:Im B.toYc out)(htg:Kv tg=some xs)(h2n:J1 tg=true->2<=xs.length)(hn:xs≠[])(hit:Hm B.toYc (Tc.N ⟨out,nm⟩) tg iter fi)(hfs:∀x,foldedSetIterable iter B.env x=pure x)(hf:∀L,Okf (Cx B.toYc scope L) (Tc.N ⟨scope,xs++nm⟩) ifs fo)(he:∀L,Oke (Cx B.toYc scope L) (Tc.N ⟨scope,xs++nm⟩) elt fe)(hN:∀x i,Tc.N ⟨out,nm⟩ x i->Nn B.N x i)(hx:B.N[i]?=some x)(hl:Loc B.env.scope x):PS B (.Assign [.Name x p] (.ListComp elt [⟨tg,iter,ifs,0⟩] scope pos) spos) fun τ=>(Kl xs.length fi fo fe (Au (frzAt is τ))).bind fun t=>some (.nx ((frzAt is τ).set i (.val t))):=fun{pn ad τ F s o}hF q=>by
 obtain⟨t,q1,q⟩:=obs q;cases q;obtain⟨G0,ad',le,h'⟩:=hF.frzAt is;have A:=(h'.at).mono hN;have hS:∀{u:Value}{G:Fz}{s1:Shared}{E:Value->Shared->Prop},B.Fr pn ad' (frzAt is τ) G s1->F.le G->Rep B.w G t u->wpAny B.M B.A (storeName B.env x u) (fun _ s'=>B.Post pn F (.nx ((frzAt is τ).set i (.val t))) .next s') E s1:=fun{u G s1 E}h1 le1 r=>h1.store (d:=[]) (sl:=.val t) hx hl (fun _ w=>nomatch w) (fun _ lk=>⟨u,lk,r⟩) fun s2 _ _ h2=>⟨_,_,le1,h2⟩;obtain⟨b,hb⟩:∃b:Bool,swapsWith (.ListComp elt [⟨tg,iter,ifs,0⟩] scope pos) (some (.Name x p)) spos.line B.env=pure b:=⟨_,rfl⟩;cases b with
 |false=>refine wpAny_Assign_Name (thn (aF cm S R htg h2n hn hit hfs hf he A q1) fun u s1 z=>?_) hb;obtain⟨G,u1,r⟩:=z;exact hS (h'.after u1) (le.trans u1.ff) r
 |true=>
  obtain⟨qc,total,h1,hz,hcm,rfl⟩:=c5 cm S R htg h2n hn hit hfs hf he q1;rw[exec_Assign_Name_used _ _ _ _ hb];refine Aa (wpAny_standAt (Aa ?_));show wpAny _ B.A (do let _ <-comprehension (.ListComp elt [⟨tg,iter,ifs,0⟩] scope pos) scope B.env _ (newList []) false (eval iter B.env) (some (assign (.Name x p) B.env))) _ _ s;refine Aa (Eh (wpAny_comprehension_free (use:=some (assign (.Name x p) B.env)) (Q:=fun _ s'=>B.Post pn F (.nx ((frzAt is τ).set i (.val (.lst total)))) .next s') rfl hfs (To (Vi S R A.ok)) S.kind (fun y hy e=>(S.loc y hy e).1)
   (thn (hit A h1) fun v s1 z=>thn z fun itv s2 z=>?_)) (fun _ s' hq=>Af (Af hq)) fun _ _ e=>e)
  obtain⟨it,fp,tn,G2,rfl,u2,fr,W,t0⟩:=z;refine thn (Yq cm S R htg h2n hn A hf he u2 fr W t0 hz hcm) fun acc s3 h3=>thn h3 fun cenv s4 h4=>codeAny_mono h4 fun res s' hres=>?_;obtain⟨rfl,D,G,rfl,c⟩:=hres;show wpAny _ B.A (assign (.Name x p) B.env (.ref D)) _ _ s';have fin:=c.fin (k:=s'.toks) (h':=s'.heap) ⟨rfl,fun _ _=>rfl⟩;obtain⟨G3,u3,r3,gC⟩:=fin;have h3':=h'.after u3;have hp:=Fr.pinned (fp:=[cenv.locals]) h3' fun b hb=>by rw[omg hb];exact⟨gC,h'.off c.c0⟩
  refine wpAny_assign_Name (hp.store (d:=[]) (sl:=.val (.lst total)) hx hl (fun _ w=>nomatch w) (fun _ lk=>⟨_,lk,r3⟩) fun s5 _ _ h5=>?_);obtain⟨m,hm⟩:=c.ns;obtain⟨oC,eC⟩:=Heap.Ns.has hm;obtain⟨p1,⟨p2,_⟩,p3⟩:=h5.pin (cenv.locals,some oC) (Hk _ (Hk _ (Hx.mpr ⟨_,.head _,by rw[eC];rfl⟩)));refine⟨m,hm.at fun o e=>by rw[eC]at e;cases e;exact p2,fun h7 hsb=>⟨_,_,le.trans u3.ff,Fr.turned (fp:=[cenv.locals]) h5.unpin (fun b hb=>?_) (UpX.one (k:=s5.toks) h5.up.fh p1.f fun b o hb e=>(hsb.2 b hb).trans e)⟩⟩;rw[omg hb];exact⟨p1.z,p1.l,p1.c,p3,(h'.off c.c0).p⟩
end
end Nb
namespace L2
open PySem
section
open AutoSeq1 (wpAny_loadPart')
theorem lu(hit:s.heap.IsTupleIter it l i)(hl:s.heap.IsTuple l items)(hx:items[i]?=some x)(hQ:∀h',h'.IsTupleIter it l (i+1)->Heap.SameBut it s.heap h'->Q x {s with heap:=h'}):wpAny (model prog w) A (Builtin.SmallTypes.nextOf (.ref it)) Q E s:=by
 obtain⟨o,ho,hc,hd⟩:=id hit;obtain⟨ol,hol,_,nl,hdl⟩:=hl;unfold Builtin.SmallTypes.nextOf;refine Aa (Gi (name:=Str.ofString "__next__") hit.typeIs F.slot_tuple_iterator_next
  (Ek F.slot_tuple_iterator_next hit.typeIs F.entry_tuple_iterator_next ?_ (F.args_tuple_iterator_next_1 _)))
 show wpAny _ _ (field (.ref it) 0 >>= _) _ _ s;refine Aa (Di ho hd (x:=.ref l) rfl ?_);show wpAny _ _ (if(Value.ref l==Value.none)=true then _ else _) _ _ s;rw[if_neg (show ¬((Value.ref l==Value.none)=true)from Fg)];show wpAny _ _ (field (.ref it) 1 >>= _) _ _ s;refine Aa (Di ho hd (x:=.int i 0) rfl ?_);show wpAny _ _ (seqItems? (.ref l) >>= _) _ _ s;refine Aa (Hi hol hdl ?_);simp only[Int.toNat_natCast,hx];refine wpAny_bind (wpAny_setField ho hd (by simp) (wpAny_pure ⟨x,rfl,wpAny_pure (hQ _ ?_ (Ij ..))⟩));exact⟨_,Heap.get?_update_self _ ho (Obj.isFreed_of_fields (Ft hd _)),(Obj.cls_mapFields ..).trans hc,by rw[Ft hd];simp[rawInt]⟩
theorem oN(hh:A.handled=none)(hit:s.heap.IsTupleIter it l i)(hl:s.heap.IsTuple l items)(hx:items[i]?=none)(hE:∀h' e,Heap.ExtBut it s.heap h'->(∃o,h'.get? e=some o/\o.cls=.type "StopIteration")->E (.ref e) {s with heap:=h'}):wpAny (model prog w) A (Builtin.SmallTypes.nextOf (.ref it)) Q E s:=by
 obtain⟨o,ho,hc,hd⟩:=id hit;obtain⟨ol,hol,_,nl,hdl⟩:=hl;unfold Builtin.SmallTypes.nextOf;refine Aa (Gi (name:=Str.ofString "__next__") hit.typeIs F.slot_tuple_iterator_next
  (Ek F.slot_tuple_iterator_next hit.typeIs F.entry_tuple_iterator_next ?_ (F.args_tuple_iterator_next_1 _)))
 show wpAny _ _ (field (.ref it) 0 >>= _) _ _ s;refine Aa (Di ho hd (x:=.ref l) rfl ?_);show wpAny _ _ (if(Value.ref l==Value.none)=true then _ else _) _ _ s;rw[if_neg (show ¬((Value.ref l==Value.none)=true)from Fg)];show wpAny _ _ (field (.ref it) 1 >>= _) _ _ s;refine Aa (Di ho hd (x:=.int i 0) rfl ?_);show wpAny _ _ (seqItems? (.ref l) >>= _) _ _ s;refine Aa (Hi hol hdl ?_);simp only[Int.toNat_natCast,hx]
 first
  |refine wpAny_bind (wpAny_rule (wpAny_bind (wpAny_setField ho hd (by simp) (wpAny_bind (wpAny_letGo ?_)))))
  |refine wpAny_bind (wpAny_rule (wpAny_bind (wpAny_setField ho hd (by simp) ?_)))
 show wpAny _ _ (newExc (.type "StopIteration") [] >>= _) _ _ _;refine Aa ?_;simp only[newExc,newTuple];refine Aa (Gn ?_ (by size_fits));refine wpAny_bind (m:=firstArgMember _ _) (wpAny_of_eq (a:=Value.none) (by first|rfl|(simp only[firstArgMember];rfl)) ?_);refine Gn ?_ (by size_fits);simp only[raiseNew];refine Aa (wpAny_handled ?_)
 first|rw[show A.in1.handled=none from hh]|rw[hh]
 refine Aa (Af (wpAny_throw ?_));exact hE _ _ (((Ij ..).extBut.push _).push _) ⟨_,Cv _ rfl,rfl⟩
theorem kI(hh:A.handled=none)(it l:Addr)(hne:l≠it)(items:Array Value):Draws prog w A it [it,l] items.size (fun i v=>items[i]?=some v) (fun i h=>h.IsTupleIter it l i/\h.IsTuple l items) where
 live:=fun _ _ st=>let⟨o,ho,_⟩:=st.1;⟨o,ho⟩
 frame:=fun _ _ _ st hk=>⟨let⟨o,ho,r⟩:=st.1;⟨o,hk it (by simp) o ho,r⟩,let⟨o,ho,r⟩:=st.2;⟨o,hk l (by simp) o ho,r⟩⟩
 item:=fun i s Q E hi st hQ=>by refine lu st.1 st.2 (x:=items[i]) (by simp[hi]) fun h' hit' hs'=>?_;exact hQ _ h' s.toks (by simp[hi]) ⟨hit',let⟨o,ho,r⟩:=st.2;⟨o,hs'.extBut l o hne ho,r⟩⟩ hs'
 done:=fun s Q E st hE=>oN hh st.1 st.2 (by simp) hE
theorem jP(l:Addr)(items:Array Value)(n:Nat)(dct:a7 Addr)(sl:Array (a7 Value)):Meets (Builtin.«enumerate.__new__» ⟨[.type "enumerate",.ref l],[]⟩) (fun _ R s=>s.heap.get? l=some {cls:=.type "tuple",dict:=dct,data:=.seq items n,slots:=sl} /\
   R (.ok (.ret (.ref (s.heap.push {cls:=.type "tuple_iterator",data:=.fields #[.ref l,.int 0 0]}).objs.size)))
    {s with heap:=(s.heap.push {cls:=.type "tuple_iterator",data:=.fields #[.ref l,.int 0 0]}).push {cls:=.type "enumerate",data:=.fields #[.none,.bool false,.ref s.heap.objs.size,rawInt 0,.none,.none]} }) :=
 .of_wp fun prog w A R s h=>by
  obtain⟨hp,g,d,tk,os⟩:=s;obtain⟨hl,h⟩:=h;have hsub:=sub_enumerate;have hL:Heap.IsTuple (Shared.heap ⟨hp,g,d,tk,os⟩) l items:=⟨_,hl,rfl,n,rfl⟩
  wp_walk using wpAny_loadPart' hl
  refine wpAny_stack_any fun st=>Af ?_;split
  .rename_i c _ _ _ _ _;cases(c==Value.type "enumerate")
   .wp_walk using wpAny_loadPart' hl,Ks hL
    exact⟨_,rfl,h⟩
   .wp_walk using wpAny_loadPart' hl,Ks hL
    exact⟨_,rfl,h⟩
  .wp_walk using wpAny_loadPart' hl,Ks hL
   exact⟨_,rfl,h⟩
theorem eQ(hL:s.heap.IsTuple l items)(h:∀h',IsEnum h' (s.heap.objs.size+1) s.heap.objs.size 0 .none->h'.IsTupleIter s.heap.objs.size l 0->h'.objs.size=s.heap.objs.size+2 ->(∀b o,s.heap.get? b=some o->h'.get? b=some o)->Q (.ref (s.heap.objs.size+1)) {s with heap:=h'}):wpAny (model prog w) A (call (.type "enumerate") [.ref l]) Q E s:=by
 obtain⟨⟨c,dct,dt,sl⟩,hl,hc,n,hd⟩:=hL;replace hc:c=.type "tuple":=hc;replace hd:dt=.seq items n:=hd;subst hc hd;refine callType_new F.called_enumerate (by decide) (F.typeCall_enumerate_1 _) (F.newCall_enumerate_1 _) (fun obj=>F.args_object_init_2 obj _) F.entry_enumerate_new
  (jP l items n dct sl) ⟨hl,?_⟩
 have hz:(s.heap.push {cls:=.type "tuple_iterator",data:=.fields #[.ref l,.int 0 0]}).objs.size=s.heap.objs.size+1:=Gw ..;show _/\_;rw[hz];have he:IsEnum ((s.heap.push {cls:=.type "tuple_iterator",data:=.fields #[.ref l,.int 0 0]}).push
   {cls:=.type "enumerate",data:=.fields #[.none,.bool false,.ref s.heap.objs.size,rawInt 0,.none,.none]}) (s.heap.objs.size+1) s.heap.objs.size 0 .none:=by
  have:=Cv (s.heap.push {cls:=.type "tuple_iterator",data:=.fields #[.ref l,.int 0 0]})
   (o:={cls:=.type "enumerate",data:=.fields #[.none,.bool false,.ref s.heap.objs.size,rawInt 0,.none,.none]}) rfl
  rw[hz]at this;exact this
 refine⟨⟨_,he,rfl⟩,h _ he ⟨_,Bb _ (Cv _ rfl),rfl,rfl⟩ (by rw[Gw,hz]) fun b o x=>Bb _ (Bb _ x)⟩
end
section
open PySem Spec PyProof.Rows
structure ZAp(z TI TO j1 j2:Addr)(f1 f2:List Addr):Prop where
 nz:TI≠z/\TO≠z/\j1≠z/\j2≠z
 nT:TI≠TO/\TI≠j1/\TI≠j2
 nO:TO≠j1/\TO≠j2
 nj:j1≠j2
 fz:z∉f1/\z∉f2
 fO:TO∉f1/\TO∉f2
 fj:j2∉f1/\j1∉f2
section
variable {prog:Program}{w:World}{A:Around}{E:Value->Shared->Prop}{s:Shared}
variable {z TI TO j1 j2:Addr}{f1 f2:List Addr}{n1 n2 k:Nat}{P1 P2:Nat->Value->Prop}{S1 S2:Nat->Heap->Prop}{a b:Value}
theorem mw{Q:Value->Shared->Prop}(D1:Draws prog w A j1 f1 n1 P1 S1)(D2:Draws prog w A j2 f2 n2 P2 S2)(ap:ZAp z TI TO j1 j2 f1 f2)(hz:IsZip s.heap z TI TO .none)(hI:IsPair s.heap TI (.ref j1) (.ref j2))(hO:IsPair s.heap TO a b)(t1:S1 k s.heap)(t2:S2 k s.heap)(l1:k<n1)(l2:k<n2)(hQ:∀x y g tk,P1 k x->P2 k y->IsZip g z TI TO (rawInt s.heap.objs.size)->IsPair g TO x y->S1 (k+1) g->S2 (k+1) g->IsPair g s.heap.objs.size x y->g.objs.size=s.heap.objs.size+1 ->(∀c o,c≠z->c≠TO->c≠j1->c≠j2->s.heap.get? c=some o->g.get? c=some o)->Q (.ref s.heap.objs.size) {s with heap:=g,toks:=tk}):wpAny (model prog w) A (Builtin.«zip.__next__» ⟨[.ref z],[]⟩) (fun e s'=>∃v,e=.done (.ret v)/\Q v s') E s:=by
 show wpAny _ _ (field (.ref z) 2 >>= _) _ _ s;refine Aa (Di (x:=.bool false) hz rfl rfl ?_);show wpAny _ _ (field (.ref z) 3 >>= _) _ _ s;refine Aa (Di (x:=.ref TI) hz rfl rfl (Aa (Hi hI rfl ?_)));show wpAny _ _ (Builtin.SmallTypes.ownedTupleIsFree (.ref z) >>= _) _ _ s;refine Aa (show wpAny _ _ (Builtin.SmallTypes.ownedTupleIsFree (.ref z)) _ _ s from ?_);unfold Builtin.SmallTypes.ownedTupleIsFree;refine Aa (Di (x:=.none) hz rfl rfl (Af ?_));simp only[if_true];refine Aa (wpAny_rule (Aa (Di (x:=.ref TO) hz rfl rfl ?_)));refine wpAny_bind (Lh hz (by simp) fun g1 hz1 e1=>?_);replace hz1:IsZip g1 z TI TO .ellipsis:=hz1;refine Aa (show wpAny _ _ _ _ _ _ from ?_);simp only[List.zipIdx_nil,List.zipIdx_cons,List.forIn_nil,List.forIn_cons];refine Aa (Aa (wpAny_onRaise ?_));show wpAny _ _ (Builtin.SmallTypes.nextOf (.ref j1) >>= _) _ _ {s with heap:=g1};have q1:S1 k g1:=D1.frame _ _ _ t1 fun c hc o e=>e1.extBut _ _ (fun y=>ap.fz.1 (y▸hc)) e;refine Aa (D1.item k _ _ _ l1 q1 fun x g2 tk2 hx u1 e2=>Af ?_);have hO2:IsPair g2 TO a b:=e2.extBut _ _ ap.nO.1 (e1.extBut _ _ ap.nz.2.1 hO);refine Aa (Hi hO2 rfl (Aa (wpAny_updateSeq_pair hO2 fun g3 hO3 e3=>?_)));replace hO3:IsPair g3 TO x b:=hO3;refine Aa (wpAny_letGo (Af (Aa (Aa (wpAny_onRaise ?_)))));show wpAny _ _ (Builtin.SmallTypes.nextOf (.ref j2) >>= _) _ _ {s with heap:=g3,toks:=tk2};have q2:S2 k g3:=D2.frame _ _ _ t2 fun c hc o e=>e3.extBut _ _ (fun y=>ap.fO.2 (y▸hc)) (e2.extBut _ _ (fun y=>ap.fj.2 (y▸hc)) (e1.extBut _ _ (fun y=>ap.fz.2 (y▸hc)) e));refine Aa (D2.item k _ _ _ l2 q2 fun y g4 tk4 hy u2 e4=>Af ?_);have hO4:IsPair g4 TO x b:=e4.extBut _ _ ap.nO.2 hO3;refine Aa (Hi hO4 rfl (Aa (wpAny_updateSeq_pair hO4 fun g5 hO5 e5=>?_)));replace hO5:IsPair g5 TO x y:=hO5;refine Aa (wpAny_letGo (Af (Af (Aa (Hi hO5 rfl (Aa (wpAny_newTuple ?_)))))));have sz:g5.objs.size=s.heap.objs.size:=by rw[e5.1,e4.1,e3.1,e2.1,e1.1]
 have hz5:IsZip g5 z TI TO .ellipsis:=e5.extBut _ _ (Ne.symm ap.nz.2.1) (e4.extBut _ _ (Ne.symm ap.nz.2.2.2) (e3.extBut _ _ (Ne.symm ap.nz.2.1) (e2.extBut _ _ (Ne.symm ap.nz.2.2.1) hz1)));have k5:∀c o,c≠z->c≠TO->c≠j1->c≠j2->s.heap.get? c=some o->g5.get? c=some o:=fun c o c1 c2 c3 c4 e=>e5.extBut _ _ c2 (e4.extBut _ _ c4 (e3.extBut _ _ c2 (e2.extBut _ _ c3 (e1.extBut _ _ c1 e))));have v1:S1 (k+1) g5:=D1.frame _ _ _ u1 fun c hc o e=>e5.extBut _ _ (fun y=>ap.fO.1 (y▸hc)) (e4.extBut _ _ (fun y=>ap.fj.1 (y▸hc)) (e3.extBut _ _ (fun y=>ap.fO.1 (y▸hc)) e));have v2:S2 (k+1) g5:=D2.frame _ _ _ u2 fun c hc o e=>e5.extBut _ _ (fun y=>ap.fO.2 (y▸hc)) e;have ltz:z<g5.objs.size:=Cu hz5;show wpAny _ _ (Builtin.SmallTypes.ownedTupleHandOut (.ref z) (.ref g5.objs.size) >>= _) _ _ _;refine Aa (show wpAny _ _ (Builtin.SmallTypes.ownedTupleHandOut (.ref z) (.ref g5.objs.size)) _ _ _ from ?_);unfold Builtin.SmallTypes.ownedTupleHandOut;have hz6:IsZip (g5.push {cls:=.type "tuple",data:=.seq #[x,y]}) z TI TO .ellipsis:=Bb _ hz5;refine wpAny_bind (Lh hz6 (by simp) fun g7 hz7 e7=>?_);replace hz7:IsZip g7 z TI TO (rawInt g5.objs.size):=hz7;refine Lh hz7 (by simp) fun g8 hz8 e8=>?_;replace hz8:IsZip g8 z TI TO (rawInt g5.objs.size):=hz8;have up:∀c o,c≠z->g5.get? c=some o->g8.get? c=some o:=fun c o c1 e=>e8.extBut _ _ c1 (e7.extBut _ _ c1 (Bb _ e));have hT8:IsPair g8 g5.objs.size x y:=e8.extBut _ _ (Nat.ne_of_gt ltz) (e7.extBut _ _ (Nat.ne_of_gt ltz) (Cv _ rfl));have sz8:g8.objs.size=g5.objs.size+1:=by rw[e8.1,e7.1,Gw]
 rw[sz]at hz8 hT8 sz8;refine Af ⟨_,rfl,?_⟩;show Q (.ref g5.objs.size) {s with heap:=g8,toks:=tk4};rw[sz];exact hQ x y g8 tk4 hx hy hz8 (up _ _ ap.nz.2.1 hO5) (D1.frame _ _ _ v1 fun c hc o e=>up c o (fun y=>ap.fz.1 (y▸hc)) e) (D2.frame _ _ _ v2 fun c hc o e=>up c o (fun y=>ap.fz.2 (y▸hc)) e) hT8 sz8
  fun c o c1 c2 c3 c4 e=>up c o c1 (k5 c o c1 c2 c3 c4 e)
theorem mQ(D1:Draws prog w A j1 f1 n1 P1 S1)(D2:Draws prog w A j2 f2 n2 P2 S2)(ap:ZAp z TI TO j1 j2 f1 f2)(hz:IsZip s.heap z TI TO .none)(hI:IsPair s.heap TI (.ref j1) (.ref j2))(hO:IsPair s.heap TO a b)(t1:S1 k s.heap)(t2:S2 k s.heap)(hk:k=n1\/k<n1/\k=n2)(hE:∀g e tk,(∀c o,c≠z->c≠TO->c≠j1->c≠j2->s.heap.get? c=some o->g.get? c=some o)->(∃o,g.get? e=some o/\o.cls=.type "StopIteration")->E (.ref e) {s with heap:=g,toks:=tk}):wpAny (model prog w) A (Builtin.«zip.__next__» ⟨[.ref z],[]⟩) Q E s:=by
 show wpAny _ _ (field (.ref z) 2 >>= _) _ _ s;refine Aa (Di (x:=.bool false) hz rfl rfl ?_);show wpAny _ _ (field (.ref z) 3 >>= _) _ _ s;refine Aa (Di (x:=.ref TI) hz rfl rfl (Aa (Hi hI rfl ?_)));show wpAny _ _ (Builtin.SmallTypes.ownedTupleIsFree (.ref z) >>= _) _ _ s;refine Aa (show wpAny _ _ (Builtin.SmallTypes.ownedTupleIsFree (.ref z)) _ _ s from ?_);unfold Builtin.SmallTypes.ownedTupleIsFree;refine Aa (Di (x:=.none) hz rfl rfl (Af ?_));simp only[if_true];refine Aa (wpAny_rule (Aa (Di (x:=.ref TO) hz rfl rfl ?_)));refine wpAny_bind (Lh hz (by simp) fun g1 hz1 e1=>?_);replace hz1:IsZip g1 z TI TO .ellipsis:=hz1;refine Aa (show wpAny _ _ _ _ _ _ from ?_);simp only[List.zipIdx_nil,List.zipIdx_cons,List.forIn_nil,List.forIn_cons];refine Aa (Aa (wpAny_onRaise ?_));show wpAny _ _ (Builtin.SmallTypes.nextOf (.ref j1) >>= _) _ _ {s with heap:=g1};have q1:S1 k g1:=D1.frame _ _ _ t1 fun c hc o e=>e1.extBut _ _ (fun y=>ap.fz.1 (y▸hc)) e;rcases hk with rfl|⟨hlt,rfl⟩
 .refine Aa (D1.done _ _ _ q1 fun g2 e e2 he=>?_);obtain⟨oe,hoe,hce⟩:=he;have hz2:IsZip g2 z TI TO .ellipsis:=e2 _ _ (Ne.symm ap.nz.2.2.1) hz1;have ez:e≠z:=fun y=>by subst y;rw[hz2]at hoe;cases hoe;simp at hce
  exact Lh hz2 (by simp) fun g3 _ e3=>hE g3 e s.toks (fun c o c1 _ c3 _ y=>e3.extBut _ _ c1 (e2 _ _ c3 (e1.extBut _ _ c1 y))) ⟨oe,e3.extBut _ _ ez hoe,hce⟩
 .refine Aa (D1.item _ _ _ _ hlt q1 fun x g2 tk2 hx u1 e2=>Af ?_);have hO2:IsPair g2 TO a b:=e2.extBut _ _ ap.nO.1 (e1.extBut _ _ ap.nz.2.1 hO);refine Aa (Hi hO2 rfl (Aa (wpAny_updateSeq_pair hO2 fun g3 hO3 e3=>?_)));refine Aa (wpAny_letGo (Af (Aa (Aa (wpAny_onRaise ?_)))));show wpAny _ _ (Builtin.SmallTypes.nextOf (.ref j2) >>= _) _ _ {s with heap:=g3,toks:=tk2};have q2:S2 k g3:=D2.frame _ _ _ t2 fun c hc o e=>e3.extBut _ _ (fun y=>ap.fO.2 (y▸hc)) (e2.extBut _ _ (fun y=>ap.fj.2 (y▸hc)) (e1.extBut _ _ (fun y=>ap.fz.2 (y▸hc)) e));refine Aa (D2.done _ _ _ q2 fun g4 e e4 he=>?_);obtain⟨oe,hoe,hce⟩:=he;have hz4:IsZip g4 z TI TO .ellipsis:=e4 _ _ (Ne.symm ap.nz.2.2.2) (e3.extBut _ _ (Ne.symm ap.nz.2.1) (e2.extBut _ _ (Ne.symm ap.nz.2.2.1) hz1));have ez:e≠z:=fun y=>by subst y;rw[hz4]at hoe;cases hoe;simp at hce
  exact Lh hz4 (by simp) fun g5 _ e5=>hE g5 e tk2 (fun c o c1 c2 c3 c4 y=>e5.extBut _ _ c1 (e4 _ _ c4 (e3.extBut _ _ c2 (e2.extBut _ _ c3 (e1.extBut _ _ c1 y))))) ⟨oe,e5.extBut _ _ ez hoe,hce⟩
theorem iK{Q:a7 Value->Shared->Prop}(D1:Draws prog w A.in1 j1 f1 n1 P1 S1)(D2:Draws prog w A.in1 j2 f2 n2 P2 S2)(ap:ZAp z TI TO j1 j2 f1 f2)(hz:IsZip s.heap z TI TO .none)(hI:IsPair s.heap TI (.ref j1) (.ref j2))(hO:IsPair s.heap TO a b)(t1:S1 k s.heap)(t2:S2 k s.heap)(l1:k<n1)(l2:k<n2)(hQ:∀x y g tk,P1 k x->P2 k y->IsZip g z TI TO (rawInt s.heap.objs.size)->IsPair g TO x y->S1 (k+1) g->S2 (k+1) g->IsPair g s.heap.objs.size x y->g.objs.size=s.heap.objs.size+1 ->(∀c o,c≠z->c≠TO->c≠j1->c≠j2->s.heap.get? c=some o->g.get? c=some o)->Q (some (.ref s.heap.objs.size)) {s with heap:=g,toks:=tk}):wpAny (model prog w) A (pyNext (.ref z)) Q E s:=by
 have ty:s.TypeIs (.ref z) "zip":=⟨_,hz,rfl⟩;unfold pyNext;exact Aa (Ir (Gi (name:=Str.ofString "__next__") ty F.slot_zip_next (Ek F.slot_zip_next ty F.entry_zip_next
  (mw D1 D2 ap hz hI hO t1 t2 l1 l2 fun x y g tk b1 b2 b3 b4 b5 b6 b7 b8 b9=>Af (hQ x y g tk b1 b2 b3 b4 b5 b6 b7 b8 b9)) (F.args_zip_next_1 _))))
theorem oG(D1:Draws prog w A.in1 j1 f1 n1 P1 S1)(D2:Draws prog w A.in1 j2 f2 n2 P2 S2)(ap:ZAp z TI TO j1 j2 f1 f2)(hz:IsZip s.heap z TI TO .none)(hI:IsPair s.heap TI (.ref j1) (.ref j2))(hO:IsPair s.heap TO a b)(t1:S1 k s.heap)(t2:S2 k s.heap)(hk:k=n1\/k<n1/\k=n2)(hQ:∀g tk,(∀c o,c≠z->c≠TO->c≠j1->c≠j2->s.heap.get? c=some o->g.get? c=some o)->Q none {s with heap:=g,toks:=tk}):wpAny (model prog w) A (pyNext (.ref z)) Q E s:=by
 have ty:s.TypeIs (.ref z) "zip":=⟨_,hz,rfl⟩;unfold pyNext;refine Aa (Ir (Gi (name:=Str.ofString "__next__") ty F.slot_zip_next (Ek F.slot_zip_next ty F.entry_zip_next
  (mQ D1 D2 ap hz hI hO t1 t2 hk fun g e tk hc he=>?_) (F.args_zip_next_1 _))))
 obtain⟨o,ho,hc2⟩:=he;exact Aa (wpAny_isInstance (b:=true) (T:="StopIteration") ⟨o,ho,hc2⟩ isSubtype_stop (Af (hQ _ _ hc)))
end
abbrev P6(h:Heap)(l1:Addr):Heap:=h.push {cls:=.type "tuple_iterator",data:=.fields #[.ref l1,.int 0 0]}
abbrev R4(c:String)(h:Heap)(l1 l2:Addr):Heap:=(P6 h l1).push {cls:=.type c,data:=.fields #[.ref l2,.int 0 0]}
abbrev Qw(c:String)(h:Heap)(l1 l2:Addr):Heap:=(R4 c h l1 l2).push {cls:=.type "tuple",data:=.seq #[.ref h.objs.size,.ref (P6 h l1).objs.size]}
abbrev Mu(c:String)(h:Heap)(l1 l2:Addr):Heap:=(Qw c h l1 l2).push {cls:=.type "tuple",data:=.seq #[.none,.none]}
abbrev J2(c:String)(h:Heap)(l1 l2:Addr):Heap:=(Mu c h l1 l2).push {cls:=.type "zip",data:=.fields #[.none,.bool false,.bool false,.ref (R4 c h l1 l2).objs.size,.ref (Qw c h l1 l2).objs.size]}
theorem fE(l1 l2:Addr)(xs ys:Array Value):Meets (Builtin.«zip.__new__» ⟨[.type "zip",.ref l1,.ref l2],[]⟩) (fun _ R s=>s.heap.IsTuple l1 xs/\s.heap.IsList l2 ys /\
   R (.ok (.ret (.ref (Mu "list_iterator" s.heap l1 l2).objs.size))) {s with heap:=J2 "list_iterator" s.heap l1 l2}) :=
 .of_wp fun prog w A R s q=>by
  obtain⟨hp,gs,dr,tk,os⟩:=s;obtain⟨q1,q2,q⟩:=q;have hsub:=sub_zip;have y1:Heap.IsTuple (Shared.heap ⟨hp,gs,dr,tk,os⟩) l1 xs:=q1;have y2:Heap.IsList (Shared.heap ⟨hp.push {cls:=.type "tuple_iterator",data:=.fields #[.ref l1,.int 0 0]},gs,dr,tk,os⟩) l2 ys:=Heap.IsList.push q2 _
  wp_walk using Ks y1,wpAny_pyIter_list y2
  exact⟨_,rfl,q⟩
theorem pS(l1 l2:Addr)(xs ys:Array Value):Meets (Builtin.«zip.__new__» ⟨[.type "zip",.ref l1,.ref l2],[]⟩) (fun _ R s=>s.heap.IsTuple l1 xs/\s.heap.IsTuple l2 ys /\
   R (.ok (.ret (.ref (Mu "tuple_iterator" s.heap l1 l2).objs.size))) {s with heap:=J2 "tuple_iterator" s.heap l1 l2}) :=
 .of_wp fun prog w A R s q=>by
  obtain⟨hp,gs,dr,tk,os⟩:=s;obtain⟨q1,q2,q⟩:=q;have hsub:=sub_zip;have y1:Heap.IsTuple (Shared.heap ⟨hp,gs,dr,tk,os⟩) l1 xs:=q1;have y2:Heap.IsTuple (Shared.heap ⟨hp.push {cls:=.type "tuple_iterator",data:=.fields #[.ref l1,.int 0 0]},gs,dr,tk,os⟩) l2 ys:=let⟨o,ho,r⟩:=q2;⟨o,Bb _ ho,r⟩
  wp_walk using Ks y1,Ks y2
  exact⟨_,rfl,q⟩
theorem aj{c:String}{I:Heap->Prop}(q1:s.heap.IsTuple l1 xs)(q2:I s.heap)(hm:Meets (Builtin.«zip.__new__» ⟨[.type "zip",.ref l1,.ref l2],[]⟩) (fun _ R s=>s.heap.IsTuple l1 xs/\I s.heap/\R (.ok (.ret (.ref (Mu c s.heap l1 l2).objs.size))) {s with heap:=J2 c s.heap l1 l2}))(q:∀g,IsZip g (s.heap.objs.size+4) (s.heap.objs.size+2) (s.heap.objs.size+3) .none->IsPair g (s.heap.objs.size+2) (.ref s.heap.objs.size) (.ref (s.heap.objs.size+1))->IsPair g (s.heap.objs.size+3) .none .none ->g.IsTupleIter s.heap.objs.size l1 0->(∃o,g.get? (s.heap.objs.size+1)=some o/\o.cls=.type c/\o.data=.fields #[.ref l2,.int 0 0])->g.objs.size=s.heap.objs.size+5->(∀c o,s.heap.get? c=some o->g.get? c=some o)->Q (.ref (s.heap.objs.size+4)) {s with heap:=g}):wpAny (model prog w) A (call (.type "zip") [.ref l1,.ref l2]) Q E s:=by
 refine callType_new F.called_zip (by decide) (F.typeCall_zip_2 _ _) (F.newCall_zip_2 _ _) (fun ob=>F.args_object_init_3 ob _ _) F.entry_zip_new hm ⟨q1,q2,?_⟩;have a1:(P6 s.heap l1).objs.size=s.heap.objs.size+1:=Gw ..;have a2:(R4 c s.heap l1 l2).objs.size=s.heap.objs.size+2:=by rw[Gw,a1]
 have a3:(Qw c s.heap l1 l2).objs.size=s.heap.objs.size+3:=by rw[Gw,a2]
 have a4:(Mu c s.heap l1 l2).objs.size=s.heap.objs.size+4:=by rw[Gw,a3]
 have a5:(J2 c s.heap l1 l2).objs.size=s.heap.objs.size+5:=by rw[Gw,a4]
 have b5:(J2 c s.heap l1 l2).get? (Mu c s.heap l1 l2).objs.size=some _:=Cv _ rfl;have b4:(J2 c s.heap l1 l2).get? (Qw c s.heap l1 l2).objs.size=some _:=Bb _ (Cv _ rfl);have b3:(J2 c s.heap l1 l2).get? (R4 c s.heap l1 l2).objs.size=some _:=Bb _ (Bb _ (Cv _ rfl));have b2:(J2 c s.heap l1 l2).get? (P6 s.heap l1).objs.size=some _:=Bb _ (Bb _ (Bb _ (Cv _ rfl)));have b1:(J2 c s.heap l1 l2).get? s.heap.objs.size=some _:=Bb _ (Bb _ (Bb _ (Bb _ (Cv _ rfl))));show _/\_;rw[a2,a3,a4]at b5;rw[a1,a2]at b3;rw[a3]at b4;rw[a1]at b2;rw[a4];exact⟨⟨_,b5,rfl⟩,q _ b5 b3 b4 ⟨_,b1,rfl,rfl⟩ ⟨_,b2,rfl,rfl⟩ a5 fun c o y=>Bb _ (Bb _ (Bb _ (Bb _ (Bb _ y))))⟩
end
end L2
section
namespace Nb
open PySem Spec PyProof.Rows Ev L2
section
variable {Y:Yc}{N:Str->Nat->Prop}{F G:Fz}{s s1:Shared}{r:Ev.Env}{E:Value->Shared->Prop}{tg a b:Expr}{f g:Ev.Env->a7 T}{pos p p2:Pos}{elts:List Expr}{kx:Nat}{ts us:List T}{x y:T}{u:Value}{h':Heap}{k i n:Nat}{t:Bool}{h:Heap}{j l:Addr}{qc:Array Value}
theorem me(hh:Y.A.handled=none)(it:Addr)(n:Nat):Walk Y tg (Ev.rangeT n) F [it] it fun i h=>IsRangeIter h it (0+(i:Nat)*1) ((n:Int)-(i:Nat)) 1:=by
 have W:=Walks.range (prog:=Y.prog) (w:=Y.w) hh it 0 1 n;have get:∀{i:Nat}{t:T},(Ev.rangeT n)[i]?=some t->i<n/\t=.int (i:Int):=fun{i t}h=>by unfold Ev.rangeT at h;rw[Dm]at h;obtain⟨j,h1,rfl⟩:=oms h;obtain⟨h2,h3⟩:=ome h1;rw[List.getElem_range]at h3;subst h3;exact⟨by simpa using h2,rfl⟩
 refine⟨fun q b hb=>by rw[omg hb];exact⟨_,q⟩,fun q k=>k it (by simp) _ q,fun{i x s G E}le hi fn q e=>?_,fun{i s G E}le hi fn q e=>?_,fun q=>wpAny_pyIter_rangeiter q⟩
 .obtain⟨h1,rfl⟩:=get e;refine W.item i s _ _ h1 q fun v h' tk hv st' kk=>?_;obtain⟨t,rfl⟩:=hv;refine⟨_,rfl,O0 (s:={s with heap:=h',toks:=tk}) (n:="range_iterator") st' rfl rfl (by decide) ⟨G,UpX.one (k:=tk) hi (fn it (by simp)) fun b o hb e=>kk b o (by simpa using hb) e,⟨t,by simp⟩,st'⟩⟩
 .have hl:n<=i:=by rw[show(Ev.rangeT n).length=n by simp[Ev.rangeT]]at e;lia
  exact wpAny_pyNext_range_end hh q (by lia) fun h' eb=>⟨rfl,UpX.one (k:=s.toks) hi (fn it (by simp)) fun b o hb e=>eb b o hb e⟩
theorem qD{m:Int}{t1 t2 t3:Tok}{tk:Nat}(hh:Y.A.handled=none)(u:Up F s G s1)(h1 : -(2 ^ 62)<=m)(h2:m<2 ^ 62):wpAny Y.M Y.A (pyIter (.ref s1.heap.objs.size)) (fun itv s2=>∃it fp tn G,itv=.ref it/\Up F s G s2/\(∀b∈fp,s.heap.get? b=none/\G b=none)/\Walk Y tg (Ev.rangeT m.toNat) G fp it tn/\tn 0 s2.heap) E
  {s1 with heap:=s1.heap.push {cls:=.type "range",data:=.fields #[.int 0 t1,.int m t2,.int 1 t3]},toks:=tk}:=by
 refine wpAny_pyIter_range (IsRange.new ..) (small_one (by lia) (by lia) h1 h2) ?_;have u1:Up F s G {s1 with heap:=s1.heap.push {cls:=.type "range",data:=.fields #[.int 0 t1,.int m t2,.int 1 t3]},toks:=tk}:=u.trans (Up.side u.fh);refine⟨_,[_],_,G,rfl,u1.trans (Up.side (k:=tk) u1.fh),fun b hb=>?_,me hh _ m.toNat,?_⟩
 .rw[omg hb];exact⟨u1.old Bs,u1.fh.none Bs⟩
 .have e2:(((m.toNat:Nat):Int)-((0:Nat):Int))=Builtin.Range.rangeSize 0 m 1:=by rw[rangeSize_one];split<;>lia
  show IsRangeIter _ _ ((0:Int)+((0:Nat):Int)*1) (((m.toNat:Nat):Int)-((0:Nat):Int)) 1;rw[e2];exact Cv _ rfl
theorem lL(cm:Y.calm)(hg:Gl Y "range")(hm:Y.mg "range"=none)(ha:Oke Y N a f)(hs:starEach [a] Y.env=[(false,eval a Y.env)]):Hm Y N tg (.Call (.Name "range" p) [a] [] pos) fun r=>(f r).bind fun x=>items .range [x]:=fun{s F r qc E}A q=>by
 obtain⟨x,e1,q⟩:=obs q;refine Call_ (It A hg hm boot_range (PyProof.Rows.callWith_type1 (thn (Pe ha hs pos A (ts:=[x]) (by simp only[e1];rfl)) fun us s1 z=>?_) hs rfl) (by decide) (by decide));obtain⟨G,u,v,w,rfl,r1,r2⟩:=z;cases r2;cases x with
 |int m=>
  obtain⟨tk,rfl⟩:=r1;replace q:(if -4611686018427387904<=m/\m<4611686018427387904 then some (Ev.rangeT m.toNat)else none)=some qc:=q;split at q
  .rename_i hz;cases q;have e62:(2:Int) ^ 62=4611686018427387904:=by decide
   exact call_range_1 (qD (A.hd cm) u (by lia) (by lia))
  .cases q
 |_=>cases q
def ItB(t:Bool)(h:Heap)(j l:Addr)(i:Nat):Prop:=if t then h.IsTupleIter j l i else h.IsListIter j l i
def J5(t:Bool)(h:Heap)(l:Addr)(qc:Array Value):Prop:=if t then h.IsTuple l qc else h.IsList l qc
theorem ItB.at(x:ItB t h j l i)(k:∀o,h.get? j=some o->h'.get? j=some o):ItB t h' j l i:=by
 cases t with
 |true=>obtain⟨o,e,r⟩:=(show h.IsTupleIter j l i from x);exact(show h'.IsTupleIter j l i from⟨o,k o e,r⟩)
 |false=>obtain⟨o,e,r⟩:=(show h.IsListIter j l i from x);exact(show h'.IsListIter j l i from⟨o,k o e,r⟩)
theorem ItB.obj(x:ItB t h j l i):∃o,h.get? j=some o:=by
 cases t with
 |true=>obtain⟨o,e,_⟩:=(show h.IsTupleIter j l i from x);exact⟨o,e⟩
 |false=>obtain⟨o,e,_⟩:=(show h.IsListIter j l i from x);exact⟨o,e⟩
theorem On{prog:Program}{w:World}{A:Around}(t:Bool)(hh:A.handled=none)(j l:Addr)(hne:l≠j)(qc:Array Value):Draws prog w A j [j,l] qc.size (fun i v=>qc[i]?=some v) (fun i h=>ItB t h j l i/\J5 t h l qc):=by
 cases t with
 |true=>exact kI hh j l hne qc
 |false=>exact Draws.list hh j l hne qc
theorem Vs(q:Ji x=some ts)(r:Rep Y.w F x u):∃t l qc,u=.ref l/\(∀{s:Shared}{G:Fz},F.le G->G.In s.heap->J5 t s.heap l qc)/\Reps Y.w F ts qc.toList/\(∃o,F l=some o):=by
 cases x with
 |tup xs=>cases q;obtain⟨a,o,qc,n,rfl,f,c,d,_,r⟩:=r;exact⟨true,a,qc,rfl,fun le hi=>⟨o,hi _ _ (le _ _ f),c,n,d⟩,r,o,f⟩
 |lst xs=>cases q;obtain⟨a,qc,n,rfl,f,_,r⟩:=r;exact⟨false,a,qc,rfl,fun le hi=>⟨_,hi _ _ (le _ _ f),rfl,n,rfl⟩,r,_,f⟩
 |_=>cases q
theorem UpX.lay{fp:List Addr}{o:Obj}(hi:G.In s.heap)(fn:∀b∈fp,G b=none)(hf:∀b∈fp,b≠s.heap.objs.size)(hk:∀b o,b∉fp->s.heap.get? b=some o->h'.get? b=some o)(e:h'.get? s.heap.objs.size=some o):UpX fp G s (fup G s.heap.objs.size o) {s with heap:=h',toks:=k} :=
 ⟨hk,rfl,id,F9 (hi.none Bs),fun b v q=>by
  unfold fup at q;split at q
  .rename_i z;cases q;rw[z];exact e
  .exact hk _ _ (fun z=>by rw[fn b z]at q;cases q) (hi b v q),fun b q=>by
  unfold fup at q;split at q
  .rename_i z;exact .inr (by rw[z];exact Bs)
  .exact .inl q,fun b hb=>by unfold fup;rw[if_neg (hf b hb)];exact fn b hb⟩
theorem ai:∀{ts:List T}{i j:Nat}{t:T},(Fu ts j)[i]?=some t->∃u,ts[i]?=some u/\t=.tup [.int ((j+i:Nat):Int),u]
 |[],i,_,_,h=>by simp[Fu]at h
 |u::ts,0,j,t,h=>by simp[Fu]at h;exact⟨u,rfl,h.symm⟩
 |u::ts,i+1,j,t,h=>by obtain⟨v,h1,h2⟩:=ai (ts:=ts) (i:=i) (j:=j+1) (by simpa[Fu]using h);exact⟨v,by simpa using h1,by rw[h2,show j+1+i=j+(i+1) by lia]⟩
theorem dK:∀(ts:List T)(j:Nat),(Fu ts j).length=ts.length
 |[],_=>rfl
 |_::ts,j=>Av (·+1) (dK ts (j+1))
theorem l8(t:Bool){l it e:Addr}(hh:Y.A.handled=none)(hei:e≠it)(hp:∀{s:Shared}{G:Fz},F.le G->G.In s.heap->J5 t s.heap l qc)(hr:Reps Y.w F ts qc.toList)(hli:l≠it)(hle:l≠e):Walk Y (.Tuple elts kx p2) (Fu ts 0) F [e,it] e fun i h=>(∃old,IsEnum h e it (i:Int) old)/\ItB t h it l i:=by
 have D:=On (prog:=Y.prog) (w:=Y.w) (A:=Y.A.in1) t hh it l hli qc;have hz:=E8 hr;refine⟨fun q b hb=>?_,fun q k=>?_,fun{i x s G E}le hi fn q ex=>?_,fun{i s G E}le hi fn q ex=>?_,fun q h=>?_⟩
 .obtain⟨⟨old,he⟩,hit⟩:=q;rcases omc hb with z|z
  .rw[z];exact⟨_,he⟩
  .rw[omg z];exact hit.obj
 .obtain⟨⟨old,he⟩,hit⟩:=q;exact⟨⟨old,k e (by simp) _ he⟩,hit.at fun o z=>k it (by simp) o z⟩
 .obtain⟨⟨old,he⟩,hit⟩:=q;obtain⟨y,hy,rfl⟩:=ai ex;obtain⟨u,hu,ru⟩:=hr.get hy;have hlt:i<qc.size:=by rw[hz];exact(ome hy).1
  refine wpAny_pyNext_enum_itemD D he ⟨hit,hp le hi⟩ hlt hei (fun z=>(omc z).elim hei fun q=>hle (omg q).symm) fun x' h1 tk hPx ho st1 hT hsz hk=>⟨_,rfl,wpAny_letOwnedTupleGo_enum ho fun h2 he2 hs2=>?_⟩;have hx':x'=u:=by rw[Gb]at hu;have hPx:qc[i]?=some x':=hPx;rw[hu]at hPx;exact(Fe hPx).symm
  subst hx';have elt:e<s.heap.objs.size:=Cu he;obtain⟨oi,hoi⟩:=hit.obj;have e2:h2.get? s.heap.objs.size=some {cls:=.type "tuple",data:=.seq #[.int i tk,x']}:=(hs2.2 _ (Nat.ne_of_gt elt)).trans hT;refine⟨_,UpX.lay (k:=tk+1) hi fn (fun b hb=>?_) (fun b o hb q=>?_) e2,⟨_,_,_,0,rfl,Fq,rfl,rfl,by show 2<=sizeLine;decide,?_⟩,⟨⟨_,by simpa using he2⟩,st1.1.at fun o ho'=>(hs2.2 it (Ne.symm hei)).trans ho'⟩⟩
  .rcases omc hb with z|z
   .rw[z];exact Es elt
   .rw[omg z];exact Es (Cu hoi)
  .exact(hs2.2 b fun z=>hb (by simp[z])).trans (hk b o (fun z=>hb (by simp[z])) (fun z=>hb (by simp[z])) q)
  .exact .cons ⟨tk,by simp⟩ (.cons ((ru.mono le).mono (F9 (hi.none Bs))) rfl)
 .obtain⟨⟨old,he⟩,hit⟩:=q;rw[dK,<-hz]at ex;subst ex;exact wpAny_pyNext_enum_endD D he ⟨hit,hp le hi⟩ fun h1 eb=>⟨rfl,fun b o hb q=>eb b o (fun z=>hb (by simp[z])) q,rfl,id,fun _ _ e=>e,fun b o q=>eb b o (fun z=>by rw[z,fn it (by simp)]at q;cases q) (hi b o q),fun _ z=>.inl z,fn⟩
 .obtain⟨⟨old,he⟩,_⟩:=q;exact wpAny_pyIter_enum he h
end
section
variable {Y:Yc}{N:Str->Nat->Prop}{F G:Fz}{s s1:Shared}{r:Ev.Env}{E:Value->Shared->Prop}{tg a b:Expr}{f g:Ev.Env->a7 T}{pos p p2:Pos}{elts:List Expr}{kx:Nat}{ts us:List T}{x y:T}{u:Value}{h':Heap}{k i n:Nat}{t t1 t2:Bool}{h:Heap}{j l:Addr}{qc jts:Array Value}
theorem pZ{x:T}{qc:List T}(h:items .enum [x]=some qc):∃ts,Ji x=some ts/\qc=Fu ts 0:=by cases x<;>first|(cases h;exact⟨_,rfl,rfl⟩)|(cases h;done)
theorem lM(cm:Y.calm)(hg:Gl Y "enumerate")(hm:Y.mg "enumerate"=none)(ha:Oke Y N a f)(hs:starEach [a] Y.env=[(false,eval a Y.env)]):Hm Y N (.Tuple elts kx p2) (.Call (.Name "enumerate" p) [a] [] pos) fun r=>(f r).bind fun x=>items .enum [x]:=fun{s F r qc E}A q=>by
 obtain⟨x,e1,q⟩:=obs q;refine Call_ (It A hg hm boot_enumerate (PyProof.Rows.callWith_type1 (thn (Pe ha hs pos A (ts:=[x]) (by simp only[e1];rfl)) fun us s1 z=>?_) hs rfl) (by decide) (by decide));obtain⟨G,u,v,w,rfl,r1,r2⟩:=z;cases r2;obtain⟨ts,q1,rfl⟩:=pZ q;obtain⟨t,l,qc,rfl,hp,hr,o,ho⟩:=Vs q1 r1;have llt:l<s1.heap.objs.size:=Cu (u.fh _ _ ho);have fin:∀h',IsEnum h' (s1.heap.objs.size+1) s1.heap.objs.size 0 .none->ItB t h' s1.heap.objs.size l 0->(∀b o,s1.heap.get? b=some o->h'.get? b=some o)->wpAny Y.M Y.A (pyIter (.ref (s1.heap.objs.size+1))) (fun itv s2=>∃it fp tn G,itv=.ref it/\Up F s G s2/\(∀b∈fp,s.heap.get? b=none/\G b=none)/\Walk Y (.Tuple elts kx p2) (Fu ts 0) G fp it tn/\tn 0 s2.heap) E {s1 with heap:=h'}:=fun h' he hit hk=>
  wpAny_pyIter_enum (s:={s1 with heap:=h'}) he ⟨_,[s1.heap.objs.size+1,s1.heap.objs.size],_,G,rfl,u.trans (Up.kept (k:=s1.toks) u.fh hk),fun b hb=>by
   have nb:s1.heap.get? b=none:=by
    rcases omc hb with z|z
    .rw[z];exact Heap.get?_none_of_le (Nat.le_succ _)
    .rw[omg z];exact Bs
   exact⟨u.old nb,u.fh.none nb⟩,l8 t (A.hd cm) (Nat.succ_ne_self _) hp hr (Nat.ne_of_lt llt) (Nat.ne_of_lt (Nat.lt_succ_of_lt llt)),⟨_,by simpa using he⟩,hit⟩
 cases t with
 |false=>exact call_enumerate_list (hp (fun _ _ e=>e) u.fh:s1.heap.IsList l qc) fun h' he hit _ hk=>fin h' he hit hk
 |true=>exact eQ (hp (fun _ _ e=>e) u.fh:s1.heap.IsTuple l qc) fun h' he hit _ hk=>fin h' he hit hk
theorem ao:∀(xs ys:List T),(Ce xs ys).length=min xs.length ys.length
 |[],_=>by simp[Ce]
 |_::_,[]=>by simp[Ce]
 |x::xs,y::ys=>by simp[Ce,ao xs ys]
theorem Yg:∀{xs ys:List T}{i:Nat}{t:T},(Ce xs ys)[i]?=some t->∃x y,xs[i]?=some x/\ys[i]?=some y/\t=.tup [x,y]
 |[],_,_,_,h=>by simp[Ce]at h
 |_::_,[],_,_,h=>by simp[Ce]at h
 |x::xs,y::ys,0,t,h=>by simp[Ce]at h;exact⟨x,y,rfl,rfl,h.symm⟩
 |x::xs,y::ys,i+1,t,h=>by simpa using Yg (xs:=xs) (ys:=ys) (i:=i) (by simpa[Ce]using h)
theorem ane{a b:Nat}(h:a<b\/b<a):(show Addr from a)≠(show Addr from b):=fun e=>by have e:a=b:=e;lia
theorem anm{z a b:Nat}(h1:z<a\/a<z)(h2:z<b\/b<z):(show Addr from z)∉[(show Addr from a),(show Addr from b)]:=fun e=>by
 rcases omc e with e|e
 .exact ane h1 e
 .exact ane h2 (omg e)
theorem Pu{N l1 l2:Nat}(h1:l1<N)(h2:l2<N):ZAp (N+4) (N+2) (N+3) N (N+1) [N,l1] [N+1,l2] :=
 ⟨⟨ane (by lia),ane (by lia),ane (by lia),ane (by lia)⟩,⟨ane (by lia),ane (by lia),ane (by lia)⟩,⟨ane (by lia),ane (by lia)⟩,ane (by lia),⟨anm (by lia) (by lia),anm (by lia) (by lia)⟩,⟨anm (by lia) (by lia),anm (by lia) (by lia)⟩,⟨anm (by lia) (by lia),anm (by lia) (by lia)⟩⟩
end
end Nb
namespace L2
open PySem Spec PyProof.Rows
section
variable {prog:Program}{w:World}{A:Around}{E:Value->Shared->Prop}{s:Shared}
variable {z TI TO j1 j2 T:Addr}{f1 f2:List Addr}{n1 n2 k:Nat}{P1 P2:Nat->Value->Prop}{S1 S2:Nat->Heap->Prop}{a b:Value}{q:Bool}
theorem gR{M:Model}{Q:a7 Obj->Shared->Prop}(h:Q (s.heap.get? T) s):wpAny M A (loadIfAlive T) Q E s:=fun Γ p hΓ=>by unfold loadIfAlive;rw[Sem.wp_loadIfAlive];exact Af h Γ p hΓ
abbrev Gs(h:Heap)(z TI TO T:Addr)(q:Bool):Prop:=h.get? z=some {cls:=.type "zip",dict:=none,data:=.fields #[rawInt T,.bool q,.bool false,.ref TI,.ref TO],slots:=#[]}
theorem Xe{Q:Bool->Shared->Prop}(hz:Gs s.heap z TI TO T q)(hT:∃o,s.heap.get? T=some o)(hQ:∀g,Gs g z TI TO T true->Heap.SameBut z s.heap g->Q false {s with heap:=g}):wpAny (model prog w) A (Builtin.SmallTypes.ownedTupleIsFree (.ref z)) Q E s:=by
 obtain⟨o,ho⟩:=hT;unfold Builtin.SmallTypes.ownedTupleIsFree;refine Aa (Di (x:=rawInt T) hz rfl rfl ?_);show wpAny _ _ (loadIfAlive (Int.toNat (T:Nat)) >>= _) _ _ _;rw[hX];refine Aa (gR ?_);rw[ho];refine Aa (Di (x:=.bool q) hz rfl rfl ?_);cases q with
 |true=>exact Af (hQ s.heap hz (Heap.SameBut.refl ..))
 |false=>exact wpAny_bind (Lh hz (by simp) fun g hg e=>wpAny_pure (hQ g hg e))
theorem mV{Q:Value->Shared->Prop}(D1:Draws prog w A j1 f1 n1 P1 S1)(D2:Draws prog w A j2 f2 n2 P2 S2)(ap:ZAp z TI TO j1 j2 f1 f2)(hz:Gs s.heap z TI TO T q)(hT:∃o,s.heap.get? T=some o)(hI:IsPair s.heap TI (.ref j1) (.ref j2))(t1:S1 k s.heap)(t2:S2 k s.heap)(l1:k<n1)(l2:k<n2)(hQ:∀x y g tk,P1 k x->P2 k y->Gs g z TI TO T true->S1 (k+1) g->S2 (k+1) g->IsPair g s.heap.objs.size x y->g.objs.size=s.heap.objs.size+1 ->(∀c o,c≠z->c≠j1->c≠j2->s.heap.get? c=some o->g.get? c=some o)->Q (.ref s.heap.objs.size) {s with heap:=g,toks:=tk}):wpAny (model prog w) A (Builtin.«zip.__next__» ⟨[.ref z],[]⟩) (fun e s'=>∃v,e=.done (.ret v)/\Q v s') E s:=by
 show wpAny _ _ (field (.ref z) 2 >>= _) _ _ s;refine Aa (Di (x:=.bool false) hz rfl rfl ?_);show wpAny _ _ (field (.ref z) 3 >>= _) _ _ s;refine Aa (Di (x:=.ref TI) hz rfl rfl (Aa (Hi hI rfl ?_)));show wpAny _ _ (Builtin.SmallTypes.ownedTupleIsFree (.ref z) >>= _) _ _ s;refine Aa (Xe hz hT fun g1 hz1 e1=>?_);simp only[Bool.false_eq_true,if_false];refine Aa (show wpAny _ _ _ _ _ _ from ?_);simp only[<-Array.forIn_toList,List.forIn_nil,List.forIn_cons];refine Aa (Aa (E6 ?_));show wpAny _ _ (Builtin.SmallTypes.nextOf (.ref j1) >>= _) _ _ {s with heap:=g1};have q1:S1 k g1:=D1.frame _ _ _ t1 fun c hc o e=>e1.extBut _ _ (fun y=>ap.fz.1 (y▸hc)) e;refine Aa (D1.item k _ _ _ l1 q1 fun x g2 tk2 hx u1 e2=>Af ?_);refine Af (Aa (Aa (E6 ?_)));show wpAny _ _ (Builtin.SmallTypes.nextOf (.ref j2) >>= _) _ _ {s with heap:=g2,toks:=tk2};have q2:S2 k g2:=D2.frame _ _ _ t2 fun c hc o e=>e2.extBut _ _ (fun y=>ap.fj.2 (y▸hc)) (e1.extBut _ _ (fun y=>ap.fz.2 (y▸hc)) e);refine Aa (D2.item k _ _ _ l2 q2 fun y g4 tk4 hy u2 e4=>Af ?_);refine Af (Af (Aa (wpAny_newTuple ?_ (by show 2<=sizeLine;decide))));have sz:g4.objs.size=s.heap.objs.size:=by rw[e4.1,e2.1,e1.1]
 have hz4:Gs g4 z TI TO T true:=e4.extBut _ _ (Ne.symm ap.nz.2.2.2) (e2.extBut _ _ (Ne.symm ap.nz.2.2.1) hz1);have v1:S1 (k+1) g4:=D1.frame _ _ _ u1 fun c hc o e=>e4.extBut _ _ (fun y=>ap.fj.1 (y▸hc)) e;refine Af ⟨_,rfl,?_⟩;show Q (.ref g4.objs.size) {s with heap:=g4.push {cls:=.type "tuple",data:=.seq #[x,y]},toks:=tk4};rw[sz];exact hQ x y _ tk4 hx hy (Bb _ hz4) (D1.frame _ _ _ v1 fun _ _ _ e=>Bb _ e) (D2.frame _ _ _ u2 fun _ _ _ e=>Bb _ e) (by rw[<-sz];exact Cv _ rfl) (by rw[Gw,sz])
  fun c o c1 c2 c3 e=>Bb _ (e4.extBut _ _ c3 (e2.extBut _ _ c2 (e1.extBut _ _ c1 e)))
theorem jr{Q:Fin->Shared->Prop}(D1:Draws prog w A j1 f1 n1 P1 S1)(D2:Draws prog w A j2 f2 n2 P2 S2)(ap:ZAp z TI TO j1 j2 f1 f2)(hz:Gs s.heap z TI TO T q)(hT:∃o,s.heap.get? T=some o)(hI:IsPair s.heap TI (.ref j1) (.ref j2))(t1:S1 k s.heap)(t2:S2 k s.heap)(hk:k=n1\/k<n1/\k=n2)(hE:∀g e tk,(∀c o,c≠z->c≠j1->c≠j2->s.heap.get? c=some o->g.get? c=some o)->(∃o,g.get? e=some o/\o.cls=.type "StopIteration")->E (.ref e) {s with heap:=g,toks:=tk}):wpAny (model prog w) A (Builtin.«zip.__next__» ⟨[.ref z],[]⟩) Q E s:=by
 show wpAny _ _ (field (.ref z) 2 >>= _) _ _ s;refine Aa (Di (x:=.bool false) hz rfl rfl ?_);show wpAny _ _ (field (.ref z) 3 >>= _) _ _ s;refine Aa (Di (x:=.ref TI) hz rfl rfl (Aa (Hi hI rfl ?_)));show wpAny _ _ (Builtin.SmallTypes.ownedTupleIsFree (.ref z) >>= _) _ _ s;refine Aa (Xe hz hT fun g1 hz1 e1=>?_);simp only[Bool.false_eq_true,if_false];refine Aa (show wpAny _ _ _ _ _ _ from ?_);simp only[<-Array.forIn_toList,List.forIn_nil,List.forIn_cons];refine Aa (Aa (E6 ?_));show wpAny _ _ (Builtin.SmallTypes.nextOf (.ref j1) >>= _) _ _ {s with heap:=g1};have q1:S1 k g1:=D1.frame _ _ _ t1 fun c hc o e=>e1.extBut _ _ (fun y=>ap.fz.1 (y▸hc)) e;rcases hk with rfl|⟨hlt,rfl⟩
 .exact Aa (D1.done _ _ _ q1 fun g2 e e2 he=>hE g2 e s.toks (fun c o c1 c2 _ y=>e2 _ _ c2 (e1.extBut _ _ c1 y)) he)
 .refine Aa (D1.item _ _ _ _ hlt q1 fun x g2 tk2 hx u1 e2=>Af ?_);refine Af (Aa (Aa (E6 ?_)));show wpAny _ _ (Builtin.SmallTypes.nextOf (.ref j2) >>= _) _ _ {s with heap:=g2,toks:=tk2};have q2:S2 k g2:=D2.frame _ _ _ t2 fun c hc o e=>e2.extBut _ _ (fun y=>ap.fj.2 (y▸hc)) (e1.extBut _ _ (fun y=>ap.fz.2 (y▸hc)) e);exact Aa (D2.done _ _ _ q2 fun g4 e e4 he=>hE g4 e tk2 (fun c o c1 c2 c3 y=>e4 _ _ c3 (e2.extBut _ _ c2 (e1.extBut _ _ c1 y))) he)
theorem ij{Q:a7 Value->Shared->Prop}(D1:Draws prog w A.in1 j1 f1 n1 P1 S1)(D2:Draws prog w A.in1 j2 f2 n2 P2 S2)(ap:ZAp z TI TO j1 j2 f1 f2)(hz:Gs s.heap z TI TO T q)(hT:∃o,s.heap.get? T=some o)(hI:IsPair s.heap TI (.ref j1) (.ref j2))(t1:S1 k s.heap)(t2:S2 k s.heap)(l1:k<n1)(l2:k<n2)(hQ:∀x y g tk,P1 k x->P2 k y->Gs g z TI TO T true->S1 (k+1) g->S2 (k+1) g->IsPair g s.heap.objs.size x y->g.objs.size=s.heap.objs.size+1 ->(∀c o,c≠z->c≠j1->c≠j2->s.heap.get? c=some o->g.get? c=some o)->Q (some (.ref s.heap.objs.size)) {s with heap:=g,toks:=tk}):wpAny (model prog w) A (pyNext (.ref z)) Q E s:=by
 have ty:s.TypeIs (.ref z) "zip":=⟨_,hz,rfl⟩;unfold pyNext;exact Aa (Ir (Gi (name:=Str.ofString "__next__") ty F.slot_zip_next (Ek F.slot_zip_next ty F.entry_zip_next
  (mV D1 D2 ap hz hT hI t1 t2 l1 l2 fun x y g tk b1 b2 b3 b4 b5 b6 b7 b8=>Af (hQ x y g tk b1 b2 b3 b4 b5 b6 b7 b8)) (F.args_zip_next_1 _))))
theorem iB(D1:Draws prog w A.in1 j1 f1 n1 P1 S1)(D2:Draws prog w A.in1 j2 f2 n2 P2 S2)(ap:ZAp z TI TO j1 j2 f1 f2)(hz:Gs s.heap z TI TO T q)(hT:∃o,s.heap.get? T=some o)(hI:IsPair s.heap TI (.ref j1) (.ref j2))(t1:S1 k s.heap)(t2:S2 k s.heap)(hk:k=n1\/k<n1/\k=n2)(hQ:∀g tk,(∀c o,c≠z->c≠j1->c≠j2->s.heap.get? c=some o->g.get? c=some o)->Q none {s with heap:=g,toks:=tk}):wpAny (model prog w) A (pyNext (.ref z)) Q E s:=by
 have ty:s.TypeIs (.ref z) "zip":=⟨_,hz,rfl⟩;unfold pyNext;refine Aa (Ir (Gi (name:=Str.ofString "__next__") ty F.slot_zip_next (Ek F.slot_zip_next ty F.entry_zip_next
  (jr D1 D2 ap hz hT hI t1 t2 hk fun g e tk hc he=>?_) (F.args_zip_next_1 _))))
 obtain⟨o,ho,hc2⟩:=he;exact Aa (wpAny_isInstance (b:=true) (T:="StopIteration") ⟨o,ho,hc2⟩ isSubtype_stop (Af (hQ _ _ hc)))
end
end L2
namespace Nb
open PySem Spec PyProof.Rows Ev L2
section
variable {i:Nat}{Q:a7 Value->Shared->Prop}{E:Value->Shared->Prop}{elts:List Expr}
variable {F G G2:Fz}{s s1 s2:Shared}{fp:List Addr}{ts us:List T}{qc jts:Array Value}
theorem UpX.trans(a:UpX fp F s G s1)(b:UpX fp G s1 G2 s2):UpX fp F s G2 s2 where
 ext c o h e:=b.ext c o h (a.ext c o h e)
 os:=b.os.trans a.os
 bare h:=b.bare (a.bare h)
 ff c o e:=b.ff c o (a.ff c o e)
 fh:=b.fh
 nw c h:=by
  rcases b.nw c h with q|q
  .exact a.nw c q
  .by_cases hc:c∈fp
   .exact absurd (b.fn c hc) h
   .refine .inr ?_;cases e:s.heap.get? c with
    |none=>rfl
    |some o=>rw[a.ext c o hc e]at q;cases q
 fn:=b.fn
theorem j8:typeLookup (.type "zip") "__len__"=pure none:=by rw[typeLookup_type,builtinLookup_eq_fast];kernel_rfl
theorem qO:typeLookup (.type "zip") "__length_hint__"=pure none:=by rw[typeLookup_type,builtinLookup_eq_fast];kernel_rfl
structure Zl(t1 t2:Bool)(M l1 l2 i:Nat)(h:Heap):Prop where
 z:IsZip h (M+4) (M+2) (M+3) .none\/∃T q,Gs h (M+4) (M+2) (M+3) T q/\∃o,h.get? T=some o
 p:IsPair h (M+2) (.ref M) (.ref (M+1))
 r:∃a b,IsPair h (M+3) a b
 i1:ItB t1 h M l1 i
 i2:ItB t2 h (M+1) l2 i
abbrev Ei(M:Nat):List Addr:=[M+4,M+2,M+3,M,M+1]
theorem Zl.to{t1 t2:Bool}{M l1 l2:Nat}{h h':Heap}(x:Zl t1 t2 M l1 l2 i h)(k:∀b o,h.get? b=some o->∃o',h'.get? b=some o')(k2:∀b∈Ei M,∀o,h.get? b=some o->h'.get? b=some o):Zl t1 t2 M l1 l2 i h' where
 z:=x.z.imp (k2 _ (by simp) _) fun⟨T,q,a,o,b⟩=>⟨T,q,k2 _ (by simp) _ a,k T o b⟩
 p:=k2 _ (by simp) _ x.p
 r:=let⟨a,b,e⟩:=x.r;⟨a,b,k2 _ (by simp) _ e⟩
 i1:=x.i1.at fun o e=>k2 _ (by simp) o e
 i2:=x.i2.at fun o e=>k2 _ (by simp) o e
section
variable {prog:Program}{w:World}{A:Around}{R:Result->Shared->Prop}(t1 t2:Bool){l1 l2 M:Nat}(hh:A.handled=none)(h1:l1<M)(h2:l2<M)
 (hp:∀{s:Shared}{G:Fz},F.le G->G.In s.heap->J5 t1 s.heap l1 qc) (hq:∀{s:Shared}{G:Fz},F.le G->G.In s.heap->J5 t2 s.heap l2 jts) (hr:Reps w F ts qc.toList) (hs:Reps w F us jts.toList)
include hh h1 h2 hp hq hr hs
theorem Ye{x:T}(st:Zl t1 t2 M l1 l2 i s.heap)(le:F.le G)(hi:G.In s.heap)(fn:∀b∈Ei M,G b=none)(ex:(Ce ts us)[i]?=some x)(hQ:∀u G2 s',UpX (Ei M) G s G2 s'->Rep w G2 x u->Zl t1 t2 M l1 l2 (i+1) s'.heap->(IsZip s.heap (M+4) (M+2) (M+3) .none->∃T,u=.ref T/\Gs s'.heap (M+4) (M+2) (M+3) T false)->Q (some u) s'):wpAny (model prog w) A (pyNext (.ref (M+4))) Q E s:=by
 have D1:=On (prog:=prog) (w:=w) (A:=A.in1) t1 hh M l1 (ane (.inl h1)) qc;have D2:=On (prog:=prog) (w:=w) (A:=A.in1) t2 hh (M+1) l2 (ane (by lia)) jts;obtain⟨x,y,hx,hy,rfl⟩:=Yg ex;obtain⟨u,hu,ru⟩:=hr.get hx;obtain⟨u',hu',ru'⟩:=hs.get hy;rw[Gb]at hu hu';obtain⟨zo,hzo⟩:∃o,s.heap.get? (M+4)=some o:=st.z.elim (fun q=>⟨_,q⟩) fun⟨_,_,q,_⟩=>⟨_,q⟩;have zlt:M+4<s.heap.objs.size:=Cu hzo;have k1:=(Array.getElem?_eq_some_iff.mp hu).1;have k2:=(Array.getElem?_eq_some_iff.mp hu').1;have fin:∀v v' g tk,qc[i]?=some v->jts[i]?=some v'->(∃T q,Gs g (M+4) (M+2) (M+3) T q/\∃o,g.get? T=some o)->(∃a b,IsPair g (M+3) a b)->ItB t1 g M l1 (i+1)->ItB t2 g (M+1) l2 (i+1)->IsPair g s.heap.objs.size v v'->(IsZip s.heap (M+4) (M+2) (M+3) .none->Gs g (M+4) (M+2) (M+3) s.heap.objs.size false)->
   (∀c o,c∉[M+4,M+3,M,M+1]->s.heap.get? c=some o->g.get? c=some o)->Q (some (.ref s.heap.objs.size)) {s with heap:=g,toks:=tk}:=fun v v' g tk hv hv' b3 b4 b5 b6 b7 b8 b9=>by
  rw[hu]at hv;rw[hu']at hv';cases hv;cases hv';refine hQ _ (fup G s.heap.objs.size _) _ (UpX.lay (k:=tk) hi fn (fun b hb=>?_) (fun b o hb e=>b9 b o (fun q=>hb ?_) e) b7) ⟨_,_,_,_,rfl,Fq,rfl,rfl,by show 2<=sizeLine;decide,.cons ((ru.mono le).mono (F9 (hi.none Bs))) (.cons ((ru'.mono le).mono (F9 (hi.none Bs))) rfl)⟩ ⟨.inr b3,b9 _ _ (fun q=>?_) st.p,b4,b5,b6⟩ fun e=>⟨_,rfl,b8 e⟩
  .simp only[List.mem_cons,List.not_mem_nil,or_false]at hb;rcases hb with e|e|e|e|e<;>(rw[e];exact Es (show(_:Nat)<_ by lia))
  .simp only[List.mem_cons,List.not_mem_nil,or_false]at q ⊢;rcases q with e|e|e|e
   .exact .inl e
   .exact .inr (.inr (.inl e))
   .exact .inr (.inr (.inr (.inl e)))
   .exact .inr (.inr (.inr (.inr e)))
  .simp only[List.mem_cons,List.not_mem_nil,or_false]at q;rcases q with e|e|e|e
   .exact ane (a:=M+2) (b:=M+4) (by lia) e
   .exact ane (a:=M+2) (b:=M+3) (by lia) e
   .exact ane (a:=M+2) (b:=M) (by lia) e
   .exact ane (a:=M+2) (b:=M+1) (by lia) e
 have four:∀{c:Addr},c∉[M+4,M+3,M,M+1]->c≠M+4/\c≠M+3/\c≠M/\c≠M+1:=fun{c}q=>by simpa using q
 obtain⟨a,b,hO⟩:=st.r;rcases st.z with hz|⟨T,q,hz,hT⟩
 .exact iK D1 D2 (Pu h1 h2) hz st.p hO ⟨st.i1,hp le hi⟩ ⟨st.i2,hq le hi⟩ k1 k2 fun v v' g tk hv hv' b3 b4 b5 b6 b7 b8 b9=>fin v v' g tk hv hv' ⟨_,_,b3,_,b7⟩ ⟨_,_,b4⟩ b5.1 b6.1 b7 (fun _=>b3) fun c o hc e=>b9 c o (four hc).1 (four hc).2.1 (four hc).2.2.1 (four hc).2.2.2 e
 .refine ij D1 D2 (Pu h1 h2) hz hT st.p ⟨st.i1,hp le hi⟩ ⟨st.i2,hq le hi⟩ k1 k2 fun v v' g tk hv hv' b3 b5 b6 b7 b8 b9=>fin v v' g tk hv hv' ⟨T,true,b3,?_⟩ ⟨a,b,b9 _ _ (ane (a:=M+3) (b:=M+4) (by lia)) (ane (a:=M+3) (b:=M) (by lia)) (ane (a:=M+3) (b:=M+1) (by lia)) hO⟩ b5.1 b6.1 b7 (fun e=>by cases hz.symm.trans e) fun c o hc e=>b9 c o (four hc).1 (four hc).2.2.1 (four hc).2.2.2 e;by_cases e1:T=M+4
  .subst e1;exact⟨_,b3⟩
  .by_cases e2:T=M
   .obtain⟨o,e⟩:=b5.1.obj;exact⟨o,e2▸e⟩
   .by_cases e3:T=M+1
    .obtain⟨o,e⟩:=b6.1.obj;exact⟨o,e3▸e⟩
    .obtain⟨o,e⟩:=hT;exact⟨o,b9 T o e1 e2 e3 e⟩
theorem af(st:Zl t1 t2 M l1 l2 i s.heap)(le:F.le G)(hi:G.In s.heap)(fn:∀b∈Ei M,G b=none)(ex:i=(Ce ts us).length)(hQ:∀s',UpX (Ei M) G s G s'->Q none s'):wpAny (model prog w) A (pyNext (.ref (M+4))) Q E s:=by
 have D1:=On (prog:=prog) (w:=w) (A:=A.in1) t1 hh M l1 (ane (.inl h1)) qc;have D2:=On (prog:=prog) (w:=w) (A:=A.in1) t2 hh (M+1) l2 (ane (by lia)) jts;have z1:=E8 hr;have z2:=E8 hs;rw[ao,<-z1,<-z2]at ex;have fin:∀g tk,(∀c o,c∉[M+4,M+3,M,M+1]->s.heap.get? c=some o->g.get? c=some o)->Q none {s with heap:=g,toks:=tk}:=fun g tk hk=>by
  have hk':∀b o,b∉Ei M->s.heap.get? b=some o->g.get? b=some o:=fun b o hb e=>hk b o (fun q=>hb (by
   simp only[List.mem_cons,List.not_mem_nil,or_false]at q ⊢;rcases q with e|e|e|e
   .exact .inl e
   .exact .inr (.inr (.inl e))
   .exact .inr (.inr (.inr (.inl e)))
   .exact .inr (.inr (.inr (.inr e))))) e
  exact hQ _ ⟨hk',rfl,id,fun _ _ e=>e,fun b o q=>hk' b o (fun z=>by rw[fn b z]at q;cases q) (hi b o q),fun _ z=>.inl z,fn⟩
 have four:∀{c:Addr},c∉[M+4,M+3,M,M+1]->c≠M+4/\c≠M+3/\c≠M/\c≠M+1:=fun{c}q=>by simpa using q
 obtain⟨a,b,hO⟩:=st.r;rcases st.z with hz|⟨T,q,hz,hT⟩
 .exact oG D1 D2 (Pu h1 h2) hz st.p hO ⟨st.i1,hp le hi⟩ ⟨st.i2,hq le hi⟩ (k:=i) (by lia) fun g tk hk=>fin g tk fun c o hc e=>hk c o (four hc).1 (four hc).2.1 (four hc).2.2.1 (four hc).2.2.2 e
 .exact iB D1 D2 (Pu h1 h2) hz hT st.p ⟨st.i1,hp le hi⟩ ⟨st.i2,hq le hi⟩ (k:=i) (by lia) fun g tk hk=>fin g tk fun c o hc e=>hk c o (four hc).1 (four hc).2.2.1 (four hc).2.2.2 e
theorem iz(S:Addr)(hS:S∉Ei M)(res:Value)(hn:(Ce ts us).length<=sizeLine):∀(k i:Nat)(s:Shared)(acc:Array Value)(c:Nat)(G:Fz),(Ce ts us).length-i=k->i<=(Ce ts us).length->Zl t1 t2 M l1 l2 i s.heap->F.le G->G.In s.heap->(∀b∈S::Ei M,G b=none) ->s.heap.get? S=some {cls:=.type "list",dict:=none,data:=.seq acc c,slots:=#[]}->Reps w G ((Ce ts us).take i) acc.toList ->(∀s' acc' c' G',UpX (S::Ei M) G s G' s'->s'.heap.get? S=some {cls:=.type "list",dict:=none,data:=.seq acc' c',slots:=#[]}->Reps w G' (Ce ts us) acc'.toList->R (.ok (.ret res)) s') ->codeAny (model prog w) A (.builtin "list.extend.loop" ⟨[.ref S,.ref (M+4),res],[]⟩) R s:=by
 intro k
 induction k with
 |zero=>
  intro i s acc c G hk hi st le hi2 fn hS1 ra hR;have hin:i=(Ce ts us).length:=by lia
  refine codeAny_builtin PySem.F.entry_extend_loop ?_;rw[Around.under_plainId PySem.F.plain_extend_loop _];show wpAny _ A.in1 (pyNext (.ref (M+4)) >>= _) _ _ s;refine Aa (af (A:=A.in1) t1 t2 hh h1 h2 hp hq hr hs st le hi2 (fun b hb=>fn b (.tail _ hb)) hin fun s' u=>?_);exact Af (hR s' acc c G ⟨fun b o hb=>u.ext b o fun z=>hb (.tail _ z),u.os,u.bare,u.ff,u.fh,u.nw,fn⟩ (u.ext _ _ hS hS1) (by rw[hin,List.take_length]at ra;exact ra))
 |succ k ih=>
  intro i s acc c G hk hi st le hi2 fn hS1 ra hR;have hlt:i<(Ce ts us).length:=by lia
  refine codeAny_builtin PySem.F.entry_extend_loop ?_;rw[Around.under_plainId PySem.F.plain_extend_loop _];show wpAny _ A.in1 (pyNext (.ref (M+4)) >>= _) _ _ s;refine Aa (Ye (A:=A.in1) t1 t2 hh h1 h2 hp hq hr hs st le hi2 (fun b hb=>fn b (.tail _ hb)) (Dw hlt) fun u G2 s' up ru st' _=>?_);have hS':=up.ext S _ hS hS1;have gS:G2 S=none:=by
   cases e:G2 S with
   |none=>rfl
   |some o=>
    rcases up.nw S (by rw[e];exact fun h=>by cases h)with q|q
    .exact absurd (fn S (.head _)) q
    .rw[hS1]at q;cases q
  have sz:acc.size=i:=by have:=ra.length;rw[Kf]at this;have e:acc.toList.length=acc.size:=E7;lia
  have fS:∀b∈S::Ei M,G2 b=none:=fun b hb=>(omc hb).elim (fun e=>e▸gS) fun hb=>up.fn b hb;have oth:∀{b:Addr}{o:Obj}{g:Obj->Obj},b≠S->s'.heap.get? b=some o->(s'.heap.update S g).get? b=some o:=fun n e=>(Heap.get?_update_other _ _ (Ne.symm n)).trans e;have m1:UpX (S::Ei M) G s G2 {s' with heap:=s'.heap.update S (Obj.mapSeq (·.push u))}:=⟨fun b o hb e=>oth (fun h=>hb (by rw[h];exact .head _)) (up.ext b o (fun z=>hb (.tail _ z)) e),up.os,up.bare,up.ff,fun b o e=>oth (fun h=>by rw[h,gS]at e;cases e) (up.fh b o e),up.nw,fS⟩;show wpAny _ A.in1 (updateSeq S (·.push u) >>= _) _ _ _;refine Aa ?_;refine wpAny_updateSeq hS' rfl (Af ⟨plainId_quiet PySem.F.plain_extend_loop _,ih (i+1) _ (acc.push u) _ G2 (by lia) hlt (st'.to (fun b o e=>?_) fun b hb o e=>oth (fun h=>hS (h▸hb)) e) (fun b o e=>up.ff b o (le b o e)) m1.fh fS (Heap.get?_update_self _ hS' rfl) ?_ fun s'' acc' c' G' up2 hS'' ra'=>hR s'' acc' c' G' (m1.trans up2) hS'' ra'⟩)
   (by rw[sz];lia) (by show(acc.push u).size<=sizeLine+1;rw[Array.size_push,sz];lia)
  .by_cases hb:b=S
   .subst hb;exact⟨_,Heap.get?_update_self _ hS' rfl⟩
   .exact⟨o,oth hb e⟩
  .rw[List.take_succ,Dw hlt,Array.toList_push];exact(ra.mono up.ff).app (.cons ru rfl)
theorem fH(hh2:A.in1.handled=none)(S:Addr)(hS:S∉Ei M)(res:Value)(hn:(Ce ts us).length<=sizeLine){c:Nat}(st:Zl t1 t2 M l1 l2 0 s.heap)(hz:IsZip s.heap (M+4) (M+2) (M+3) .none)(hi:F.In s.heap)(fn:∀b∈S::Ei M,F b=none)(hS1:s.heap.get? S=some {cls:=.type "list",dict:=none,data:=.seq #[] c,slots:=#[]})(hR:∀s' acc' c' G',UpX (S::Ei M) F s G' s'->s'.heap.get? S=some {cls:=.type "list",dict:=none,data:=.seq acc' c',slots:=#[]}->Reps w G' (Ce ts us) acc'.toList->R (.ok (.ret res)) s'):wpAny (model prog w) A.in1 (Builtin.List.listExtendWith (.ref S) (.ref (M+4)) res) (fun fin s'=>match fin with|.done f=>R (.ok f) s'|.again c'=>c'.quiet=true/\codeAny (model prog w) A c' R s') (fun e s'=>R (.error e) s') s:=by
 have ty:∀{s:Shared},IsZip s.heap (M+4) (M+2) (M+3) .none->s.TypeIs (.ref (M+4)) "zip":=fun h=>⟨_,h,rfl⟩;have hSI:S≠M+4:=fun e=>hS (e▸.head _);unfold Builtin.List.listExtendWith;refine Aa (wpAny_typeOf (ty hz) ?_);have h1:Builtin.List.listSameRef (.ref S) (.ref (M+4))=false:=by simp[Builtin.List.listSameRef,hSI]
 have h2:(Value.type "zip"==Value.type "list")=false:=by decide
 have h3:(Value.type "zip"==Value.type "tuple")=false:=by decide
 simp only[h1,h2,h3,Bool.or_false,Bool.false_eq_true,if_false];refine Aa (wpAny_pyIter_zip hz ?_);refine Aa (E6 ?_);unfold Builtin.List.listLengthHint;refine Aa (wpAny_specialOf (ty hz) j8 ?_);show wpAny _ A.in1 (specialOf (Value.ref (M+4)) (Str.ofString "__length_hint__") >>= _) _ _ _;refine Aa (wpAny_specialOf (ty hz) qO ?_);refine Af ?_;show wpAny _ A.in1 (rule "list.extend.makes-room" >>= fun _=>Builtin.List.listTouch (.ref S) >>= fun _=>again (.builtin "list.extend.loop" ⟨[.ref S,.ref (M+4),res],[]⟩)) _ _ _;refine Aa (wpAny_rule ?_);refine Aa ?_;show wpAny _ A.in1 (updateSeq S (·.push .none) >>= fun _=>updateSeq S (·.pop)) _ _ _;refine Aa (wpAny_updateSeq hS1 rfl ?_);have hS₂:=Heap.get?_update_self (Obj.mapSeq (·.push Value.none)) hS1 rfl;refine wpAny_updateSeq (hz:=by seq_fits) hS₂ rfl ?_;have hS₃:=Heap.get?_update_self (Obj.mapSeq (·.pop)) hS₂ rfl;have oth:∀b o,b≠S->s.heap.get? b=some o->((s.heap.update S (Obj.mapSeq (·.push Value.none))).update S (Obj.mapSeq (·.pop))).get? b=some o :=
  fun b o hb e=>(Heap.get?_update_other _ _ (Ne.symm hb)).trans ((Heap.get?_update_other _ _ (Ne.symm hb)).trans e)
 have m0:UpX (S::Ei M) F s F {s with heap:=(s.heap.update S (Obj.mapSeq (·.push Value.none))).update S (Obj.mapSeq (·.pop))}:=⟨fun b o hb e=>oth b o (fun h=>hb (h▸.head _)) e,rfl,id,fun _ _ e=>e,fun b o e=>oth b o (fun h=>by rw[h,fn S (.head _)]at e;cases e) (hi b o e),fun _ z=>.inl z,fn⟩;refine Af ⟨plainId_quiet PySem.F.plain_extend_loop _,iz (A:=A) t1 t2 hh2 ‹_› ‹_› hp hq hr hs S hS res hn _ 0 _ _ _ F rfl (E9 _) (st.to (fun b o e=>?_) fun b hb o e=>oth b o (fun h=>hS (h▸hb)) e) (fun _ _ e=>e) m0.fh fn hS₃ rfl fun s' acc' c' G' up hS' ra=>hR s' acc' c' G' (m0.trans up) hS' ra⟩;by_cases hb:b=S
 .subst hb;exact⟨_,hS₃⟩
 .exact⟨o,oth b o hb e⟩
theorem nN{Q:Value->Shared->Prop}(hn:(Ce ts us).length<=sizeLine)(st:Zl t1 t2 M l1 l2 0 s.heap)(hz:IsZip s.heap (M+4) (M+2) (M+3) .none)(hi:F.In s.heap)(fn:∀b∈Ei M,F b=none)(hQ:∀s' acc c G',UpX (s.heap.objs.size::Ei M) F s G' s'->s'.heap.get? s.heap.objs.size=some {cls:=.type "list",dict:=none,data:=.seq acc c,slots:=#[]}->Reps w G' (Ce ts us) acc.toList->Q (.ref s.heap.objs.size) s'):wpAny (model prog w) A (call (.type "list") [.ref (M+4)]) Q E s:=by
 have lz:M+4<s.heap.objs.size:=Cu hz;have hSf:(show Addr from s.heap.objs.size)∉Ei M:=fun hm=>by simp only[List.mem_cons,List.not_mem_nil,or_false]at hm;rcases hm with e|e|e|e|e<;>exact absurd e (Nat.ne_of_gt (show(_:Nat)<_ by lia))
 refine callType_codes (Q₁:=fun obj s₁=>obj=.ref s.heap.objs.size/\s₁={s with heap:=s.heap.push {cls:=.type "list",data:=.seq #[]} }) PySem.F.called_list (PySem.F.typeCall_list_1 _) PySem.F.entry_list_init
  (code_list_new _ ⟨rfl,rfl⟩) fun obj s₁ h₁=>?_
 obtain⟨rfl,rfl⟩:=h₁;have hS:(s.heap.push {cls:=.type "list",data:=.seq #[]}).get? s.heap.objs.size=some {cls:=.type "list",data:=.seq #[]}:=Cv _ rfl;refine⟨⟨_,hS,rfl⟩,PySem.F.args_list_init_2 _ _,?_⟩;show wpAny _ A.in1.in1 (do let old <-Builtin.List.listItems (.ref s.heap.objs.size);Builtin.List.listUpdate (.ref s.heap.objs.size) (fun _=>#[]);letGo old.toList.reverse;Builtin.List.listExtendWith (.ref s.heap.objs.size) (.ref (M+4)) .none) _ _ _;refine Aa ?_;unfold Builtin.List.listItems;refine Aa (Hi hS rfl (Af ?_));show wpAny _ A.in1.in1 (updateSeq s.heap.objs.size (fun _=>#[]) >>= fun _=>letGo (#[]:Array Value).toList.reverse >>= fun _=>Builtin.List.listExtendWith (.ref s.heap.objs.size) (.ref (M+4)) .none) _ _ _;refine Aa (wpAny_updateSeq hS rfl ?_);have hS₂:=Heap.get?_update_self (Obj.mapSeq (fun _=>(#[]:Array Value))) hS rfl;have oth:∀b o,s.heap.get? b=some o->((s.heap.push {cls:=.type "list",data:=.seq #[]}).update s.heap.objs.size (Obj.mapSeq (fun _=>(#[]:Array Value)))).get? b=some o :=
  fun b o e=>(Heap.get?_update_other _ _ (Ne.symm (Es (Cu e)))).trans (Bb _ e)
 have fS:∀b∈s.heap.objs.size::Ei M,F b=none:=fun b hb=>(omc hb).elim (fun e=>e▸hi.none Bs) (fn b);have m0:UpX (s.heap.objs.size::Ei M) F s F {s with heap:=(s.heap.push {cls:=.type "list",data:=.seq #[]}).update s.heap.objs.size (Obj.mapSeq (fun _=>(#[]:Array Value)))}:=⟨fun b o _ e=>oth b o e,rfl,id,fun _ _ e=>e,fun b o e=>oth b o (hi b o e),fun _ z=>.inl z,fS⟩;refine Aa (wpAny_letGo ?_);exact fH (A:=A.in1) t1 t2 hh h1 h2 hp hq hr hs hh _ hSf .none hn (st.to (fun b o e=>⟨o,oth b o e⟩) fun b _ o e=>oth b o e) (oth _ _ hz) m0.fh fS hS₂ fun s' acc' c' G' up hS' ra=>⟨rfl,hQ s' acc' c' G' (m0.trans up) hS' ra⟩
end
variable {Y:Yc}{N:Str->Nat->Prop}{a b:Expr}{f g:Ev.Env->a7 T}{pos p p1 p2:Pos}
def Zv(Y:Yc)(F:Fz)(s:Shared)(ts us:List T)(v:Value)(s2:Shared):Prop:=∃(M l1 l2:Nat)(t2:Bool)(xs ys:Array Value)(G:Fz),v=.ref (M+4)/\Up F s G s2/\l1<M/\l2<M/\(∀{s:Shared}{G':Fz},G.le G'->G'.In s.heap->J5 true s.heap l1 xs)/\(∀{s:Shared}{G':Fz},G.le G'->G'.In s.heap->J5 t2 s.heap l2 ys)/\Reps Y.w G ts xs.toList/\Reps Y.w G us ys.toList/\Zl true t2 M l1 l2 0 s2.heap/\IsZip s2.heap (M+4) (M+2) (M+3) .none/\∀b∈Ei M,s.heap.get? b=none/\G b=none
theorem Yt{x y:T}{qc:List T}(q:items .zip [x,y]=some qc):∃ts us,x=.tup ts/\Ji y=some us/\qc=Ce ts us:=by
 cases x with
 |tup ts=>obtain⟨us,q3,q2⟩:=obs (show((Ji y).bind fun ys=>some (Ce ts ys))=some qc from q);cases q2;exact⟨ts,us,rfl,q3,rfl⟩
 |_=>cases q
theorem dc(cm:Y.calm)(hg:Gl Y "zip")(hm:Y.mg "zip"=none)(ha:Oke Y N a f)(hb:Oke Y N b g)(hs:starEach [a,b] Y.env=(false,eval a Y.env)::starEach [b] Y.env)(hs2:starEach [b] Y.env=[(false,eval b Y.env)]){r:Ev.Env}{y:T}(A:At Y N r F s)(e1:f r=some (.tup ts))(e2:g r=some y)(q2:Ji y=some us):wpAny Y.M Y.A (eval (.Call (.Name "zip" p) [a,b] [] p2) Y.env) (Zv Y F s ts us) E s:=by
 refine Call_ (It A hg hm (show bootBuiltins "zip"=some (.type "zip") by decide +kernel) (PyProof.Rows.callWith_type1 (thn (Hs ha (Hs hb Li (by rw[hs2];rfl)) hs p2 A (ts:=[.tup ts,y]) (E:=E) (by simp only[e1,e2];rfl)) fun us' s1 z=>?_) hs (by rw[hs2];rfl)) (by decide) (by decide));obtain⟨G,u,v1,w1,rfl,r1,v2,w2,rfl,r2,r3⟩:=z;cases r3;obtain⟨t1,l1,xs,rfl,hp,hr,o1,ho1⟩:=Vs (show Ji (.tup ts)=some ts from rfl) r1;obtain⟨t2,l2,ys,rfl,hq,hr2,o2,ho2⟩:=Vs q2 r2;have et:t1=true:=by
  obtain⟨a,o,qc,n,e,f,c,d,_⟩:=r1;cases e;cases t1 with
  |true=>rfl
  |false=>obtain⟨o',e',c',_⟩:=(show s1.heap.IsList l1 xs from hp (fun _ _ e=>e) u.fh);rw[u.fh _ _ f]at e';cases e';exact absurd (c.symm.trans c') tl
 subst et;have fin:∀{g:Heap},IsZip g (s1.heap.objs.size+4) (s1.heap.objs.size+2) (s1.heap.objs.size+3) .none->IsPair g (s1.heap.objs.size+2) (.ref s1.heap.objs.size) (.ref (s1.heap.objs.size+1))->IsPair g (s1.heap.objs.size+3) .none .none->
   ItB true g s1.heap.objs.size l1 0->ItB t2 g (s1.heap.objs.size+1) l2 0->(∀c o,s1.heap.get? c=some o->g.get? c=some o)->Zv Y F s ts us (.ref (s1.heap.objs.size+4)) {s1 with heap:=g}:=fun{g}y1 y2 y3 y4 y5 k=>
  ⟨s1.heap.objs.size,l1,l2,t2,xs,ys,G,rfl,u.trans (Up.kept (k:=s1.toks) u.fh k),Cu (u.fh _ _ ho1),Cu (u.fh _ _ ho2),hp,hq,hr,hr2,⟨.inl y1,y2,⟨_,_,y3⟩,y4,y5⟩,y1,fun b hb=>by
   have le:s1.heap.objs.size<=b:=by simp only[List.mem_cons,List.not_mem_nil,or_false]at hb;rcases hb with e|e|e|e|e<;>(rw[e];show(_:Nat)<=_;lia)
   have nb:=Heap.get?_none_of_le le;exact⟨u.old nb,u.fh.none nb⟩⟩
 cases t2
 .exact aj (I:=fun h=>h.IsList l2 ys) (hp (fun _ _ e=>e) u.fh) (hq (fun _ _ e=>e) u.fh) (fE l1 l2 xs ys) fun g y1 y2 y3 y4 y5 _ k=>fin y1 y2 y3 y4 y5 k
 .exact aj (I:=fun h=>h.IsTuple l2 ys) (hp (fun _ _ e=>e) u.fh) (hq (fun _ _ e=>e) u.fh) (pS l1 l2 xs ys) fun g y1 y2 y3 y4 y5 _ k=>fin y1 y2 y3 y4 y5 k
theorem jw{tp:Pos}{kx:Nat}(t1 t2:Bool){l1 l2 M:Nat}(hh:Y.A.handled=none)(h1:l1<M)(h2:l2<M)(hp:∀{s:Shared}{G:Fz},F.le G->G.In s.heap->J5 t1 s.heap l1 qc)(hq:∀{s:Shared}{G:Fz},F.le G->G.In s.heap->J5 t2 s.heap l2 jts)(hr:Reps Y.w F ts qc.toList)(hs:Reps Y.w F us jts.toList):Walk Y (.Tuple elts kx tp) (Ce ts us) F (Ei M) (M+4) fun i h=>IsZip h (M+4) (M+2) (M+3) .none/\Zl t1 t2 M l1 l2 i h:=by
 refine⟨fun q b hb=>?_,fun q k=>⟨k _ (by simp) _ q.1,.inl (k _ (by simp) _ q.1),k _ (by simp) _ q.2.p,let⟨a,b,e⟩:=q.2.r;⟨a,b,k _ (by simp) _ e⟩,q.2.i1.at fun o e=>k _ (by simp) o e,q.2.i2.at fun o e=>k _ (by simp) o e⟩,fun{i x s G E}le hi fn q ex=>?_,fun{i s G E}le hi fn q ex=>?_,fun q h=>wpAny_pyIter_zip q.1 h⟩
 .obtain⟨s1,_,s2,⟨a,c,s3⟩,s4,s5⟩:=q;simp only[List.mem_cons,List.not_mem_nil,or_false]at hb;rcases hb with rfl|rfl|rfl|rfl|rfl
  .exact⟨_,s1⟩
  .exact⟨_,s2⟩
  .exact⟨_,s3⟩
  .exact s4.obj
  .exact s5.obj
 .refine Ye t1 t2 hh h1 h2 hp hq hr hs q.2 le hi fn ex fun u G2 s' up ru st hT=>?_;obtain⟨T,rfl,hz⟩:=hT q.1;refine⟨_,rfl,wpAny_letOwnedTupleGo_zip hz fun g e1 e2=>?_⟩;have k:∀b o,b≠M+4->s'.heap.get? b=some o->g.get? b=some o:=fun b o hb e=>(e2.2 b hb).trans e;refine⟨G2,up.trans ⟨fun b o hb e=>k b o (fun h=>hb (h▸.head _)) e,rfl,id,fun _ _ e=>e,fun b o e=>k b o (fun h=>by rw[h,up.fn _ (.head _)]at e;cases e) (up.fh b o e),fun _ z=>.inl z,up.fn⟩,ru,e1,.inl e1,k _ _ (ane (a:=M+2) (b:=M+4) (by lia)) st.p,let⟨a,b,e⟩:=st.r;⟨a,b,k _ _ (ane (a:=M+3) (b:=M+4) (by lia)) e⟩,st.i1.at fun o e=>k _ o (ane (a:=M) (b:=M+4) (by lia)) e,st.i2.at fun o e=>k _ o (ane (a:=M+1) (b:=M+4) (by lia)) e⟩
 .exact af t1 t2 hh h1 h2 hp hq hr hs q.2 le hi fn ex.symm fun s' up=>⟨rfl,up⟩
theorem gP{tp:Pos}{kx:Nat}(cm:Y.calm)(hg:Gl Y "zip")(hm:Y.mg "zip"=none)(ha:Oke Y N a f)(hb:Oke Y N b g)(hs:starEach [a,b] Y.env=(false,eval a Y.env)::starEach [b] Y.env)(hs2:starEach [b] Y.env=[(false,eval b Y.env)]):Hm Y N (.Tuple elts kx tp) (.Call (.Name "zip" p) [a,b] [] pos) fun r=>(f r).bind fun x=>(g r).bind fun y=>items .zip [x,y]:=fun{s F r qc E}A q=>by
 obtain⟨x,e1,q⟩:=obs q;obtain⟨y,e2,q⟩:=obs q;obtain⟨ts,us,rfl,q2,rfl⟩:=Yt q;refine thn (dc cm hg hm ha hb hs hs2 A e1 e2 q2) fun v s2 z=>?_;obtain⟨M,l1,l2,t2,xs,ys,G,rfl,u,lt1,lt2,hp,hq,hr,hr2,st,hz,fn⟩:=z;exact wpAny_pyIter_zip hz ⟨_,_,_,G,rfl,u,fn,jw true t2 (A.hd cm) lt1 lt2 hp hq hr hr2,hz,st⟩
theorem qj(cm:Y.calm)(hl:Gl Y "list")(ml:Y.mg "list"=none)(hg:Gl Y "zip")(hm:Y.mg "zip"=none)(ha:Oke Y N a f)(hb:Oke Y N b g)(hs:starEach [a,b] Y.env=(false,eval a Y.env)::starEach [b] Y.env)(hs2:starEach [b] Y.env=[(false,eval b Y.env)]):Oke Y N (.Call (.Name "list" p1) [.Call (.Name "zip" p) [a,b] [] p2] [] pos) fun r=>(f r).bind fun x=>(g r).bind fun y=>(Ed .zip [x,y]).map T.lst:=fun{s F r t E}A q=>by
 obtain⟨x,e1,q⟩:=obs q;obtain⟨y,e2,q⟩:=obs q;obtain⟨qc,q1,rfl⟩:=oms q;obtain⟨zs,q,hz⟩:=obs (show((items .zip [x,y]).bind fun qc=>if qc.length<=SZ then some qc else none)=some qc from q1);split at hz
 rotate_left
 .cases hz
 rename_i hsz;cases hz;obtain⟨ts,us,rfl,q2,rfl⟩:=Yt q;refine Call_ (It A hl ml (show bootBuiltins "list"=some (.type "list") by decide +kernel) (PyProof.Rows.callWith_type1 (e:=.Call (.Name "zip" p) [a,b] [] p2) (rest:=[]) (Calls.spliced_cons (thn (dc cm hg hm ha hb hs hs2 A e1 e2 q2) fun v s2 z=>Calls.spliced_nil ?_)) rfl rfl) (by decide) (by decide));obtain⟨M,l1,l2,t2,xs,ys,G,rfl,u,lt1,lt2,hp,hq,hr,hr2,st,hz,fn⟩:=z;refine nN true t2 (A.hd cm) lt1 lt2 hp hq hr hr2 hsz st hz u.fh (fun b hb=>(fn b hb).2) fun s' acc c G' up hS ra=>?_;have gS:G' s2.heap.objs.size=none:=up.fn _ (.head _);have sz:acc.size<=sizeLine:=by have:=ra.length;have e:acc.toList.length=acc.size:=E7;exact Cr (by lia) hsz
 refine⟨fup G' s2.heap.objs.size _,⟨fun b o e=>up.ext b o (fun hb=>?_) (u.ext b o e),up.os.trans u.os,fun q=>up.bare (u.bare q),fun b o e=>F9 gS b o (up.ff b o (u.ff b o e)),fun b o e=>?_,fun b e=>?_⟩,_,acc,c,rfl,Fq,sz,ra.mono (F9 gS)⟩
 .rcases omc hb with z|z
  .have:=u.ext b o e;rw[z,Bs]at this;cases this
  .rw[(fn b z).1]at e;cases e
 .unfold fup at e;split at e
  .rename_i z;cases e;rw[z];exact hS
  .exact up.fh b o e
 .unfold fup at e;split at e
  .rename_i z;exact .inr (by rw[z];exact u.old Bs)
  .rcases up.nw b e with z|z
   .exact u.nw b z
   .exact .inr (u.old z)
end
end Nb
section
namespace Nb
open PySem Spec PyProof.Rows Ev
section
def Jj:Expr->Bool
 |.Constant ..=>true
 |.Name ..=>true
 |.BinOp ..=>true
 |.UnaryOp ..=>true
 |.BoolOp ..=>true
 |.Compare ..=>true
 |.Tuple ..=>true
 |.List ..=>true
 |.Subscript ..=>true
 |.Call _ (_::_) _ _=>true
 |.ListComp ..=>true
 |.IfExp ..=>true
 |.Dict ..=>true
 |_=>false
def Tf:Expr->Bool
 |.ListComp ..=>true
 |_=>false
def N7:Expr->Bool
 |.Slice ..=>true
 |_=>false
def Nu:Expr->Bool
 |.Name ..=>true
 |.Call ..=>true
 |.Subscript ..=>true
 |_=>false
section
variable {e:Expr}{env:PySem.Env}
theorem Dg(h:Jj e=true)(es:List Expr)(env:PySem.Env):starEach (e::es) env=(false,eval e env)::starEach es env:=by cases e<;>first|rfl|cases h
theorem R9(h:Jj e=true)(m:Str)(env:PySem.Env)(w:Sem Value):attributeBase e m env w=w:=by
 cases e with
 |Call f args kws pos=>
  cases args with
  |nil=>cases h
  |cons a as=>cases f<;>rfl
 |_=>rfl
theorem aO(h:Jj e=true)(env:PySem.Env):∀x,foldedSetIterable e env x=pure x:=by cases e<;>first|(intro x;rfl)|cases h
theorem dk(h:Jj e=true)(op:CmpOp):behindInMarks op e=false:=by cases e<;>first|rfl|cases h
theorem dN(h:Jj e=true)(hc:Tf e=false)(t:a7 Expr)(l:Nat)(env:PySem.Env):swapsWith e t l env=pure false:=by cases e<;>first|rfl|(cases hc;done)|(cases h;done)
theorem jL(h:N7 e=false):Qh e:=by cases e<;>first|(intro o i;rfl)|cases h
theorem jH(h:Nu e=true)(env:PySem.Env):∀w,isTrue e env w=(do let v <-w;standAt e.pos;holding [v] (truthy v)):=by cases e<;>first|(intro w;rfl)|cases h
end
def bnames:List Str:=["len", "int", "list", "tuple", "min", "max", "any", "sorted", "dict", "range", "enumerate", "zip", "isinstance", "bool", "set"]
structure Gd(Y:Yc)(c:Tc)(G:Glo):Prop where
 sc:Im Y c.sc
 rm:Y.Rm
 cm:Y.calm
 bn:∀x∈bnames,Y.mg x=none
 call:∀f ts,((G.call f ts).isSome=true\/(G.exc f ts).isSome=true)->∃k a fd ps,Fn Y.toPc k a fd ps (G.call f) (G.exc f)/\Room k Y.A/\Y.mg f=some (.ref a)/\W.keepIn Y.K (.ref a)=true/\(∀us:List Value,us.length=ps.length->bindArgs fd ⟨us,[]⟩=pure (ps.zip us))/\(∀{ts t},G.call f ts=some t->ts.length=ps.length)/\∀{ts t},G.exc f ts=some t->ts.length=ps.length
structure VE(c:Tc)(e:Expr) where
 x:E
 pl:Jj e=true
 ok:∀{Y G},Gd Y c G->Oke Y c.N e (Ac G x)
structure TE(c:Tc)(e:Expr) where
 x:E
 ok:∀{Y G},Gd Y c G->Okb Y c.N e (Ac G x)
structure WE(c:Tc)(e:Expr) where
 x:E
 ok:∀{Y G},Gd Y c G->Okw Y c.N e (Ac G x)
structure LE(c:Tc)(es:List Expr) where
 xs:List E
 len:xs.length=es.length
 ok:∀{Y G},Gd Y c G->Oks Y c.N es (Az G xs)
 pl:∀(pos:Pos)(env:PySem.Env),(backTo pos (starEach es env)).any (·.1)=false
structure PE(c:Tc)(o:Option Expr) where
 x:Option E
 ok:∀{Y G},Gd Y c G->Okp Y c.N o (E5 G x)
structure Rd where
 v:∀c e,Option (VE c e)
 t:∀c e,Option (TE c e)
variable {c:Tc}{e a b:Expr}{pos p:Pos}
theorem Io{x:Str}(h:Ec x=true):(x==("__debug__":Str))=false/\(x==("__classdict__":Str))=false/\x≠"__name__":=by simp only[Ec,Bool.and_eq_true,Bool.not_eq_true']at h;exact⟨h.1.1.1,h.1.1.2,by simpa using h.1.2⟩
def j6(c:Tc)(x:Str)(p:Pos):a7 (VE c (.Name x p)) :=
 if h:(Ec x&&Ls c.sc x)=true then
  match h2:Dh c.nm x with
  |some i=>some ⟨.var i,rfl,fun{Y G}_=>Wh (N:=c.N) (i:=i) ⟨(Cy _ _▸h).1,(Cy _ _▸h).2,h2⟩ (Io (Cy _ _▸h).1).1 (Io (Cy _ _▸h).1).2.1⟩
  |none=>none
 else none
def jG(c:Tc):(k:Const)->(j:Nat)->(p:Pos)->a7 (VE c (.Constant k j p))
 |.none,j,p=>some ⟨.cst .non,rfl,fun _=>l7⟩
 |.bool b,j,p=>some ⟨.cst (.bl b),rfl,fun _=>U5⟩
 |.int i,j,p=>some ⟨.cst (.int i),rfl,fun _=>Q0⟩
 |.str x,j,p=>some ⟨.cst (.str x),rfl,fun _=>N4⟩
 |_,_,_=>none
def X5:(op:Operator)->Option {o:Bo // ∀{Y:Yc},Op2 Y (binaryOp op) (Ip o)}
 |.Add=>some ⟨.add,bZ⟩
 |.Sub=>some ⟨.sub,eU⟩
 |.Mult=>some ⟨.mul,oq⟩
 |.FloorDiv=>some ⟨.fdiv,fy⟩
 |.Mod=>some ⟨.mod,eY⟩
 |_=>none
def S9(R:Rd)(c:Tc)(a:Expr)(op:Operator)(b:Expr)(p:Pos):a7 (VE c (.BinOp a op b p)) :=
 (X5 op).bind fun o=>(R.v c a).bind fun x=>(R.v c b).bind fun y=>some ⟨.bin o.1 x.x y.x,rfl,fun{Y G}g=>Z0 (R:=Ip o.1) o.2 (x.ok g) (y.ok g)⟩
def J9(R:Rd)(c:Tc):(es:List Expr)->a7 (LE c es)
 |[]=>some ⟨[],rfl,fun _=>Li,fun _ _=>rfl⟩
 |e::es=>(R.v c e).bind fun x=>(J9 R c es).bind fun xs=>some ⟨x.x::xs.xs,by simp[xs.len],fun{Y G}g=>Hs (x.ok g) (xs.ok g) (Dg x.pl es Y.env),fun pos env=>by rw[Dg x.pl];exact xs.pl pos env⟩
end
section
variable {c:Tc}{e a b:Expr}{pos p:Pos}{G:Glo}{r:Ev.Env}
theorem Q8:∀{xs:List E}{r:Ev.Env}{ts:List T},Az G xs r=some ts->ts.length=xs.length
 |[],_,_,h=>by cases h;rfl
 |x::xs,r,ts,h=>by have h:((Ac G x r).bind fun x=>(Az G xs r).bind fun xs=>some (x::xs))=some ts:=h;obtain⟨y,_,h⟩:=obs h;obtain⟨ys,h1,h⟩:=obs h;cases h;rw[Eb,Q8 h1,Eb]
def Xv:Expr->Bool
 |.Constant .none _ _=>true
 |_=>false
def N8:(op:CmpOp)->(nn:Bool)->Option {o:Co // ∀{Y:Yc},Y.Rm->Op2 Y (compareOp op) (Bt o)}
 |.Eq,_=>some ⟨.eq,fun h=>bq h⟩
 |.NotEq,_=>some ⟨.ne,fun h=>lP h⟩
 |.Lt,_=>some ⟨.lt,fun _=>iX⟩
 |.Gt,_=>some ⟨.gt,fun _=>gH⟩
 |.In,_=>some ⟨.isin,fun h=>pH h⟩
 |.NotIn,_=>some ⟨.notin,fun h=>j4 h⟩
 |.Is,_=>some ⟨.isN,fun _=>my⟩
 |.IsNot,true=>some ⟨.notN,fun _=>gA⟩
 |.IsNot,false=>some ⟨.notF,fun _=>oP⟩
 |_,_=>none
def Uo(R:Rd)(c:Tc)(a:Expr)(op:CmpOp)(b:Expr)(p:Pos):a7 (VE c (.Compare a [op] [b] p)) :=
 (N8 op (Xv b)).bind fun o=>(R.v c a).bind fun x=>(R.v c b).bind fun y=>some ⟨.cmp o.1 x.x y.x,rfl,fun{Y G}g=>lh (R:=Bt o.1) (o.2 g.rm) (x.ok g) (y.ok g) (dk y.pl op)⟩
def jk(R:Rd)(c:Tc)(a:Expr)(op:CmpOp)(b:Expr)(p:Pos):a7 (TE c (.Compare a [op] [b] p)) :=
 (N8 op (Xv b)).bind fun o=>(R.v c a).bind fun x=>(R.v c b).bind fun y=>some ⟨.cmp o.1 x.x y.x,fun{Y G}g=>aq (R:=Bt o.1) (o.2 g.rm) (x.ok g) (y.ok g) (dk y.pl op) aa⟩
def nH(R:Rd)(c:Tc):(o:UnaryOp)->(a:Expr)->(p:Pos)->a7 (VE c (.UnaryOp o a p))
 |.Not,a,p=>(R.v c a).bind fun x=>some ⟨.lnot x.x,rfl,fun{Y G}g=>kz (x.ok g)⟩
 |.USub,a,p=>(R.v c a).bind fun x=>some ⟨.neg x.x,rfl,fun{Y G}g=>bB (x.ok g)⟩
 |_,_,_=>none
def Un(R:Rd)(c:Tc):(o:BoolOp)->(es:List Expr)->(p:Pos)->a7 (VE c (.BoolOp o es p))
 |o,[a],p=>(R.v c a).bind fun x=>some ⟨x.x,rfl,fun{Y G}g=>lE (x.ok g)⟩
 |.And,a::b::es,p=>(R.v c a).bind fun x=>(Un R c .And (b::es) p).bind fun y=>some ⟨.land x.x y.x,rfl,fun{Y G}g=>jE (x.ok g) (y.ok g)⟩
 |.Or,a::b::es,p=>(R.v c a).bind fun x=>(Un R c .Or (b::es) p).bind fun y=>some ⟨.lor x.x y.x,rfl,fun{Y G}g=>gz (x.ok g) (y.ok g)⟩
 |_,[],_=>none
def T1(R:Rd)(c:Tc):(o:BoolOp)->(es:List Expr)->(p:Pos)->a7 (WE c (.BoolOp o es p))
 |.And,[a],p=>(R.t c a).bind fun x=>some ⟨x.x,fun{Y G}g=>cZ (x.ok g)⟩
 |.Or,[a],p=>(R.t c a).bind fun x=>some ⟨x.x,fun{Y G}g=>fU (x.ok g)⟩
 |.And,a::b::es,p=>(R.t c a).bind fun x=>(T1 R c .And (b::es) p).bind fun y=>some ⟨.land x.x y.x,fun{Y G}g=>Xb (x.ok g) (y.ok g)⟩
 |.Or,a::b::es,p=>(R.t c a).bind fun x=>(T1 R c .Or (b::es) p).bind fun y=>some ⟨.lor x.x y.x,fun{Y G}g=>jx (x.ok g) (y.ok g)⟩
 |_,[],_=>none
def U1(R:Rd)(c:Tc)(e:Expr):a7 (TE c e) :=
 if h:Nu e=true then(R.v c e).bind fun x=>some ⟨.tru x.x,fun{Y G}g=>jS (x.ok g) (jH h Y.env)⟩else none
def rT(R:Rd)(c:Tc):(e:Expr)->a7 (TE c e)
 |.BoolOp o es p=>(T1 R c o es p).bind fun x=>some ⟨x.x,fun{Y G}g=>Okw.okb (x.ok g)⟩
 |.UnaryOp .Not a p=>(R.t c a).bind fun x=>some ⟨.lnot x.x,fun g=>dw (x.ok g)⟩
 |.Compare a [op] [b] p=>jk R c a op b p
 |e=>U1 R c e
def Xd(R:Rd)(c:Tc)(es:List Expr)(k:_)(p:Pos):a7 (VE c (.Tuple es k p)) :=
 (J9 R c es).bind fun xs=>some ⟨.tup xs.xs,rfl,fun{Y G}g=>aU (n:=xs.xs.length) Q8 (xs.ok g)⟩
def Wm(R:Rd)(c:Tc)(es:List Expr)(p:Pos):a7 (VE c (.List es p)) :=
 (J9 R c es).bind fun xs=>some ⟨.lst xs.xs,rfl,fun{Y G}g=>bI (n:=xs.xs.length) Q8 (xs.ok g)⟩
def rO(R:Rd)(c:Tc):(o:a7 Expr)->a7 (PE c o)
 |none=>some ⟨none,fun _=>jV⟩
 |some e=>(R.v c e).bind fun x=>some ⟨some x.x,fun g=>pC (x.ok g)⟩
def Vc(R:Rd)(c:Tc)(a b:Expr)(p:Pos):a7 (VE c (.Subscript a b p)) :=
 if h:N7 b=false then(R.v c a).bind fun x=>(R.v c b).bind fun y=>some ⟨.idx x.x y.x,rfl,fun{Y G}g=>iu g.rm (x.ok g) (y.ok g) (jL h)⟩else none
def Ta(R:Rd)(c:Tc)(a:Expr):(b:Expr)->(p:Pos)->a7 (VE c (.Subscript a b p))
 |.Slice lo hi none p2,p=>(R.v c a).bind fun x=>(rO R c lo).bind fun l=>(rO R c hi).bind fun h=>some ⟨.sli x.x l.x h.x,rfl,fun{Y G}g=>lV (x.ok g) (l.ok g) (h.ok g)⟩
 |b,p=>Vc R c a b p
def Qk(R:Rd)(c:Tc)(f:Str)(p:Pos)(e:Expr)(es:List Expr)(pos:Pos):a7 (VE c (.Call (.Name f p) (e::es) [] pos)) :=
 if h:(Ec f&&Ea c.sc f)=true then(R.v c e).bind fun x=>(J9 R c es).bind fun xs=>some ⟨.call f (x.x::xs.xs),rfl,fun{Y G}g{s F r t E}A q=>by rw[Cy]at h;have q:((Az G (x.x::xs.xs) r).bind fun xs=>G.call f xs)=some t:=q;obtain⟨ts,e1,q1⟩:=obs q;obtain⟨k,a,fd,ps,hF,hr,hm,hk,hb,hl,_⟩:=g.call f ts (.inl (by rw[q1];rfl));exact l5 (sp:=G.call f) hF hr (g.sc.gl f h.2) hm hk hb hl (Hs (x.ok g) (xs.ok g) (Dg x.pl es Y.env)) (Io h.1).1 (Dg x.pl es Y.env) (xs.pl pos Y.env) A q⟩else none
structure f7(f:Str) where
 k:Bn
 u:Value
 hu:(∃id,u=.builtin id)\/∃T,u=.type T
 hb:bootBuiltins f=some u
 mem:f∈bnames
 ok:∀{Y:Yc},Y.Rm->Y.calm->Bl Y u (Gg k)
def Uc(f:Str):a7 (f7 f) :=
 if h:f="len" then some (h▸⟨.len,.builtin "len",.inl ⟨_,rfl⟩,by decide +kernel,by decide,fun _ _=>nU⟩)
 else if h:f="int" then some (h▸⟨.toInt,.type "int",.inr ⟨_,rfl⟩,by decide +kernel,by decide,fun _ _=>lF⟩)
 else if h:f="list" then some (h▸⟨.toList,.type "list",.inr ⟨_,rfl⟩,by decide +kernel,by decide,fun _ _=>lg⟩)
 else if h:f="tuple" then some (h▸⟨.toTuple,.type "tuple",.inr ⟨_,rfl⟩,by decide +kernel,by decide,fun _ _=>lj⟩)
 else if h:f="min" then some (h▸⟨.least,.builtin "min",.inl ⟨_,rfl⟩,by decide +kernel,by decide,fun _ c=>lT c⟩)
 else if h:f="max" then some (h▸⟨.most,.builtin "max",.inl ⟨_,rfl⟩,by decide +kernel,by decide,fun _ c=>oO c⟩)
 else if h:f="any" then some (h▸⟨.any,.builtin "any",.inl ⟨_,rfl⟩,by decide +kernel,by decide,fun _ c=>pU c⟩)
 else if h:f="sorted" then some (h▸⟨.sorted,.builtin "sorted",.inl ⟨_,rfl⟩,by decide +kernel,by decide,fun r c=>qC r c⟩)
 else if h:f="dict" then some (h▸⟨.dict,.type "dict",.inr ⟨_,rfl⟩,by decide +kernel,by decide,fun r c=>jd r c⟩)
 else none
def Um(R:Rd)(c:Tc)(f:Str)(p:Pos)(a:Expr)(pos:Pos):a7 (VE c (.Call (.Name f p) [a] [] pos)) :=
 if h:(Ec f&&Ea c.sc f)=true then(Uc f).bind fun k=>(R.v c a).bind fun x=>some ⟨.blt k.k x.x,rfl,fun{Y G}g=>by rw[Cy]at h;exact mf (g:=Gg k.k) (k.ok g.rm g.cm) k.hu (g.sc.gl f h.2) (g.bn f k.mem) k.hb (Io h.1).2.2 (Io h.1).1 (x.ok g) (Dg x.pl [] Y.env)⟩else none
end
section
variable {Q:a7 Value->Shared->Prop}
section
variable {prog:Program}{w:World}{A:Around}{E:Value->Shared->Prop}{s:Shared}{d j v:Addr}{en:Array DictEntry}{ep i:Nat}
theorem mC{Q:Value->Shared->Prop}(hv:s.heap.IsValuesView v d)(r:RawD s.heap d en ep)(q:Q (.ref s.heap.objs.size) {s with heap:=s.heap.push {cls:=.type "dict_valueiterator",data:=.fields #[.ref d,.int 0 0,.int en.size 0,.int ep 0]} }):wpAny (model prog w) A (pyIter (.ref v)) Q E s:=by
 obtain⟨ov,hov,hcv,hdv⟩:=id hv;obtain⟨o,a,b,c⟩:=id r;refine wpAny_pyIter_slot hv.typeIs PySem.F.slot_dict_values_iter (Ek PySem.F.slot_dict_values_iter hv.typeIs PySem.F.entry_dict_values_iter ?_ (PySem.F.args_dict_values_iter_1 _));unfold Builtin.«dict_values.__iter__»;refine Aa (Af (Aa ?_));unfold Builtin.Dict_items.dictOf;refine Aa (Di hov hdv (x:=.ref d) rfl (Af (Aa ?_)));unfold Builtin.Dict_items.newIterator;refine Aa (Jw a c (Aa (wpAny_dictEpoch a c ?_)));simp only[show Builtin.Dict_items.ownsTuple "dict_valueiterator"=false by decide,Ng,if_false];refine Gn (Af ⟨_,rfl, "dict_valueiterator",_,⟨_,Cv _ rfl,rfl⟩,PySem.F.slot_dict_valueiterator_next.lookup,?_⟩);simpa[rawInt]using q
theorem kG(t:s.heap.IsValIter j d i en.size ep)(r:RawD s.heap d en ep)(hi:i<en.size)(q:∀g,g.IsValIter j d (i+1) en.size ep->Heap.SameBut j s.heap g->Q (some en[i].val) {s with heap:=g}):wpAny (model prog w) A (pyNext (.ref j)) Q E s:=by
 obtain⟨o,a,b,c⟩:=id t;obtain⟨od,ad,bd,cd⟩:=id r;unfold pyNext;refine Aa (Ir (Gi (name:=Str.ofString "__next__") t.typeIs PySem.F.slot_dict_valueiterator_next (Ek PySem.F.slot_dict_valueiterator_next t.typeIs PySem.F.entry_dict_valueiterator_next ?_ (PySem.F.args_dict_valueiterator_next_1 _))));refine Aa (Af (Aa (Aa ?_)))
 first|refine Aa (Px t.typeIs (Af (Aa (K0 a c ?_))))|refine Aa (wpAny_typeNameOf_valiter t.typeIs (Af (Aa (K0 a c ?_))))
 simp only[show Builtin.Dict_items.ownsTuple "dict_valueiterator"=false by decide,Ng,if_false];refine(show wpAny _ _ (if(Value.ref d==Value.none)=true then _ else _) _ _ s from ?_);rw[if_neg (show ¬((Value.ref d==Value.none)=true)from Fg)];refine Aa (Af (Aa (Jw ad cd ?_)));rw[if_neg (by simp)];refine Aa (Af (Aa (wpAny_dictEpoch ad cd ?_)));rw[if_neg (by simp)];refine Af ?_;simp only[show ¬((i:Int)<0)from by lia,if_false,Int.toNat_natCast,Array.getElem?_eq_getElem hi];refine Aa ?_
 first|refine Aa (Px t.typeIs (Af (Aa (wpAny_isOneOf_valiter t.typeIs ?_))))|refine Aa (wpAny_typeNameOf_valiter t.typeIs (Af (Aa (wpAny_isOneOf_valiter t.typeIs ?_))))
 refine(show wpAny _ _ (setField (.ref j) 1 (rawInt ((i:Int)+1)) >>= _) _ _ s from wpAny_bind (wpAny_setField a c (by simp) ?_));have t':(s.heap.update j (Obj.mapFields (·.setIfInBounds 1 (rawInt ((i:Int)+1))))).IsValIter j d (i+1) en.size ep :=
  ⟨_,Heap.get?_update_self _ a (Obj.isFreed_of_fields (Ft c _)),(Obj.cls_mapFields ..).trans b,by rw[Ft c];simp[rawInt]⟩
 refine Aa (E6 (Aa (wpAny_isOneOf_valiter (s:={s with heap:=s.heap.update j (Obj.mapFields (·.setIfInBounds 1 (rawInt ((i:Int)+1))))}) t'.typeIs (Aa (wpAny_isOneOf_valiter (s:={s with heap:=s.heap.update j (Obj.mapFields (·.setIfInBounds 1 (rawInt ((i:Int)+1))))}) t'.typeIs ?_)))));show wpAny _ _ (pure en[i].val) _ _ _;exact Af (Af ⟨_,rfl,Af (q _ t' (Ij ..))⟩)
theorem i7(hh:A.handled=none)(t:s.heap.IsValIter j d en.size en.size ep)(r:RawD s.heap d en ep)(q:∀g,Heap.ExtBut j s.heap g->Q none {s with heap:=g}):wpAny (model prog w) A (pyNext (.ref j)) Q E s:=by
 obtain⟨o,a,b,c⟩:=id t;obtain⟨od,ad,bd,cd⟩:=id r;unfold pyNext;refine Aa (Ir (Gi (name:=Str.ofString "__next__") t.typeIs PySem.F.slot_dict_valueiterator_next (Ek PySem.F.slot_dict_valueiterator_next t.typeIs PySem.F.entry_dict_valueiterator_next ?_ (PySem.F.args_dict_valueiterator_next_1 _))));refine Aa (Af (Aa (Aa ?_)))
 first|refine Aa (Px t.typeIs (Af (Aa (K0 a c ?_))))|refine Aa (wpAny_typeNameOf_valiter t.typeIs (Af (Aa (K0 a c ?_))))
 simp only[show Builtin.Dict_items.ownsTuple "dict_valueiterator"=false by decide,Ng,if_false];refine(show wpAny _ _ (if(Value.ref d==Value.none)=true then _ else _) _ _ s from ?_);rw[if_neg (show ¬((Value.ref d==Value.none)=true)from Fg)];refine Aa (Af (Aa (Jw ad cd ?_)));rw[if_neg (by simp)];refine Aa (Af (Aa (wpAny_dictEpoch ad cd ?_)));rw[if_neg (by simp)];refine Af ?_;simp only[show ¬((en.size:Int)<0)from by lia,if_false,Int.toNat_natCast,Array.getElem?_eq_none (Nat.le_refl en.size)];refine Aa ?_
 first|refine Aa (Px t.typeIs (Af ?_))|refine Aa (wpAny_typeNameOf_valiter t.typeIs (Af ?_))
 refine(show wpAny _ _ (setField (.ref j) 0 .none >>= _) _ _ s from wpAny_bind (wpAny_setField a c (by simp) ?_));refine(show wpAny _ _ (newExc (.type "StopIteration") [] >>= _) _ _ _ from Aa ?_);simp only[newExc,newTuple];refine Aa (Gn ?_ (by size_fits));refine wpAny_bind (m:=firstArgMember _ _) (wpAny_of_eq (a:=Value.none) (by first|rfl|(simp only[firstArgMember];rfl)) (wpAny_newObj_type ?_ (by size_fits)));simp only[raiseNew];refine Aa (wpAny_handled ?_);rw[show A.in1.handled=none from hh];refine Aa (Af (wpAny_throw ?_));exact Aa (wpAny_isInstance (T:="StopIteration") (b:=true) ⟨_,Cv _ rfl,rfl⟩ isSubtype_stop (Af (q _ (((Ij ..).extBut.push _).push _))))
end
variable {Y:Yc}{tg o:Expr}{N:Str->Nat->Prop}{F G:Fz}{s s':Shared}{a it:Addr}{ts:List T}{E:Value->Shared->Prop}{apos cpos:Pos}
theorem jq{ks vs:List T}(hh:Y.A.handled=none)(h:Rep Y.w F (.dic ks vs) (.ref a)):∃en ep,(∀{s:Shared}{G:Fz},Fz.le F G->G.In s.heap->RawD s.heap a en ep)/\Walk Y tg vs F [it] it fun i h=>h.IsValIter it a i en.size ep:=by
 obtain⟨_,o,en,ep,e,h1,_,d,h2,h3⟩:=h;cases e;have rd:∀{s:Shared}{G:Fz},F.le G->G.In s.heap->RawD s.heap a en ep:=fun le hi=>⟨o,hi _ _ (le _ _ h1),d.ex,d.dt⟩;have hl:en.size=vs.length:=by rw[<-h3.length,Aq,E7]
 refine⟨en,ep,rd,fun q b hb=>?_,fun q k=>?_,fun{i x s G E}le hi fn q e=>?_,fun{i s G E}le hi fn q e=>?_,fun q=>wpAny_pyIter_valiter q⟩
 .rw[omg hb];obtain⟨o,e,_⟩:=q;exact⟨o,e⟩
 .exact q.at fun o e=>k it (by simp) o e
 .obtain⟨u,hu,ru⟩:=h3.get e;have hi':i<en.size:=by rw[hl];exact(ome e).1
  refine kG (Q:=_) q (rd le hi) hi' fun h' st' sb=>?_;obtain⟨o,e,c,d⟩:=id st';have ek:en[i].val=u:=by rw[Dm,Gb,Hb hi']at hu;exact Fe hu
  exact⟨_,rfl,O0 (s:={s with heap:=h'}) e c d (by decide) ⟨G,UpX.one (k:=s.toks) hi (fn it (by simp)) (fun b o hb e=>(sb.2 b hb).trans e),ek▸ru.mono le,st'⟩⟩
 .have e:i=en.size:=by lia
  subst e;exact i7 hh q (rd le hi) fun h' eb=>⟨rfl,UpX.one (k:=s.toks) hi (fn it (by simp)) fun b o hb e=>eb b o hb e⟩
theorem fX(cm:Y.calm){f:Ev.Env->a7 T}(ho:Oke Y N o f)(hbase:attributeBase o "values" Y.env (eval o Y.env)=eval o Y.env)(hl:(apos.endLine==cpos.line)=true):Hm Y N tg (.Call (.Attribute o "values" apos) [] [] cpos) fun r=>(f r).bind fun x=>items .vals [x]:=fun{s F r qc E}A q=>by
 obtain⟨x,e1,q⟩:=obs q;cases x with
 |dic ks vs=>cases q;refine wpAny_Call_method hbase rfl hl PySem.F.plainAttrs_dict PySem.F.slot_dict_values PySem.F.type_dict_values (thn (ho A e1) fun v s1 z=>?_);obtain⟨G,u,r1⟩:=z;obtain⟨a,o,en,ep,rfl,h1,hm,d,_⟩:=id r1;have h0:=u.fh _ _ h1;have t1:s1.TypeIs (.ref a) "dict":=⟨o,h0,d.ex.1⟩;refine⟨t1,fun c e=>by cases e;exact⟨o,h0,d.ex.2.1⟩,?_⟩;refine Calls.callWith_builtin rfl (PyProof.Rows.evalArgs_empty ?_);refine Ek PySem.F.slot_dict_values t1 PySem.F.entry_dict_values ?_ (PySem.F.args_dict_values_1 _);unfold Builtin.«dict.values»;refine Aa ?_;unfold Builtin.Dict.noArgs;refine Aa (wpAny_notOrdered_dict t1 ?_);show wpAny _ _ (pure a) _ _ s1;refine Af ?_;show wpAny _ _ (Builtin.Dict.showsAll a >>= _) _ _ s1;unfold Builtin.Dict.showsAll;rw[if_neg (by rw[hm];exact Fg)];refine Aa (Af (Aa (Gn (Af ⟨_,rfl,?_⟩))));have u2:Up F s G {s1 with heap:=s1.heap.push {cls:=.type "dict_values",data:=.fields #[.ref a]} }:=u.trans (Up.side (k:=s1.toks) u.fh);obtain⟨en',ep',rd,W⟩:=jq (tg:=tg) (it:=(s1.heap.push {cls:=.type "dict_values",data:=.fields #[.ref a]}).objs.size) (A.hd cm) r1;refine mC ⟨_,Cv _ rfl,rfl,rfl⟩ (rd (fun _ _ e=>e) u2.fh) ⟨_,_,_,G,rfl,u2.trans (Up.side (k:=s1.toks) u2.fh),fun b hb=>?_,W,_,Cv _ rfl,rfl,rfl⟩;rw[omg hb];exact⟨u2.old Bs,u2.fh.none Bs⟩
 |_=>cases q
def Wf:Sl->a7 T
 |.dic ks vs=>some (.dic ks vs)
 |_=>none
theorem jT{e:Expr}{g:Ev.Env->a7 Sl}(h:Lj Y N e g):Oke Y N e fun r=>(g r).bind Wf:=fun A q=>by
 obtain⟨sl,e1,q⟩:=obs q;cases sl with
 |dic ks vs=>
  cases q;refine thn (h A e1) fun u s' z=>?_;obtain⟨a,G,rfl,up,dn,z,l,q⟩:=z;obtain⟨o,es,ep,q1,_⟩:=id q;have le:=F9 (o:=o) dn;refine⟨fup G a o,⟨up.ext,up.os,up.bare,up.ff.trans le,fun b x e=>?_,fun b e=>?_⟩,q.frz (Fq.trans q1.symm) le fun l h=>h.mono le⟩
  .unfold fup at e;split at e
   .rename_i w;cases e;rw[w];exact q1
   .exact up.fh b x e
  .unfold fup at e;split at e
   .rename_i w;exact .inr (by rw[w];exact z)
   .exact up.nw b e
 |_=>cases q
end
section
variable {c:Tc}{e a b:Expr}{pos p:Pos}{G:Glo}{r:Ev.Env}{Y:Yc}{N:Str->Nat->Prop}{f g h:Ev.Env->a7 T}{o ke ve:Expr}{apos cpos:Pos}
theorem gW(hu:Y.Rm)(ho:Oke Y N o f)(hk:Oke Y N ke g)(hv:Oke Y N ve h)(hbase:attributeBase o "get" Y.env (eval o Y.env)=eval o Y.env)(s1:starEach [ke,ve] Y.env=(false,eval ke Y.env)::starEach [ve] Y.env)(s2:starEach [ve] Y.env=[(false,eval ve Y.env)])(hl:(apos.endLine==cpos.line)=true):Oke Y N (.Call (.Attribute o "get" apos) [ke,ve] [] cpos) fun r=>(f r).bind fun x=>(g r).bind fun y=>(h r).bind fun z=>(match x with
   |.dic ks vs=>if Bj ks y=true then some ((Aw ks vs y).getD z)else none
   |_=>none):=fun{s F r t E}A q=>by
 obtain⟨x1,e1,q⟩:=obs q;obtain⟨x2,e2,q⟩:=obs q;obtain⟨x3,e3,q⟩:=obs q;refine wpAny_Call_method_late hbase (by rw[s1,s2];rfl) hl rfl (thn (ho A e1) fun v s1' z=>?_);obtain⟨G,u1,r1⟩:=z;cases x1 with
 |dic ks vs=>
  obtain⟨d,od,es,ep,rfl,fd,hm,D,rk,rv⟩:=r1;replace q:(if Bj ks x2=true then some ((Aw ks vs x2).getD x3)else none)=some t:=q;split at q
  .rename_i hkk;cases q;refine⟨"dict", "dict.get",PySem.F.plainAttrs_dict,PySem.F.slot_dict_get,PySem.F.type_dict_get,⟨_,u1.fh _ _ fd,D.ex.1⟩,fun c e=>by cases e;exact⟨_,u1.fh _ _ fd,D.ex.2.1⟩,?_⟩;refine Calls.callWith_builtin (by rw[s1,s2];rfl) ?_;rw[s1,s2];refine Calls.evalArgs_plain (Calls.spliced_cons (thn (hk (A.up u1) e2) fun kv s2' z=>?_));obtain⟨G2,u2,r2⟩:=z;refine Calls.spliced_cons (thn (hv ((A.up u1).up u2) e3) fun w s3 z=>Calls.spliced_nil ?_);obtain⟨G3,u3,r3⟩:=z;have le:G.le G3:=u2.ff.trans u3.ff;have D3:Dat Y.w G3 s3.heap d ks (es.toList.map (·.val)):=⟨od,es,ep,u3.fh _ _ (le _ _ fd),hm,D,rk.mono le,rfl⟩;refine mH ⟨by have:=hu;unfold Yc.Rm at this;lia,u3.fh,D3,hkk,r2.mono u3.ff⟩ ?_;refine⟨G3,(u1.trans (u2.trans u3)).trans (Up.tok u3.fh),?_⟩;have hl2:(es.toList.map (·.val)).length=ks.length:=D3.len;have hl3:vs.length=ks.length:=by rw[<-hl2,rv.length]
   rw[Hl hl2,Hl hl3];cases e:Df ks x2 with
   |none=>exact r3
   |some i=>
    dsimp only[xbs];have hi:i<vs.length:=by rw[hl3];unfold Df at e;rw[List.findIdx?_eq_some_iff_getElem]at e;exact e.1
    obtain⟨u,hu',ru⟩:=(rv.mono le).get (Dw hi);rw[hu',Dw hi];exact ru
  .cases q
 |_=>cases q
theorem Gd.blk{out scope:Scope}{xs nm:List Str}{L:Addr}(g:Gd Y ⟨out,nm⟩ G)(S:Ic out scope xs):Gd (Cx Y scope L) ⟨scope,xs++nm⟩ G:=⟨gI S g.sc,g.rm,g.cm,g.bn,g.call⟩
def T7(R:Rd)(c:Tc)(p:Pos)(a:Expr)(ty:Str)(p2 pos:Pos):a7 (VE c (.Call (.Name "isinstance" p) [a,.Name ty p2] [] pos)) :=
 if h:(Ea c.sc "isinstance"&&Ea c.sc ty)=true then
  if h2:ty="int" then(R.v c a).bind fun x=>some ⟨.isi x.x .tint,rfl,fun{Y G}g=>by subst h2;rw[Cy]at h;exact T9 (k:=.tint) (by decide +kernel) (by decide) (by decide) (g.bn _ (by decide)) (g.sc.gl _ h.2) (g.bn _ (by decide)) (g.sc.gl _ h.1) (x.ok g) (Dg x.pl _ Y.env)⟩
  else if h2:ty="bool" then(R.v c a).bind fun x=>some ⟨.isi x.x .tbool,rfl,fun{Y G}g=>by subst h2;rw[Cy]at h;exact T9 (k:=.tbool) (by decide +kernel) (by decide) (by decide) (g.bn _ (by decide)) (g.sc.gl _ h.2) (g.bn _ (by decide)) (g.sc.gl _ h.1) (x.ok g) (Dg x.pl _ Y.env)⟩
  else none
 else none
def Vl(R:Rd)(c:Tc)(o:Expr)(m:Str)(apos:Pos)(a:Expr)(cpos:Pos):a7 (VE c (.Call (.Attribute o m apos) [a] [] cpos)) :=
 if hl:(apos.endLine==cpos.line)=true then
  if h:m="index" then(R.v c o).bind fun x=>(R.v c a).bind fun y=>some ⟨.mth .index x.x y.x,rfl,fun{Y G}g=>by subst h;exact Qx PySem.F.slot_list_index PySem.F.type_list_index (Xr g.rm) (x.ok g) (y.ok g) (R9 x.pl _ _ _) (Dg y.pl [] Y.env) hl⟩
  else if h:m="count" then(R.v c o).bind fun x=>(R.v c a).bind fun y=>some ⟨.mth .count x.x y.x,rfl,fun{Y G}g=>by subst h;exact Qx PySem.F.slot_list_count PySem.F.type_list_count (cO g.rm) (x.ok g) (y.ok g) (R9 x.pl _ _ _) (Dg y.pl [] Y.env) hl⟩
  else none
 else none
def V5(R:Rd)(c:Tc)(o:Expr)(m:Str)(apos:Pos)(a b:Expr)(cpos:Pos):a7 (VE c (.Call (.Attribute o m apos) [a,b] [] cpos)) :=
 if hl:(apos.endLine==cpos.line)=true then
  if h:m="get" then(R.v c o).bind fun x=>(R.v c a).bind fun y=>(R.v c b).bind fun z=>some ⟨.dget x.x y.x z.x,rfl,fun{Y G}g=>by subst h;exact gW g.rm (x.ok g) (y.ok g) (z.ok g) (R9 x.pl _ _ _) (Dg y.pl _ Y.env) (Dg z.pl [] Y.env) hl⟩
  else none
 else none
structure IE(c:Tc)(tg it:Expr) where
 k:Ik
 xs:List E
 fold:∀(env:PySem.Env)x,foldedSetIterable it env x=pure x
 ok:∀{Y G},Gd Y c G->Hm Y c.N tg it fun r=>(Az G xs r).bind (items k)
theorem ev1{x:E}{k:Ik}:(fun r=>(Ac G x r).bind fun y=>items k [y])=fun r=>(Az G [x] r).bind (items k):=by funext r;show _=((Ac G x r).bind fun x=>(some []).bind fun xs=>some (x::xs)).bind (items k);cases Ac G x r<;>rfl
theorem ev2{x y:E}{k:Ik}:(fun r=>(Ac G x r).bind fun u=>(Ac G y r).bind fun v=>items k [u,v])=fun r=>(Az G [x,y] r).bind (items k):=by funext r;show _=((Ac G x r).bind fun x=>((Ac G y r).bind fun x=>(some []).bind fun xs=>some (x::xs)).bind fun xs=>some (x::xs)).bind (items k);cases Ac G x r<;>first|rfl|(cases Ac G y r<;>rfl)
def Oo(R:Rd)(c:Tc)(tg e:Expr):a7 (IE c tg e):=(R.v c e).bind fun x=>some ⟨.plain,[x.x],aO x.pl,fun{Y G}g=>ev1▸dA g.cm (x.ok g)⟩
def Zz(R:Rd)(c:Tc)(tg:Expr)(p:Pos)(a:Expr)(pos:Pos):a7 (IE c tg (.Call (.Name "range" p) [a] [] pos)) :=
 if h:Ea c.sc "range"=true then(R.v c a).bind fun x=>some ⟨.range,[x.x],fun _ _=>rfl,fun{Y G}g=>ev1▸lL g.cm (g.sc.gl _ h) (g.bn _ (by decide)) (x.ok g) (Dg x.pl [] Y.env)⟩else none
def qB(R:Rd)(c:Tc)(es:List Expr)(kx:_)(tp:Pos)(p:Pos)(a:Expr)(pos:Pos):a7 (IE c (.Tuple es kx tp) (.Call (.Name "enumerate" p) [a] [] pos)) :=
 if h:Ea c.sc "enumerate"=true then(R.v c a).bind fun x=>some ⟨.enum,[x.x],fun _ _=>rfl,fun{Y G}g=>ev1▸lM g.cm (g.sc.gl _ h) (g.bn _ (by decide)) (x.ok g) (Dg x.pl [] Y.env)⟩else none
def Vh(R:Rd)(c:Tc)(es:List Expr)(kx:_)(tp:Pos)(p:Pos)(a b:Expr)(pos:Pos):a7 (IE c (.Tuple es kx tp) (.Call (.Name "zip" p) [a,b] [] pos)) :=
 if h:Ea c.sc "zip"=true then(R.v c a).bind fun x=>(R.v c b).bind fun y=>some ⟨.zip,[x.x,y.x],fun _ _=>rfl,fun{Y G}g=>ev2▸gP g.cm (g.sc.gl _ h) (g.bn _ (by decide)) (x.ok g) (y.ok g) (Dg x.pl _ Y.env) (Dg y.pl [] Y.env)⟩else none
def jM(R:Rd)(c:Tc)(f:Str)(p:Pos)(a:Expr)(pos:Pos):(tg:Expr)->a7 (IE c tg (.Call (.Name f p) [a] [] pos))
 |.Tuple es kx tp=>if h:f="enumerate" then h▸qB R c es kx tp p a pos else if h:f="range" then h▸Zz R c _ p a pos else Oo R c _ _
 |tg=>if h:f="range" then h▸Zz R c _ p a pos else Oo R c _ _
def qG(R:Rd)(c:Tc)(f:Str)(p:Pos)(a b:Expr)(pos:Pos):(tg:Expr)->a7 (IE c tg (.Call (.Name f p) [a,b] [] pos))
 |.Tuple es kx tp=>if h:f="zip" then h▸Vh R c es kx tp p a b pos else Oo R c _ _
 |tg=>Oo R c _ _
def i5(R:Rd)(c:Tc)(tg o:Expr)(m:Str)(apos cpos:Pos):a7 (IE c tg (.Call (.Attribute o m apos) [] [] cpos)) :=
 if h:(apos.endLine==cpos.line)=true/\m="values" then(R.v c o).bind fun x=>some ⟨.vals,[x.x],fun _ _=>rfl,fun{Y G}g=>by obtain⟨h1,rfl⟩:=h;rw[<-ev1];exact fX g.cm (x.ok g) (R9 x.pl _ _ _) h1⟩else none
def rI(R:Rd)(c:Tc)(tg:Expr):(e:Expr)->a7 (IE c tg e)
 |.Call (.Attribute o m apos) [] [] cpos=>i5 R c tg o m apos cpos
 |.Call (.Name f p) [a] [] pos=>jM R c f p a pos tg
 |.Call (.Name f p) [a,b] [] pos=>qG R c f p a b pos tg
 |e=>Oo R c tg e
structure FE(c:Tc)(ifs:List Expr) where
 x:Option E
 ok:∀{Y G},Gd Y c G->Okf Y c.N ifs (E5 G x)
def rF(R:Rd)(c:Tc):(ifs:List Expr)->a7 (FE c ifs)
 |[]=>some ⟨none,fun _=>qY⟩
 |[t]=>(R.t c t).bind fun x=>some ⟨some x.x,fun g=>kQ (x.ok g)⟩
 |_=>none
theorem bh{n:Nat}{k:Ik}{elt:E}{src:List E}{cond:a7 E}:Kl n (fun r=>(Az G src r).bind (items k)) (E5 G cond) (Ac G elt)=Ac G (.comp elt n k src cond):=by funext r;show _=(Az G src r).bind fun xs=>(Ed k xs).bind fun qc=>(Eu (M0 n r (E5 G cond) (Ac G elt)) qc).map T.lst;unfold Kl Ed;dsimp only;cases Az G src r<;>rfl
def gf(R:Rd)(c:Tc)(elt tg it:Expr)(ifs:List Expr)(scope:Scope)(pos:Pos):a7 (VE c (.ListComp elt [⟨tg,it,ifs,0⟩] scope pos)) :=
 match htg:Kv tg with
 |none=>none
 |some xs=>
  if h:(Qe c.sc scope xs&&(!J1 tg||decide (2<=xs.length))&&decide (xs≠[]))=true then
   (rI R c tg it).bind fun i=>(rF R ⟨scope,xs++c.nm⟩ ifs).bind fun t=>(R.v ⟨scope,xs++c.nm⟩ elt).bind fun x=>some ⟨.comp x.x xs.length i.k i.xs t.x,rfl,fun{Y G}g=>by
    simp only[Bool.and_eq_true,decide_eq_true_eq]at h;obtain⟨⟨h1,h2⟩,h3⟩:=h;have S:=bR h1;have g':∀L,Gd (Cx Y scope L) ⟨scope,xs++c.nm⟩ G:=fun L=>g.blk S;rw[<-bh];have h2':J1 tg=true->2<=xs.length:=fun z=>by rw[z]at h2;simpa using h2
    have z:Oke Y (Tc.N ⟨c.sc,c.nm⟩) (.ListComp elt [⟨tg,it,ifs,0⟩] scope pos) (Kl xs.length (fun r=>(Az G i.xs r).bind (items i.k)) (E5 G t.x) (Ac G x.x)):=aF g.cm S g.sc htg h2' h3 (i.ok g) (i.fold Y.env) (fun L=>t.ok (g' L)) (fun L=>x.ok (g' L));exact @z⟩
  else none
def cQ(R:Rd)(c:Tc)(f:Str)(p:Pos)(a:Expr)(pos:Pos):a7 (VE c (.Call (.Name f p) [a] [] pos)):=if bnames.contains f then Um R c f p a pos else Qk R c f p a [] pos
theorem kN{x y:E}:(fun r=>(Ac G x r).bind fun u=>(Ac G y r).bind fun v=>(Ed .zip [u,v]).map T.lst)=Ac G (.comp (.var 0) 1 .zip [x,y] none):=by
 funext r;show _=((Ac G x r).bind fun u=>((Ac G y r).bind fun v=>(some []).bind fun xs=>some (v::xs)).bind fun xs=>some (u::xs)).bind fun xs=>(Ed .zip xs).bind fun qc=>(Eu (M0 1 r (E5 G none) (Ac G (.var 0))) qc).map T.lst;cases Ac G x r with
 |none=>rfl
 |some u=>cases Ac G y r with
  |none=>rfl
  |some v=>
   show(Ed .zip [u,v]).map T.lst=(Ed .zip [u,v]).bind _;cases Ed .zip [u,v]with
   |none=>rfl
   |some l=>
    refine Av (Option.map T.lst) ?_
    induction l with
    |nil=>rfl
    |cons a l ih=>rw[Eu,<-ih];rfl
def km(R:Rd)(c:Tc)(p p2:Pos)(a b:Expr)(q2 pos:Pos):a7 (VE c (.Call (.Name "list" p) [.Call (.Name "zip" p2) [a,b] [] q2] [] pos)) :=
 if h:(Ea c.sc "list"&&Ea c.sc "zip")=true then(R.v c a).bind fun x=>(R.v c b).bind fun y=>some ⟨.comp (.var 0) 1 .zip [x.x,y.x] none,rfl,fun{Y G}g=>by rw[Cy]at h;rw[<-kN];exact qj g.cm (g.sc.gl _ h.1) (g.bn _ (by decide)) (g.sc.gl _ h.2) (g.bn _ (by decide)) (x.ok g) (y.ok g) (Dg x.pl _ Y.env) (Dg y.pl [] Y.env)⟩else none
def mI(R:Rd)(c:Tc)(f:Str)(p:Pos):(a:Expr)->(pos:Pos)->a7 (VE c (.Call (.Name f p) [a] [] pos))
 |.Call (.Name f2 p2) [a,b] [] q2,pos=>if h:f="list"/\f2="zip" then by obtain⟨rfl,rfl⟩:=h;exact km R c p p2 a b q2 pos else cQ R c f p _ pos
 |a,pos=>cQ R c f p a pos
def kB(R:Rd)(c:Tc)(f:Str)(p:Pos)(a:Expr):(b:Expr)->(pos:Pos)->a7 (VE c (.Call (.Name f p) [a,b] [] pos))
 |.Name ty p2,pos=>if h:f="isinstance" then h▸T7 R c p a ty p2 pos else Qk R c f p a [.Name ty p2] pos
 |b,pos=>Qk R c f p a [b] pos
def rV(R:Rd)(c:Tc):(e:Expr)->a7 (VE c e)
 |.Dict [] [] p=>some ⟨.dsp0,rfl,fun{Y G}g=>jT (g:=fun _=>some (.dic [] [])) aK⟩
 |.Constant k j p=>jG c k j p
 |.Name x p=>j6 c x p
 |.BinOp a op b p=>S9 R c a op b p
 |.UnaryOp o a p=>nH R c o a p
 |.BoolOp o es p=>Un R c o es p
 |.Compare a [op] [b] p=>Uo R c a op b p
 |.Tuple es k p=>Xd R c es k p
 |.List es p=>Wm R c es p
 |.Subscript a b p=>Ta R c a b p
 |.Call (.Name f p) [a] [] pos=>mI R c f p a pos
 |.Call (.Name f p) [a,b] [] pos=>kB R c f p a b pos
 |.Call (.Name f p) (e::es) [] pos=>Qk R c f p e es pos
 |.Call (.Attribute o m apos) [a] [] cpos=>Vl R c o m apos a cpos
 |.Call (.Attribute o m apos) [a,b] [] cpos=>V5 R c o m apos a b cpos
 |.ListComp elt [⟨tg,it,ifs,0⟩] scope pos=>gf R c elt tg it ifs scope pos
 |_=>none
def rd:Nat->Rd
 |0=>⟨fun _ _=>none,fun _ _=>none⟩
 |n+1=>⟨rV (rd n),rT (rd n)⟩
end
section
open Ev.Ex
def J3(C z:Addr)(dx:a7 Addr):Obj:={cls:=.ref C,dict:=dx,data:=.fields #[.ref z,.none,.none,.none,.bool false,.none]}
structure XC(K:W.Frag)(C:Addr):Prop where
 ob:∃k y N b l hd s8 sub ab cl dd k0 k1 k2 k3 k5,K.lookup C=some (excClassObj k y C N b l hd s8 sub ab cl dd k0 k1 k2 k3 k5 "ValueError.__new__")/\Mr "ValueError" l
 at_:∃cd rs,W.clsIn K C=some cd/\cd.mro=List.map Value.ref rs++Ka/\cd.hasDict=true
 sa:W.findIn K (.ref C) "__setattr__"=some (some (.builtin "object.__setattr__"))
 na:W.findIn K (.ref C) "at"=some none
theorem fv(K:W.Frag):W.findCls K (.type "ValueError") (.type "type") "__init__"=some (.val (.builtin "ValueError.__init__")):=by kernel_rfl
variable {P:Pc}{k:Nat}{f C z e:Addr}{name qual:Str}{params:Arguments}{sc:Scope}{dV kV doc pm cdv ct oc:Value}{an od:a7 Addr}{osl:Array (a7 Value)}{p ap pos p1 p2 q1 p3 p4 p5 q2:Pos}{A:Around}{l:List PySem.Env}{F:Fz}{s:Shared}{args:Args}{wV nV:Value}{R:Result->Shared->Prop}
abbrev iniN:List Str:=["self", "words", "at"]
abbrev W6(p ap p1 p2 pos q1 p3 p4 p5 q2:Pos):List Stmt:=[.Expr (.Call (.Attribute (.Name "ValueError" p) "__init__" ap) [.Name "self" p1,.Name "words" p2] [] pos) q1,.Assign [.Attribute (.Name "self" p3) "at" p4] (.Name "at" p5) q2]
theorem oy(lk:P.K.lookup f=some ⟨oc,od,.func (W.fnOf name qual params (W6 p ap p1 p2 pos q1 p3 p4 p5 q2) sc dV kV doc pm an cdv ct),osl⟩)(hcd:W.codeIn P.K cdv qual=true)(S:FnScope iniN iniN sc)(v0:sc.names.lookup ("self":Str)=some .local)(v1:sc.names.lookup ("words":Str)=some .local)(v2:sc.names.lookup ("at":Str)=some .local)(vg:sc.names.lookup ("ValueError":Str)=some .globalImplicit)(hm:P.mg "ValueError"=none) (ht:∀env:PySem.Env,∃pl:Sem Bool,eval (.Call (.Attribute (.Name "ValueError" p) "__init__" ap) [.Name "self" p1,.Name "words" p2] [] pos) env=(do
   let ov <-eval (.Name "ValueError" p) env
   standAt ap.atName
   let(f,first) <-holding [ov] (getMethod ov "__init__" pl)
   callWith pos f first (backTo pos (starEach [.Name "self" p1,.Name "words" p2] env)) (backToKw pos (keywordEach [] env))))
  (hr:Room (k+1) A) (h:St P A l F s) (he:s.heap.get? e=some (J3 C z none)) (hbe:P.base.get? e=none) (xc:XC P.K C)
  (hb:BindsTo s (W.fnOf name qual params (W6 p ap p1 p2 pos q1 p3 p4 p5 q2) sc dV kV doc pm an cdv ct) args (iniN.zip [.ref e,wV,nV]))
  (q:∀h' tk z' dx,(∀b o,b≠e->s.heap.get? b=some o->h'.get? b=some o)->h'.get? e=some (J3 C z' (some dx))->s.heap.get? dx=none->dx≠e->h'.Ns1 dx (fun x=>if x="at" then some nV else none)->R (.ok (.ret .none)) {s with heap:=h',toks:=tk}):
  codeAny P.M A (.call (.ref f) args) R s:=by
 have KX:P.K.In s.heap:=h.mod.kin.keeps h.bk;have hkind:∀y∈iniN.zip [Value.ref e,wV,nV],sc.names.lookup y.1=some .local\/(sc.names.lookup y.1=some .cell/\((cellsFrom (s.heap.objs.size+1) sc.names []).lookup y.1).isSome=true):=fun y hy=>by
  rcases omc hy with rfl|hy
  .exact .inl v0
  rcases omc hy with rfl|hy
  .exact .inl v1
  rcases omc hy with rfl|hy
  .exact .inl v2
  .cases hy
 refine codeAny_call_function (by have:=hr.dp;lia) (KX _ _ lk) rfl S.co S.gen rfl (W.codeRec_of KX hcd) (hb _ _ _ _ ?_);refine wpAny_newFunctionEnv_cells S.kind hkind fun env he' s1 x=>?_;subst he';refine⟨(h.mod.nolimit.keeps h.bk).keeps x.toInCall.keep,codeAny_func ?_⟩;have ns:=x.toInCall.ns;have fresh:=x.toInCall.fresh;obtain⟨h1,tk1,rfl,hk⟩:=x.done;have get:∀{i:Nat}{y:Str}{v:Value},iniN[i]?=some y->[Value.ref e,wV,nV][i]?=some v->sc.names.lookup y=some .local->bindL (envOfC qual sc s.heap.objs.size f cdv).kindOf (iniN.zip [Value.ref e,wV,nV]) (fun _=>none) y=some v:=fun{i y v}e1 e2 k=>(V9 (kindOf:=(envOfC qual sc s.heap.objs.size f cdv).kindOf) (m:=fun _=>none) (m':=fun _=>none) S.nd e1 e2).1 k;have g0:=get (i:=0) rfl rfl v0;have g1:=get (i:=1) rfl rfl v1;have g2:=get (i:=2) rfl rfl v2;obtain⟨pl,ht⟩:=ht (envOfC qual sc s.heap.objs.size f cdv);obtain⟨⟨kk,y,N,b,ll,hd,s8,sub,ab,cl,dd,k0,k1,k2,k3,k5,lkC,mr⟩,⟨cd,rs,c1,c2,c3⟩,sa,na⟩:=xc;have ee1:h1.get? e=some (J3 C z none):=hk _ _ he;have nL:e≠s.heap.objs.size:=Es (Cu he);have bk1:∀b o,P.base.get? b=some o->h1.get? b=some o:=fun b o w=>hk _ _ (h.bk b o w);obtain⟨mb,hmb1,hmb2⟩:=h.mod.blt;have qt:interactive (envOfC qual sc s.heap.objs.size f cdv)=false:=quiet (Y:=⟨P,A,envOfC qual sc s.heap.objs.size f cdv,[],fun _=>True⟩) ⟨S.kind,rfl,rfl,fun _ w=>w.elim (fun w=>Option.isSome_iff_exists.mp (W.cellsFrom_some sc.names _ [] (.inl w))) fun w=>absurd rfl (S.nofree _ (mem_of_lookup w)),fun _ z=>z⟩;refine wpAny_execs_cons (wpAny_Expr_any (W.methodCall_KW (pl:=pl) (Calls.Name_function_global S.kind vg (Calls.loadGlobal_builtin (h.mod.glob.keeps bk1) hm (hmb1.keeps bk1) ((hmb2 _ (by decide)).trans (by decide +kernel:bootBuiltins "ValueError"=some (.type "ValueError"))) ?_)) ht) qt rfl);refine W.method_type (h₀:=s.heap) ⟨ns,fun b o w=>hk b o w,fresh⟩ KX (by kernel_rfl) (by decide +kernel) (fv _) (by decide +kernel) ?_;refine callWith_builtin1 (Calls.spliced_cons (wpAny_Name (wpAny_loadName_local S.kind v0 ns g0 ?_) rfl)) rfl rfl;refine Calls.spliced_cons (wpAny_Name (wpAny_loadName_local S.kind v1 ns g1 ?_) rfl);refine Calls.spliced_nil ?_;refine kl PySem.F.excBase_ValueError mr (hk _ _ (KX _ _ lkC)) (by rw[Ew];simp) ee1 ?_;have e1:=Bb {cls:=.type "tuple",data:=.seq [wV].toArray} ee1;have e2:((h1.push {cls:=.type "tuple",data:=.seq [wV].toArray}).update e (Obj.mapFields (·.setIfInBounds 0 (.ref h1.objs.size)))).get? e=some (J3 C h1.objs.size none):=Heap.get?_update_self _ e1 rfl;have kp2:∀b o,b≠e->h1.get? b=some o->((h1.push {cls:=.type "tuple",data:=.seq [wV].toArray}).update e (Obj.mapFields (·.setIfInBounds 0 (.ref h1.objs.size)))).get? b=some o:=fun b o nb w=>(Kw _ _ _ _ nb).trans (Bb _ w);generalize((h1.push {cls:=.type "tuple",data:=.seq [wV].toArray}).update e (Obj.mapFields (·.setIfInBounds 0 (.ref h1.objs.size))))=h2 at e2 kp2 ⊢;have ns2:h2.Ns s.heap.objs.size (bindL (envOfC qual sc s.heap.objs.size f cdv).kindOf (iniN.zip [Value.ref e,wV,nV]) fun _=>none):=by obtain⟨o,es,ep,w1,w2⟩:=ns;exact⟨o,es,ep,kp2 _ _ nL.symm w1,w2⟩
 have ne:∀b o,P.K.lookup b=some o->b≠e:=fun b o w w2=>by have:=h.mod.kin _ _ w;rw[w2,hbe]at this;cases this
 have K2:P.K.In h2:=fun b o w=>kp2 b o (ne b o w) (hk _ _ (KX _ _ w));refine wpAny_execs_cons (plainObj_wpAny_Assign_Attribute (wpAny_Name (wpAny_loadName_local S.kind v2 ns2 g2 (wpAny_Name (wpAny_loadName_local S.kind v0 ns2 g0 ?_) rfl)) rfl) rfl);refine oE K2 e2 c1 c2 c3 sa na fun h' tk w1 w2 w3=>wpAny_execs_nil ?_;have nd:s.heap.get? h2.objs.size=none:=by
  cases w:s.heap.get? h2.objs.size with
  |none=>rfl
  |some o=>exact absurd (Cu (kp2 _ _ (fun v=>by rw[v]at w;exact absurd (Cu e2) (by rw[v];exact M6 _)) (hk _ _ w))) (M6 _)
 exact q h' tk _ _ (fun b o nb w=>w3 b o nb (kp2 b o nb (hk _ _ w))) w1 nd (Nat.ne_of_gt (Cu e2)) w2
end
section
open Ev.Ex
variable {P:Pc}{B:Bd}{pn:List (Addr×a7 Obj)}{ad:Nat->List Addr}{τ:List Sl}{F G:Fz}{s s1:Shared}{x:Str}{k:Nat}{is:List Nat}{e1 e:Expr}{es:List Expr}{pos p p2:Pos}{E:Value->Shared->Prop}{g:Ev.Env->a7 (List T)}{A:Around}{l:List PySem.Env}{ts:List T}{us:List Value}
def iJ(P:Pc)(k:Nat)(f:Addr)(fd:FuncData):Prop:=∀{A l F s e C z wV nV args}{R:Result->Shared->Prop},Room (k+1) A->St P A l F s->s.heap.get? e=some (J3 C z none)->P.base.get? e=none->XC P.K C->BindsTo s fd args (iniN.zip [.ref e,wV,nV])->
 (∀h' tk z' dx,(∀b o,b≠e->s.heap.get? b=some o->h'.get? b=some o)->h'.get? e=some (J3 C z' (some dx))->s.heap.get? dx=none->dx≠e->h'.Ns1 dx (fun x=>if x="at" then some nV else none)->R (.ok (.ret .none)) {s with heap:=h',toks:=tk})->codeAny P.M A (.call (.ref f) args) R s
structure Cls(P:Pc)(x:Str)(k:Nat):Prop where
 ok:∃C fI fd k0,P.mg x=some (.ref C)/\XC P.K C/\W.keepIn P.K (.ref C)=true/\(∀h,P.K.In h->Ini h C fI)/\iJ P k fI fd/\(∀(s:Shared)(us:List Value),P.K.In s.heap->us.length=3->BindsTo s fd ⟨us,[]⟩ (iniN.zip us))/\∀(s:Shared)(us:List Value),P.K.In s.heap->us.length=2->BindsTo s fd ⟨us,[]⟩ (iniN.zip (us++[.int 0 k0]))
theorem dM:∀rs:List Addr,(rs.map Value.ref++Ka).contains (.type "BaseException")=true
 |[]=>by decide
 |r::rs=>by rw[Ba,List.cons_append,List.contains_cons,dM rs,Bool.or_true]
theorem XC.bex{K:W.Frag}{C:Addr}(xc:XC K C):∃k y N b l hd s8 sub ab cl dd k0 k1 k2 k3 k5,K.lookup C=some (excClassObj k y C N b l hd s8 sub ab cl dd k0 k1 k2 k3 k5 "ValueError.__new__")/\(Value.ref C::l).contains (.type "BaseException")=true:=by obtain⟨⟨k,y,N,b,l,hd,s8,sub,ab,cl,dd,k0,k1,k2,k3,k5,lk,mr⟩,⟨cd,rs,c1,c2,c3⟩,_⟩:=xc;refine⟨k,y,N,b,l,hd,s8,sub,ab,cl,dd,k0,k1,k2,k3,k5,lk,?_⟩;unfold W.clsIn at c1;rw[lk]at c1;cases c1;have c2:Value.ref C::l=rs.map Value.ref++Ka:=c2;rw[c2,dM]
theorem qi{env:PySem.Env}{x:Sem Value}{M:Model}{k y:Str}{C N:Addr}{b l:List Value}{hd ab:Bool}{s8:List Str}{sub:List Value}{cl:a7 Bool}{dd:a7 Addr}{k0 k1 k2 k3 k5:a7 Value}{nw:String}{Q:Flow->Shared->Prop}(c:(Value.ref C::l).contains (.type "BaseException")=true)(hh:A.handled=none)(h:wpAny M A x (fun v s1=>∃e z dx,v=.ref e/\s1.heap.get? C=some (excClassObj k y C N b l hd s8 sub ab cl dd k0 k1 k2 k3 k5 nw)/\s1.heap.get? e=some (J3 C z dx)/\E (.ref e) s1) E s):wpAny M A (raiseStmt env (some x) none) Q E s:=by
 unfold raiseStmt;refine Aa (Eh h (fun v s1 zz=>?_) fun _ _ r=>r);obtain⟨e,z,dx,ev,hC,he,q⟩:=zz;subst ev;obtain⟨hp,g,d,tk,os⟩:=s1;unfold J3 at he
 repeat(first|with_reducible refine wpAny_loadPart_at hC ?_|with_reducible refine wpAny_loadPart_at he ?_|(with_reducible refine wpAny_isSubtype_exc hC ?_;rw[c])|wp_step)
 exact wpAny_raiseNew_none hh q
theorem St.make(h:St P A l F s)(C:Addr)(us:List Value)(kw:List (Str×Value)):St P (A.under (.builtin "type.__call__" ⟨.ref C::us,kw⟩)) l F s :=
 ⟨h.mod,h.hd,by first|exact h.frames|(simpa[Around.under,Code.envs,Code.isFrame,pushEnvs]using h.frames),h.bk,h.fh,h.bare,h.funs,h.fo⟩
theorem kP(A:Around)(C:Addr)(us:List Value)(kw:List (Str×Value)):(A.under (.builtin "type.__call__" ⟨.ref C::us,kw⟩)).depth=A.depth+1:=by first|rfl|simp[Around.under,Code.weight,Code.isCreation,Code.isGuard,Code.isCaller,Code.frames,Code.isFrame,guardIds]
theorem mz(A:Around)(C:Addr)(us:List Value)(kw:List (Str×Value)):(A.under (.builtin "type.__call__" ⟨.ref C::us,kw⟩)).units=A.units+1:=by first|rfl|simp[Around.under,Code.cUnits,Code.frames,Code.isFrame]
theorem Room.make{k:Nat}{A:Around}(r:Room (k+1) A)(C:Addr)(us:List Value)(kw:List (Str×Value)):Room k (A.under (.builtin "type.__call__" ⟨.ref C::us,kw⟩)) :=
 ⟨by have:=r.dp;rw[kP];lia,by have:=r.un;rw[mz];lia⟩
theorem bW{ts:List T}{n:Int}(h:O9 ts=some n):(ts.length=1/\n=0)\/(∃w,ts=[w,.int n]):=by
 unfold O9 at h;split at h
 .cases h;exact .inl ⟨rfl,rfl⟩
 .cases h;exact .inr ⟨_,rfl⟩
 .cases h
theorem lZ(cm:B.calm)(cl:Cls B.toPc x k)(hr:Room (k+2) B.A)(hg:Gl B.toYc x)(hd:(x==("__debug__":Str))=false)(ar:Oks B.toYc (Nn B.N) (e1::es) g)(st:starEach (e1::es) B.env=(false,eval e1 B.env)::starEach es B.env)(pl:(backTo pos (starEach es B.env)).any (·.1)=false)(is:List Nat):PS B (.Raise (some (.Call (.Name x p) (e1::es) [] pos)) none p2) fun τ=>(g (Au (frzAt is τ))).bind fun ts=>(O9 ts).map (.rs x):=fun{pn ad τ F s o}hF q=>by
 obtain⟨ts,q1,q⟩:=obs q;obtain⟨n,q2,rfl⟩:=oms q;obtain⟨C,fI,fd,k0,hm,xc,hk,hi,ini,b3,b2⟩:=cl.ok;obtain⟨kk,y,N,b,ll,hd',s8,sub,ab,cl',dd,k0',k1,k2,k3,k5,lk,c⟩:=xc.bex;obtain⟨_,_,_,_,l2,_,_,_,_,_,_,_,_,_,_,_,lk2,mr⟩:=xc.ob;obtain⟨G,ad',le,h'⟩:=hF.frzAt is;have A:=h'.at
 rw[arm_exec_Raise];refine Aa (wpAny_standAt (qi (C:=C) (k:=kk) (y:=y) (N:=N) (b:=b) (hd:=hd') (s8:=s8) (sub:=sub) (ab:=ab) (cl:=cl') (dd:=dd) (k0:=k0') (k1:=k1) (k2:=k2) (k3:=k3) (k5:=k5) (nw:="ValueError.__new__") c (A.hd cm) (Aa ?_)));refine wpAny_Call_Name_kw (M3 A hg hm ?_ hd);refine W.callWith_K (h₀:=B.base) A.mod.kin hk (thn (ar pos A q1) fun us s1 z=>?_) st pl;obtain⟨G1,u1,rs⟩:=z;have A1:=A.up u1;have h3:=h'.after u1;have KX:B.K.In s1.heap:=A.mod.kin.keeps A1.bk;have lt:us.length<=2:=by rw[rs.length];rcases bW q2 with⟨w,_⟩|⟨_,rfl⟩<;>simp_all
 refine⟨KX,?_⟩;obtain⟨hp,gs,dr,tk,os⟩:=s1;refine iw PySem.F.excBase_ValueError mr (KX _ _ lk2) (by show us.length<=_;rw[Ew];lia) (hi _ KX) (wpAny_call ?_);have n1:hp.get? (hp.objs.size+1)=none:=Heap.get?_none_of_le (Nat.le_succ _);have nb:∀{a:Addr},hp.get? a=none->B.base.get? a=none:=fun{a}z=>by
  cases w:B.base.get? a with
  |none=>rfl
  |some o=>have:=A1.bk _ _ w;rw[show(⟨hp,gs,dr,tk,os⟩:Shared).heap=hp from rfl,z]at this;cases this
 have U:Up G1 ⟨hp,gs,dr,tk,os⟩ G1 ⟨Hd hp C us,gs,dr,tk,os⟩:=⟨fun b o w=>Ko _ _ w,rfl,id,fun _ _ e=>e,fun b o w=>Ko _ _ (A1.fh _ _ w),fun _ w=>.inl w⟩;have h4:=h3.after U;have S4:=h4.toSt.make C us [];have fin:∀{nV:Value}{kt:Tok},nV=.int n kt->BindsTo ⟨Hd hp C us,gs,dr,tk,os⟩ fd ⟨.ref (hp.objs.size+1)::us,[]⟩ (iniN.zip (.ref (hp.objs.size+1)::us.headD .none::[nV]))->
   codeAny B.M (B.A.under (.builtin "type.__call__" ⟨.ref C::us,[]⟩)) (.call (.ref fI) ⟨.ref (hp.objs.size+1)::us,[]⟩) (wants (fun r s'=>r=.none/\wpAny B.M B.A (do standAt p2;pure (Value.ref (hp.objs.size+1))) (fun v s1=>∃e z dx,v=.ref e/\s1.heap.get? C=some (excClassObj kk y C N b ll hd' s8 sub ab cl' dd k0' k1 k2 k3 k5 "ValueError.__new__")/\s1.heap.get? e=some (J3 C z dx)/\B.PE (.rs x n) (.ref e) s1) (B.PE (.rs x n)) s') (B.PE (.rs x n))) ⟨Hd hp C us,gs,dr,tk,os⟩:=fun{nV kt}en hb=>by
  refine ini (hr.make C us []) S4 (z:=hp.objs.size) bx (nb n1) xc hb fun h' tk' z' dx w1 w2 w3 w4 w5=>⟨rfl,?_⟩;have kp:∀b o,hp.get? b=some o->h'.get? b=some o:=fun b o w=>w1 b o (Es (Nat.lt_succ_of_lt (Cu w))) (Ko _ _ w);refine Aa (wpAny_standAt (Af ⟨_,z',some dx,rfl,kp _ _ (KX _ _ lk),w2,?_⟩));have n3:hp.get? dx=none:=by
   cases w:hp.get? dx with
   |none=>rfl
   |some o=>rw[show(⟨Hd hp C us,gs,dr,tk,os⟩:Shared).heap=Hd hp C us from rfl,Ko _ _ w]at w3;cases w3
  subst en;refine h3.pe cm ⟨_,C,dx,_,kt,rfl,hm,⟨fun b o _ w=>kp b o w,fun b o w=>⟨o.slots,kp b o w⟩,rfl,id⟩,⟨w2,rfl,rfl,_,rfl,by simp,.inl ⟨rfl,rfl⟩⟩,n1,n3,fun T z=>?_,w4,fun z=>?_,w5⟩
  .obtain⟨vs,z1,z2⟩:=z;cases z1;cases z2
  .obtain⟨_,o,w,_⟩:=(h3.toSt.funs cm).mem z;rw[show(⟨hp,gs,dr,tk,os⟩:Shared).heap=hp from rfl,n3]at w;cases w
 have K4:B.K.In (Hd hp C us):=fun b o w=>Ko _ _ (KX b o w);rcases bW q2 with⟨w,rfl⟩|⟨w,rfl⟩
 .obtain⟨v,rfl⟩:=List.length_eq_one_iff.mp (rs.length.trans w);exact fin (kt:=k0) rfl (b2 _ [_,v] K4 rfl)
 .obtain⟨v,_,rfl,_,v2,_,rfl,⟨kt,rfl⟩,rfl⟩:=rs;exact fin (kt:=kt) rfl (b3 _ [_,v,_] K4 rfl)
end
section
variable {sl:Sl}{as:List Addr}{Q:Value->Shared->Prop}
variable {B:Bd}{pn:List (Addr×a7 Obj)}{ad:Nat->List Addr}{τ:List Sl}{F G:Fz}{s s' s1:Shared}{x y:Str}{i j:Nat}{is:List Nat}{ke ve:Expr}{pos p px apos cpos a2 c2 tp:Pos}{E:Value->Shared->Prop}{t k:T}{ts ks:List T}{vs:List (List T)}{u v kv:Value}{a d:Addr}{fk fv:Ev.Env->a7 T}{r:Ev.Env}{w:World}{h:Heap}
theorem Alls.len{α:Type}{R:Addr->α->Prop}:∀{as:List Addr}{xs:List α},Alls R as xs->xs.length=as.length
 |[],_,h=>by cases h;rfl
 |_::_,_,⟨_,_,e,_,h⟩=>by subst e;simp[h.len]
theorem Alls.get{α:Type}{R:Addr->α->Prop}:∀{as:List Addr}{xs:List α}{n:Nat}{x:α},Alls R as xs->xs[n]?=some x->∃a,as[n]?=some a/\R a x
 |[],_,_,_,h,e=>by cases h;simp at e
 |a::_,_,0,_,⟨_,_,z,h1,_⟩,e=>by subst z;cases e;exact⟨a,rfl,h1⟩
 |_::_,_,n+1,_,⟨_,_,z,_,h2⟩,e=>by subst z;exact h2.get (n:=n) e
theorem Alls.app{α:Type}{R:Addr->α->Prop}{a:Addr}{x:α}:∀{as:List Addr}{xs:List α},Alls R as xs->R a x->Alls R (as++[a]) (xs++[x])
 |[],_,h,q=>by cases h;exact⟨x,[],rfl,q,rfl⟩
 |_::_,_,⟨_,_,z,h1,h2⟩,q=>by subst z;exact⟨_,_,rfl,h1,h2.app q⟩
theorem Alls.set{α:Type}{R S:Addr->α->Prop}{x:α}:∀{as:List Addr}{xs:List α}{n:Nat}{a:Addr},Alls R as xs->as[n]?=some a->as.Nodup->S a x->(∀b∈as,b≠a->∀y,R b y->S b y)->Alls S as (xs.set n x)
 |[],_,_,_,_,e,_,_,_=>by simp at e
 |b::as,_,0,_,⟨_,_,z,_,h2⟩,e,nd,q,k=>by subst z;cases e;exact⟨x,_,rfl,q,h2.to fun c hc y=>k c (.tail _ hc) (fun e=>(Er.mp nd).1 (e▸hc)) y⟩
 |b::as,_,n+1,a,⟨y,_,z,h1,h2⟩,e,nd,q,k=>by
  subst z;have e':as[n]?=some a:=by simpa using e
  exact⟨y,_,rfl,k b (.head _) (fun e2=>(Er.mp nd).1 (e2▸Ee e')) y h1,h2.set (n:=n) e' (Er.mp nd).2 q fun c hc=>k c (.tail _ hc)⟩
def aS:Sl->a7 (List T×List (List T))
 |.dl ks vs=>some (ks,vs)
 |.dic [] []=>some ([],[])
 |_=>none
theorem mL{k v:T}{sl':Sl}(h:Oj (some sl) k v=some sl'):∃ks vs,aS sl=some (ks,vs)/\Bj ks k=true/\ks.length<1000/\((Aw ks vs k).getD []).length<1000/\sl'=.dl (Ax ks k) (Bh ks vs k ((Aw ks vs k).getD []++[v])):=by
 have go:∀{ks:List T}{vs:List (List T)},(if Bj ks k=true/\ks.length<1000/\((Aw ks vs k).getD []).length<1000 then some (Sl.dl (Ax ks k) (Bh ks vs k ((Aw ks vs k).getD []++[v])))else none)=some sl'->Bj ks k=true/\ks.length<1000/\((Aw ks vs k).getD []).length<1000/\sl'=.dl (Ax ks k) (Bh ks vs k ((Aw ks vs k).getD []++[v])):=fun{ks vs}h=>by
  split at h
  .rename_i z;cases h;exact⟨z.1,z.2.1,z.2.2,rfl⟩
  .cases h
 cases sl with
 |dl ks vs=>exact⟨ks,vs,rfl,go h⟩
 |dic ks vs=>
  cases ks with
  |nil=>cases vs with
   |nil=>exact⟨[],[],rfl,go h⟩
   |cons _ _=>cases h
  |cons _ _=>cases h
 |_=>cases h
structure GAt{α:Type}(R:Heap->Addr->α->Prop)(w:World)(F:Fz)(h:Heap)(d:Addr)(as:List Addr)(ks:List T)(vs:List α):Prop where
 D:Dat w F h d ks (as.map .ref)
 L:Alls (R h) as vs
 nd:(d::as).Nodup
abbrev DlAt(w:World)(F:Fz):=GAt (OwnL w F) w F
theorem Fr.ownDl(h:B.Fr pn ad τ F s)(hx:B.N[i]?=some x)(ht:τ[i]?=some sl)(e:aS sl=some (ks,vs)):∃d as,ad i=d::as/\Look B.toYc s.heap x (.ref d)/\DlAt B.w F s.heap d as ks vs:=by
 have w:=h.slot i x _ hx ht;cases sl with
 |dl ks' vs'=>
  cases e;obtain⟨⟨a,e,l⟩,q⟩:=w;cases hd:ad i with
  |nil=>rw[hd]at e;cases e
  |cons b as=>rw[hd]at e q;cases e;exact⟨a,as,rfl,l,q.1,q.2.1,q.2.2⟩
 |dic ks' vs'=>
  cases ks' with
  |nil=>cases vs' with
   |nil=>cases e;obtain⟨d,us,h1,h2,D,r⟩:=h.ownD hx ht;cases r;exact⟨d,[],h1,h2,D,rfl,by simp⟩
   |cons _ _=>cases e
  |cons _ _=>cases e
 |_=>cases e
theorem DlAt.ok(q:DlAt w F h d as ks vs):OwnOk w F h (d::as) (.dl ks vs):=⟨q.D,q.L,q.nd⟩
theorem bH{sl':Sl}(ht:τ[i]?=some sl)(h1:sl.get=none)(h2:sl'.get=none):Au (τ.set i sl')=Au τ:=by
 refine List.ext_getElem? fun j=>?_;unfold Au;rw[Dm,Dm];by_cases z:i=j
 .subst z;rw[Ib (ome ht).1,ht,Option.map_some,Option.map_some,h1,h2]
 .rw[Jo z]
theorem set_set{sl sl':Sl}:(τ.set i sl).set i sl'=τ.set i sl':=List.set_set ..
theorem bK{α:Type}{R:Heap->Addr->α->Prop}{vs:List α}{mk:List T->List α->Sl}{x0:α}{o0:Obj}(hmk:∀{h d as ks vs},GAt R B.w F h d as ks vs->OwnOk B.w F h (d::as) (mk ks vs))(hR:∀{h h' a x},R h a x->(∀o,h.get? a=some o->h'.get? a=some o)->R h' a x)(h0:∀{h'},h'.get? s.heap.objs.size=some o0->R h' s.heap.objs.size x0)(hf0:o0.isFreed=false)(hu:B.toYc.Rm)(hF:B.Fr pn ad τ F s)(hx:B.N[i]?=some x)(ht:τ[i]?=some sl)(hk:Bj ks k=true)(hz:ks.length<1000)(rk:Rep B.w F k kv)(hd:ad i=d::as)(lk:Look B.toYc s.heap x (.ref d))(D:GAt R B.w F s.heap d as ks vs)(q:∀ad' s' n a vs1,B.Fr pn ad' (τ.set i (mk (Ax ks k) vs1)) F s'->Look B.toYc s'.heap x (.ref d)->(∃as1,ad' i=d::as1/\as1[n]?=some a/\GAt R B.w F s'.heap d as1 (Ax ks k) vs1)->vs1[n]?=some ((Aw ks vs k).getD x0)->(∀v,Bh ks vs k v=vs1.set n v)->Q (.ref a) s'):wpAny B.M B.A (call (.builtin "dict.setdefault") [.ref d,kv,.ref s.heap.objs.size]) Q E {s with heap:=s.heap.push o0}:=by
 have l0:s.heap.get? s.heap.objs.size=none:=Bs;have hl1:(s.heap.push o0).get? s.heap.objs.size=some o0:=Cv _ hf0;have u1:Up F s F {s with heap:=s.heap.push o0}:=Up.side (k:=s.toks) hF.up.fh;have D1:Dat B.w F (s.heap.push o0) d ks (as.map .ref):=OwnD.to D.D (fun o e=>u1.ext _ o e) (fun _ _ e=>e) fun _ h=>h;have hl:(as.map Value.ref).length=ks.length:=D.D.len;have hlv:vs.length=ks.length:=by rw[D.L.len,<-hl,Aq]
 refine pv (rdy hu u1.fh D1 hk rk) (Nat.lt_of_lt_of_le hz (by rw[Ew];decide)) (fun u eu=>?_) fun en h' D2 hs=>?_
 .rw[Hl hl]at eu;obtain⟨n,e1,e2⟩:=obs eu;rw[Dm]at e2;obtain⟨a,e3,rfl⟩:=oms e2;have hn:n<vs.length:=by rw[hlv,<-hl,Aq];exact(ome e3).1
  have u2:Up F s F {s with heap:=s.heap.push o0,toks:=s.toks+Dq k}:=Up.side hF.up.fh;have hf:=hF.after u2;have D3:GAt R B.w F (s.heap.push o0) d as ks vs:=⟨D1,D.L.to fun b hb x q=>hR q fun o e=>u2.ext b o e,D.nd⟩;have h3:=hf.own' (sl':=mk ks vs) (d:=d::as) hx ht (fun a h=>by rw[hd]at h;exact h) (fun a h=>.inl (by rw[hd];exact h)) (fun a h=>(hf.own i a (by rw[hd];exact h)).2) (fun _ _ _ e=>e) rfl id fun lk'=>SlOk.mk (lk' _ (lk.up u2)) (hmk D3);exact q _ _ n a vs (by rw[Mz,e1];exact h3) (lk.up u2) ⟨as,if_pos rfl,e3,by rw[Mz,e1];exact D3⟩ (by rw[Hl hlv,e1,Bi,Dw hn];rfl) fun v=>by rw[K6 hlv,e1]
 .have en':Df ks k=none:=by
   rw[Hl hl]at en;cases e:Df ks k with
   |none=>rfl
   |some n=>
    rw[e]at en;have hn:n<ks.length:=by unfold Df at e;rw[List.findIdx?_eq_some_iff_getElem]at e;exact e.1
    rw[Bi,List.getElem?_eq_none_iff,hl]at en;lia
  have dne:d≠s.heap.objs.size:=fun e=>by obtain⟨o,ho,_⟩:=D.D.at;rw[e,l0]at ho;cases ho
  have asne:s.heap.objs.size∉as:=fun e=>by obtain⟨o,ho⟩:=(hF.own i _ (by rw[hd];exact .tail _ e)).2;rw[l0]at ho;cases ho
  have kp:∀b o,b≠d->s.heap.get? b=some o->h'.get? b=some o:=fun b o hb e=>(hs.2 b hb).trans (u1.ext b o e);have hL:h'.get? s.heap.objs.size=some o0:=(hs.2 _ (Ne.symm dne)).trans hl1;have D3:GAt R B.w F h' d (as++[s.heap.objs.size]) (Ax ks k) (vs++[x0]):=⟨by rw[K6 hl,en']at D2;rw[Dx];exact D2,Alls.app (D.L.to fun b hb y q=>hR q fun o e=>kp b o (fun z=>(Er.mp D.nd).1 (z▸hb)) e) (h0 hL),by have:=D.nd;rw[Er]at this ⊢;refine⟨fun z=>(oma z).elim this.1 fun z=>dne (omg z),List.nodup_append.mpr ⟨this.2,by simp,fun a ha b hb z=>asne (by rw[omg hb]at z;rw[<-z];exact ha)⟩⟩⟩;have mem:∀{a},a∈d::(as++[s.heap.objs.size])->a∈ad i\/a=s.heap.objs.size:=fun{a}h=>by rw[hd,<-List.cons_append]at *;exact(oma h).imp id omg
  have h3:=hF.own' (sl':=mk (Ax ks k) (vs++[x0])) (d:=d::(as++[s.heap.objs.size])) (s':={s with heap:=h',toks:=s.toks+Dq k}) hx ht (fun a h=>by rw[hd]at h;rw[<-List.cons_append];exact List.mem_append_left _ h)
   (fun a h=>(mem h).imp id fun z=>by rw[z];exact⟨hF.off l0,hF.up.fh.none l0⟩)
   (fun a h=>(mem h).elim (fun z=>by
    by_cases w:a=d
    .obtain⟨o,ho,_⟩:=D2.at;exact⟨o,w▸ho⟩
    .obtain⟨o,ho⟩:=(hF.own i a z).2;exact⟨o,kp a o w ho⟩) fun z=>by rw[z];exact⟨_,hL⟩)
   (fun b o hb e=>kp b o (fun z=>hb (by rw[z];exact .head _)) e) rfl id fun lk'=>SlOk.mk (lk' _ lk) (hmk D3)
  have lkn:Look B.toYc h' x (.ref d):=by have:=h3.slot i x _ hx (Ib (ome ht).1);rw[if_pos rfl]at this;have ok:=hmk D3;revert this ok;cases mk (Ax ks k) (vs++[x0])<;>intro q w<;>first|exact w.elim|(obtain⟨⟨b,e,l⟩,_⟩:=q;cases e;exact l)
  refine q _ _ as.length s.heap.objs.size (vs++[x0]) h3 lkn ⟨_,if_pos rfl,by simp,D3⟩ ?_ fun v=>?_
  .rw[Hl hlv,en',<-D.L.len];simp
  .rw[K6 hlv,en',<-D.L.len];simp
theorem mn{Y:Yc}(h:wpAny Y.M Y.A (newList []) Q E s):wpAny Y.M Y.A (eval (.List [] tp) Y.env) Q E s:=by rw[arm_eval_List];exact Aa (wpAny_standAt (Aa (Calls.spliced_nil h)))
theorem jf(hu:B.toYc.Rm)(is:List Nat)(hx:B.N[i]?=some x)(n:Nm x)(hk:Oke B.toYc (Nn B.N) ke fk)(hv:Oke B.toYc (Nn B.N) ve fv)(s1:starEach [ke,.List [] tp] B.env=(false,eval ke B.env)::starEach [.List [] tp] B.env)(s2:starEach [ve] B.env=[(false,eval ve B.env)])(l1:(apos.endLine==cpos.line)=true)(l2:(a2.endLine==c2.line)=true)(pl:Plain B.toYc cpos [ke,.List [] tp]):PS B (.Expr (.Call (.Attribute (.Call (.Attribute (.Name x px) "setdefault" apos) [ke,.List [] tp] [] cpos) "append" a2) [ve] [] c2) pos) fun τ=>(fk (Au (frzAt is τ))).bind fun k=>(fv (Au (frzAt is τ))).bind fun y=>sh (frzAt is τ) i (Oj (frzAt is τ)[i]? k y):=fun{pn ad τ F s o}hF q=>by
 obtain⟨k,e1,q⟩:=obs q;obtain⟨y,e2,q⟩:=obs q;obtain⟨sl',e3,rfl⟩:=oms q;obtain⟨G,ad',le,h'⟩:=hF.frzAt is;cases ht:(frzAt is τ)[i]? with
 |none=>rw[ht]at e3;cases e3
 |some sl=>
  rw[ht]at e3;obtain⟨ks,vs,e4,hk1,hk2,hk3,rfl⟩:=mL e3;obtain⟨d,as,hd,lk,D0⟩:=h'.ownDl hx ht e4;have hg:sl.get=none:=by cases sl<;>first|rfl|cases e4
  refine wpAny_Expr_any (wpAny_Call_method_late rfl (by rw[s2];rfl) l2 rfl (wpAny_Call_method_late rfl pl.few l1 rfl (Mm h'.ok n lk ?_))) (quiet h'.ok);obtain⟨od,o1,o2,o3⟩:=D0.D.at
  refine⟨"dict",_,PySem.F.plainAttrs_dict,PySem.F.slot_dict_setdefault,PySem.F.type_dict_setdefault,⟨od,o1,o2⟩,fun b e=>by cases e;exact⟨od,o1,o3⟩,Vt pl ?_⟩;rw[show backTo cpos (starEach [ke,.List [] tp] B.env)=(false,eval ke B.env)::backTo cpos (starEach [.List [] tp] B.env) by rw[s1];rfl];refine Calls.spliced_cons (thn (hk h'.at e1) fun kv s3 z=>?_);obtain⟨G1,u1,r1⟩:=z;have h1:=h'.after u1;obtain⟨d',as',hd',lk1,D1⟩:=h1.ownDl hx ht e4;rw[hd]at hd';cases hd';refine Calls.spliced_cons (mn (Gn (Calls.spliced_nil (bK (mk:=.dl) (x0:=[]) (R:=OwnL B.w G1) DlAt.ok (fun q k=>OwnL.to q k fun _ _ e=>e) (fun e=>⟨#[],0,e,E9 _,rfl⟩) rfl hu h1 hx ht hk1 hk2 r1 hd lk1 D1 fun ad2 s4 m a vs1 h2 lk2 ha hv1 hset=>?_)) (by size_fits)));obtain⟨as1,had,has,D2⟩:=ha;have hsl:((frzAt is τ).set i (.dl (Ax ks k) vs1))[i]?=some (.dl (Ax ks k) vs1):=Ib (ome ht).1;obtain⟨a',ea,qc,m1,q1,q2,q3⟩:=D2.L.get hv1;rw[has]at ea;cases ea;refine⟨"list",_,PySem.F.plainAttrs_list,PySem.F.slot_list_append,PySem.F.type_list_append,Mf q1,fun b e=>by cases e;exact⟨_,q1,rfl⟩,?_⟩;refine Calls.callWith_builtin (by rw[s2];rfl) ?_;rw[show backTo c2 (starEach [ve] B.env)=[(false,eval ve B.env)] by rw[s2];rfl];refine Calls.evalArgs_plain (Calls.spliced_cons (thn (hv h2.at (by rw[bH ht hg rfl];exact e2)) fun w s5 z=>Calls.spliced_nil ?_));obtain⟨G2,u2,r2⟩:=z;have h3:=h2.after u2;obtain⟨d',as',had',lk3,D3⟩:=h3.ownDl hx hsl rfl;rw[had]at had';cases had';obtain⟨a',ea,qc,m1,q1,q2,q3⟩:=D3.L.get hv1;rw[has]at ea;cases ea;have hsz:qc.size+1<=sizeLine:=by rw[E8 q3];exact Cr (show _<=1000 from hk3) (by rw[Ew];decide)
  refine call_meets PySem.F.slot_list_append (Mf q1) PySem.F.entry_list_append (PySem.F.args_list_append_2 _ _) (PySem.list_append a qc m1 w (by lia)) ⟨q1,?_⟩;obtain⟨m2,q4⟩:∃m2,(s5.heap.update a (Obj.mapSeq fun x=>x.push w)).get? a=some {cls:=.type "list",data:=.seq (qc.push w) m2}:=⟨_,by rw[Heap.get?_update_self _ q1 rfl];rfl⟩;have oth:∀b o,b≠a->s5.heap.get? b=some o->(s5.heap.update a (Obj.mapSeq fun x=>x.push w)).get? b=some o:=fun b o hb e=>(Heap.get?_update_other _ _ (Ne.symm hb)).trans e;have am:=Ee has;have nda:=Er.mp D3.nd;have D4:DlAt B.w G2 (s5.heap.update a (Obj.mapSeq fun x=>x.push w)) d as1 (Ax ks k) (vs1.set m ((Aw ks vs k).getD []++[y])):=⟨OwnD.to D3.D (fun o e=>oth d o (fun z=>nda.1 (z▸am)) e) (fun _ _ e=>e) fun _ h=>h,D3.L.set has nda.2 ⟨_,m2,q4,by rw[Array.size_push];exact hsz,by rw[Array.toList_push];exact q3.app ⟨_,_,rfl,r2,rfl⟩⟩ fun b hb hne z q=>q.to (fun o e=>oth b o hne e) fun _ _ e=>e,D3.nd⟩;have h4:=h3.own' (sl':=.dl (Ax ks k) (Bh ks vs k ((Aw ks vs k).getD []++[y]))) (d:=d::as1) (s':={s5 with heap:=s5.heap.update a (Obj.mapSeq fun x=>x.push w),toks:=s5.toks}) hx hsl (fun b hb=>by rw[had]at hb;exact hb) (fun b hb=>.inl (by rw[had];exact hb))
   (fun b hb=>by
    by_cases hba:b=a
    .subst hba;exact⟨_,q4⟩
    .obtain⟨o,ho⟩:=(h3.own i b (by rw[had];exact hb)).2;exact⟨o,oth b o hba ho⟩)
   (fun b o hb e=>oth b o (fun z=>hb (by rw[z];exact .tail _ am)) e) rfl id fun lk'=>SlOk.mk (lk' _ lk3) (by rw[hset];exact D4.ok)
  rw[set_set]at h4;exact⟨_,_,(le.trans u1.ff).trans u2.ff,h4⟩
end
section
def E0:Str:="_law_told"
abbrev Kx:Arguments:=⟨[],[],none,[],[],none,[]⟩
def Qo(c:Tc)(ls:Scope):Bool:=ls.kind==.function&&!ls.isCoroutine&&!ls.isGenerator&&ls.names.all fun p=>(p.2==.free&&c.sc.names.lookup p.1==some .cell&&ls.names.lookup p.1==some .free&&c.nm.contains p.1)||p.2==.globalImplicit
def bT(B:Bd)(c:Tc)(G:Glo):Prop:=∀{y g:Str}{py p4 p1 p2 p3 p5 p6:Pos}{e:Expr}{es:List Expr}{ls:Scope}(x:VE ⟨ls,c.nm⟩ e)(xs:LE ⟨ls,c.nm⟩ es){i:Nat},Qo c ls=true->Ea c.sc E0=true->(Ec g&&Ea ls g)=true->B.N[i]?=some y->Loc B.env.scope y->∀is:List Nat,
 PS B (.Assign [.Name y py] (.Call (.Name E0 p4) [.Lambda Kx (.Call (.Name g p1) (e::es) [] p2) ls p3] [] p5) p6) fun τ=>(Az G (x.x::xs.xs) (Au (frzAt is τ))).bind fun ts=>(Fj G g ts).bind fun t=>some (.nx ((frzAt is τ).set i (.val t)))
structure Sd(B:Bd)(c:Tc)(G:Glo)(er:List Str):Prop where
 gd:Gd B.toYc c G
 nm:c.nm=B.N
 se:B.env.scope=c.sc
 fm:B.Fm
 cls:∀x∈er,x≠E0->∃k,Cls B.toPc x k/\Room (k+2) B.A
 td:er.contains E0=true->bT B c G
structure SE(c:Tc)(er:List Str)(st:Stmt) where
 x:S
 ok:∀{B G},Sd B c G er->PS B st (Cp G x)
structure SSE(c:Tc)(er:List Str)(ss:List Stmt) where
 xs:List S
 ok:∀{B G},Sd B c G er->PSs B ss (Bp G xs)
variable {c:Tc}{er:List Str}{B:Bd}{G:Glo}{e:Expr}{es:List Expr}{x:Str}{i:Nat}{f:Ev.Env->a7 T}
theorem Sd.nn(g:Sd B c G er):∀x i,Nn B.N x i->True:=fun _ _ _=>trivial
theorem Sd.at{r:Ev.Env}{F:Fz}{s:Shared}(g:Sd B c G er)(A:At B.toYc (Nn B.N) r F s):At B.toYc c.N r F s:=A.mono fun x i n=>by show B.N[i]?=some x;rw[<-g.nm];exact M1 n.2.2
theorem Sd.oe(g:Sd B c G er)(h:Oke B.toYc c.N e f):Oke B.toYc (Nn B.N) e f:=fun A q=>h (g.at A) q
theorem Sd.ob(g:Sd B c G er)(h:Okb B.toYc c.N e f):Okb B.toYc (Nn B.N) e f:=fun A q=>h (g.at A) q
theorem Sd.os{f:Ev.Env->a7 (List T)}(g:Sd B c G er)(h:Oks B.toYc c.N es f):Oks B.toYc (Nn B.N) es f:=fun pos A q=>h pos (g.at A) q
theorem Sd.oi{tg:Expr}{f:Ev.Env->a7 (List T)}(g:Sd B c G er)(h:Hm B.toYc c.N tg e f):Hm B.toYc (Nn B.N) tg e f:=fun A q=>h (g.at A) q
theorem Sd.hx(g:Sd B c G er)(h:Dh c.nm x=some i):B.N[i]?=some x:=by rw[<-g.nm];exact M1 h
theorem Sd.hl(g:Sd B c G er)(h:Fi c.sc x=true):Loc B.env.scope x:=by rw[g.se];exact(Qr h).2
theorem J7(h:Ec x=true):Nm x:=⟨(Io h).1,(Io h).2.1⟩
theorem PS.eq{st:Stmt}{f g:List Sl->a7 Out}(h:PS B st f)(e:f=g):PS B st g:=by subst e;exact @h
variable {xn:List Str}
def Vn(R:Rd)(c:Tc)(er:List Str)(e:Expr)(p:Pos):a7 (SE c er (.Return (some e) p)) :=
 (R.v c e).bind fun x=>some ⟨.ret x.x,fun{B G}g=>iP (g.oe (x.ok g.gd)) (Ae x.x)⟩
theorem mR{e:E}{t:T}(h:fresh e=false):Jn e t=.val t:=by unfold Jn;rw[h]
def Tu(R:Rd)(c:Tc)(er:List Str)(x:Str)(p:Pos)(e:Expr)(pos:Pos):a7 (SE c er (.Assign [.Name x p] e pos)) :=
 if h:(Fi c.sc x&&!Tf e)=true then
  match h2:Dh c.nm x with
  |none=>none
  |some i=>(R.v c e).bind fun y=>if hf:fresh y.x=false then some ⟨.asg i y.x,fun{B G}g=>by
    rw[Cy,Bool.not_eq_true']at h;have w:(fun τ=>(Ac G y.x (Au (frzAt (Ae y.x) τ))).bind fun t=>some (Out.nx ((frzAt (Ae y.x) τ).set i (.val t))))=Cp G (.asg i y.x):=by funext τ;show _=(Ac G y.x (Au (frzAt (Ae y.x) τ))).bind fun t=>some (Out.nx ((frzAt (Ae y.x) τ).set i (Jn y.x t)));simp only[mR hf]
    refine @PS.eq B _ _ _ ?_ w;exact Mb (pos:=pos) (p:=p) (g.oe (y.ok g.gd)) (Ae y.x) (g.hx h2) (g.hl h.1) (dN y.pl h.2 _ _ B.env)⟩else none
 else none
def T4(R:Rd)(c:Tc)(er:List Str)(x:Str)(p:Pos)(a b:Expr)(p2 pos:Pos):a7 (SE c er (.Assign [.Name x p] (.BinOp a .Add b p2) pos)) :=
 if h:Fi c.sc x=true then
  match h2:Dh c.nm x with
  |none=>none
  |some i=>(R.v c a).bind fun y=>(R.v c b).bind fun z=>some ⟨.asg i (.bin .add y.x z.x),fun{B G}g=>by
    have w:(fun τ=>((Ac G y.x (Au (frzAt (Ae (.bin .add y.x z.x)) τ))).bind fun x=>(Ac G z.x (Au (frzAt (Ae (.bin .add y.x z.x)) τ))).bind fun y=>Lv x y).bind fun t=>some (Out.nx ((frzAt (Ae (.bin .add y.x z.x)) τ).set i (Qn t))))=Cp G (.asg i (.bin .add y.x z.x)):=by
     have k:∀t,Jn (.bin .add y.x z.x) t=Qn t:=fun t=>by cases t<;>rfl
     funext τ;show _=(((Ac G y.x (Au (frzAt (Ae (.bin .add y.x z.x)) τ))).bind fun x=>(Ac G z.x (Au (frzAt (Ae (.bin .add y.x z.x)) τ))).bind fun y=>Lv x y).bind fun t=>some (Out.nx ((frzAt (Ae (.bin .add y.x z.x)) τ).set i (Jn (.bin .add y.x z.x) t))));simp only[k]
    refine @PS.eq B _ _ _ ?_ w;exact lJ (pos:=pos) (p:=p) (p2:=p2) (g.oe (y.ok g.gd)) (g.oe (z.ok g.gd)) _ (g.hx h2) (g.hl h)⟩
 else none
def S6(R:Rd)(c:Tc)(er:List Str)(x:Str)(p:Pos)(es:List Expr)(p2 pos:Pos):a7 (SE c er (.Assign [.Name x p] (.List es p2) pos)) :=
 if h:Fi c.sc x=true then
  match h2:Dh c.nm x with
  |none=>none
  |some i=>(J9 R c es).bind fun y=>some ⟨.asg i (.lst y.xs),fun{B G}g=>by
    have w:(fun τ=>((fun r=>if y.xs.length<=1000 then(Az G y.xs r).map Sl.own else none) (Au (frzAt (Bx y.xs) τ))).bind fun sl=>some (Out.nx ((frzAt (Bx y.xs) τ).set i sl)))=Cp G (.asg i (.lst y.xs)):=by
     funext τ;show _=((if y.xs.length<=1000 then(Az G y.xs (Au (frzAt (Bx y.xs) τ))).map T.lst else none)).bind fun t=>some (Out.nx ((frzAt (Bx y.xs) τ).set i (Jn (.lst y.xs) t)));dsimp only;split
     .cases Az G y.xs (Au (frzAt (Bx y.xs) τ))<;>rfl
     .rfl
    refine @PS.eq B _ _ _ ?_ w;exact M4 (pos:=pos) (p:=p) (lq (pos:=p2) (n:=y.xs.length) Q8 (g.os (y.ok g.gd))) (Bx y.xs) (g.hx h2) (g.hl h) rfl⟩
 else none
def pF(R:Rd)(Q:∀ss,a7 (SSE c er ss))(t:Expr)(a b:List Stmt)(p:Pos):a7 (SE c er (.If t a b p)) :=
 (R.t c t).bind fun z=>(Q a).bind fun x=>(Q b).bind fun y=>some ⟨.ite z.x x.xs y.xs,fun{B G}g=>cL (g.ob (z.ok g.gd)) (Ae z.x) (x.ok g) (y.ok g)⟩
def qe(R:Rd)(Q:∀ss,a7 (SSE c er ss))(t:Expr)(a:List Stmt)(p:Pos):a7 (SE c er (.While t a [] p)) :=
 (R.t c t).bind fun z=>(Q a).bind fun x=>some ⟨.wloop z.x x.xs,fun{B G}g=>iv g.fm (Ae z.x) (g.ob (z.ok g.gd)) (x.ok g)⟩
theorem Sd.cl(g:Sd B c G er){f:Str}{p pos:Pos}(x:VE c e)(xs:LE c es)(h:(Ec f&&Ea c.sc f)=true):Cl B f p e es pos (Az G (x.x::xs.xs)) (G.call f) (G.exc f):=by rw[Cy]at h;exact⟨fun ts hs=>g.gd.call f ts hs,g.gd.sc.gl f h.2,g.os (Hs (x.ok g.gd) (xs.ok g.gd) (Dg x.pl es B.env)),g.gd.cm,(Io h.1).1,Dg x.pl es B.env,xs.pl pos B.env⟩
def k8(R:Rd)(c:Tc)(er:List Str)(f:Str)(p:Pos)(e:Expr)(es:List Expr)(pos p2:Pos):a7 (SE c er (.Expr (.Call (.Name f p) (e::es) [] pos) p2)) :=
 if h:(Ec f&&Ea c.sc f)=true then(R.v c e).bind fun x=>(J9 R c es).bind fun xs=>some ⟨.expx f (x.x::xs.xs),fun{B G}g=>by exact qV (p2:=p2) (g.cl (p:=p) (pos:=pos) x xs h) (Bx (x.x::xs.xs)) rfl⟩else none
def aE(R:Rd)(c:Tc)(er:List Str)(y:Str)(px:Pos)(f:Str)(p:Pos)(e:Expr)(es:List Expr)(pos p2:Pos):a7 (SE c er (.Assign [.Name y px] (.Call (.Name f p) (e::es) [] pos) p2)) :=
 if h:(Ec f&&Ea c.sc f)=true then if h1:Fi c.sc y=true then
  match h2:Dh c.nm y with
  |none=>none
  |some i=>(R.v c e).bind fun x=>(J9 R c es).bind fun xs=>some ⟨.asgx i f (x.x::xs.xs),fun{B G}g=>by exact j0 (p2:=p2) (px:=px) (g.cl (p:=p) (pos:=pos) x xs h) (Bx (x.x::xs.xs)) (g.hx h2) (g.hl h1) rfl⟩else none else none
def lS(R:Rd)(c:Tc)(er:List Str)(x:Str)(p:Pos)(e:Expr)(es:List Expr)(pos p2:Pos):a7 (SE c er (.Raise (some (.Call (.Name x p) (e::es) [] pos)) none p2)) :=
 if hx:x=E0 then none else if h:(Ec x&&Ea c.sc x&&er.contains x)=true then(R.v c e).bind fun y=>(J9 R c es).bind fun ys=>some ⟨.fail x (y.x::ys.xs),fun{B G}g=>by simp only[Bool.and_eq_true]at h;obtain⟨k,cl,hr⟩:=g.cls x (List.contains_iff_mem.mp h.2) hx;exact lZ g.gd.cm cl hr (g.gd.sc.gl x h.1.2) (Io h.1.1).1 (g.os (Hs (y.ok g.gd) (ys.ok g.gd) (Dg y.pl es B.env))) (Dg y.pl es B.env) (ys.pl pos B.env) (Bx (y.x::ys.xs))⟩else none
def j7(R:Rd)(c:Tc)(er:List Str)(y:Str)(py:Pos)(f:Str)(p4:Pos):(lb:Expr)->(ls:Scope)->(p3 p5 p6:Pos)->a7 (SE c er (.Assign [.Name y py] (.Call (.Name f p4) [.Lambda Kx lb ls p3] [] p5) p6))
 |.Call (.Name g p1) (e::es) [] p2,ls,p3,p5,p6=>
  if hf:f=E0 then
  if h:(Qo c ls&&(Ea c.sc E0&&((Ec g&&Ea ls g)&&(er.contains E0&&Fi c.sc y))))=true then
   match h2:Dh c.nm y with
   |none=>none
   |some i=>(R.v ⟨ls,c.nm⟩ e).bind fun x=>(J9 R ⟨ls,c.nm⟩ es).bind fun xs=>some ⟨.asg i (.told g (x.x::xs.xs)),fun{B G}g'=>by
     subst hf;obtain⟨h1,h3⟩:=Bool.and_eq_true_iff.mp h;obtain⟨h3,h4⟩:=Bool.and_eq_true_iff.mp h3;obtain⟨h4,h5⟩:=Bool.and_eq_true_iff.mp h4;obtain⟨h5,h6⟩:=Bool.and_eq_true_iff.mp h5;have w:(fun τ=>(Az G (x.x::xs.xs) (Au (frzAt (Bx (x.x::xs.xs)) τ))).bind fun ts=>(Fj G g ts).bind fun t=>some (Out.nx ((frzAt (Bx (x.x::xs.xs)) τ).set i (.val t))))=Cp G (.asg i (.told g (x.x::xs.xs))):=by funext τ;show _=((Az G (x.x::xs.xs) (Au (frzAt (Bx (x.x::xs.xs)) τ))).bind fun ts=>Fj G g ts).bind fun t=>some (Out.nx ((frzAt (Bx (x.x::xs.xs)) τ).set i (.val t)));rw[Option.bind_assoc]
     refine @PS.eq B _ _ _ ?_ w;exact g'.td h5 x xs h1 h3 h4 (g'.hx h2) (g'.hl h6) _⟩
  else none else none
 |_,_,_,_,_=>none
end
section
section
variable {pos:Pos}{i j:Int}{c cv:Value}
theorem pG:∀(n:Nat)(l:List Value),l.length<=n->TriplesOk l->codeAmong pos (l++[rawInt i,rawInt j,c])=some cv->codeAmong pos l=some cv\/cv=c:=by
 intro n
 induction n with
 |zero=>
  intro l hl ht h;obtain rfl:l=[]:=List.length_eq_zero_iff.mp (by lia);have h:(if(i==pos.line&&j==pos.col)=true then some c else codeAmong pos [])=some cv:=h;split at h
  .cases h;exact .inr rfl
  .exact .inl h
 |succ n ih=>
  intro l hl ht h;unfold TriplesOk at ht;split at ht
  .have h:(if(i==pos.line&&j==pos.col)=true then some c else codeAmong pos [])=some cv:=h;split at h
   .cases h;exact .inr rfl
   .exact .inl h
  .rename_i a s b t d rest;have h:(if(a==pos.line&&b==pos.col)=true then some d else codeAmong pos (rest++[rawInt i,rawInt j,c]))=some cv:=h;show(if(a==pos.line&&b==pos.col)=true then some d else codeAmong pos rest)=some cv\/cv=c;split at h
   .rename_i e;rw[if_pos e];exact .inl h
   .rename_i e;rw[if_neg e];exact ih rest (by simp at hl;lia) ht h
  .exact ht.elim
theorem pY:∀(n:Nat)(l:List Value),l.length<=n->TriplesOk l->TriplesOk (l++[rawInt i,rawInt j,c]):=by
 intro n
 induction n with
 |zero=>intro l hl ht;obtain rfl:l=[]:=List.length_eq_zero_iff.mp (by lia);exact trivial
 |succ n ih=>
  intro l hl ht;unfold TriplesOk at ht;split at ht
  .exact trivial
  .rename_i a s b t d rest;exact ih rest (by simp at hl;lia) ht
  .exact ht.elim
end
variable {P:Pc}{B:Bd}{cs:List Addr}{a C D f ta DE p cc cd:Addr}{n:Int}{k:Nat}{F G G2:Fz}{s s' s1 s2:Shared}{l:List PySem.Env}{x g:Str}{A:Around}{t tt:T}{ts:List T}{u:Value}{o:Out}{pn:List (Addr×a7 Obj)}{ad:Nat->List Addr}{τ:List Sl}{ls:Scope}{lb:Expr}{pos:Pos}{Q E:Value->Shared->Prop}{cl:List (Str×Addr)}
structure Ui(B:Bd)(cc p:Addr):Prop where
 stk:B.stack=[B.env]
 fm:B.Fm
 cm:B.calm
 tb:B.tbp=[(p,none)]
 code:B.env.code=.ref cc
 qual:B.env.qual++"<lambda>"=Gh
 hd:∀h,B.K.In h->W.CodeHd h cc p
 bm:∀h,B.K.In h->h.BuiltinsAt B.mg p
abbrev Nr(lb:Expr)(ls:Scope)(cl:List (Str×Addr))(pm:Value)(cd:Addr)(ctv:Value):Obj:=W.kla_obj "<lambda>" Gh Kx lb ls cl pm cd ctv
theorem lO(L:Ui B cc p)(h:B.Fr pn ad τ F s)(clo:closureFor ls B.env=pure cl)(q:∀f cd pm ctv oc vs t G s',F.le G->B.Fr pn ad τ G s'->G f=some (Nr lb ls cl pm cd ctv)->G cd=some oc->oc.data=.fields vs->vs[1]?=some (.str Gh t)->Q (.ref f) s'):wpAny B.M B.A (eval (.Lambda Kx lb ls pos) B.env) Q E s:=by
 obtain⟨m1,⟨m2,_⟩,_⟩:=h.pin (p,none) (List.mem_append_left _ (by rw[L.tb];exact .head _));obtain⟨ps,hP,ht,hps⟩:Ow F s.heap p:=m2;have st:=h.toSt;have KX:B.K.In s.heap:=st.mod.kin.keeps st.bk;have hg:=st.mod.glob.keeps st.bk;have hgP:mainGlobals≠p:=fun z=>by obtain⟨o,es,ep,e,hd,_⟩:=hg;rw[z,hP]at e;cases e;cases hd
 have hb:=L.bm _ KX;have hC:=L.hd _ KX;refine W.kla_eval rfl ?_;rw[L.qual];cases hca:codeAmong pos ps.toList with
 |some cv=>obtain⟨cd,oc,vs,t,rfl,g2,g3,g4⟩:=hps pos cv hca;refine W.kla_makeFunctionHit clo h.ok.glob hg L.code hC hP ht hca hb fun ctv h' tk hk hsz=>?_;have u:=Up.laid (k:=tk) (h':=h'.push (Nr lb ls cl ((B.mg "__name__").getD .none) cd ctv)) h.up.fh (fun b o e=>Bb _ (hk b o e)) (Heap.get?_none_of_le hsz) (Cv _ rfl);exact q _ cd _ ctv oc vs t _ _ u.ff (h.after u) Fq (u.ff _ _ g2) g3 g4
 |none=>
  refine W.kla_makeFunction clo h.ok.glob hg L.code hC hP ht hca hgP hb fun cd ctv h' tk hx hge hlt hrec htb=>?_;obtain⟨cd2,oc,vs,t,e2,hoc,hd,hv⟩:=hrec;cases e2;show Q (.ref h'.objs.size) {s with heap:=h'.push (Nr lb ls cl ((B.mg "__name__").getD .none) cd ctv),toks:=tk};generalize hlo:Nr lb ls cl ((B.mg "__name__").getD .none) cd ctv=lo;have fc:F cd=none:=h.up.fh.none (Heap.get?_none_of_le hge);have hsz:s.heap.objs.size<=h'.objs.size:=Cr hge (Nat.le_of_lt hlt);have ff:F h'.objs.size=none:=h.up.fh.none (Heap.get?_none_of_le hsz);have ncf:cd≠h'.objs.size:=Es hlt;have le1:F.le (fup F cd oc):=F9 fc;have le2:(fup F cd oc).le (fup (fup F cd oc) h'.objs.size lo):=F9 (by unfold fup;rw[if_neg (Ne.symm ncf)];exact ff);have kp:∀b o,h'.get? b=some o->(h'.push lo).get? b=some o:=fun b o e=>Bb _ e;refine q _ cd _ ctv oc vs t (fup (fup F cd oc) h'.objs.size lo) _ (le1.trans le2) (h.tabbed L.tb (le1.trans le2) (fun b v w=>?_) (fun b w=>?_) (fun b v nb w=>kp _ _ (hx b v nb w)) rfl id ⟨_,kp _ _ htb,?_,fun pos' cv e=>?_⟩) (by rw[hlo];exact Fq) (le2 _ _ Fq) hd hv
  .unfold fup at w;split at w
   .rename_i z;cases w;rw[z];exact Cv _ (by rw[<-hlo];rfl)
   .split at w
    .rename_i z;cases w;rw[z];exact kp _ _ hoc
    .exact kp _ _ (hx b v (fun z=>by rw[z,m1.f]at w;cases w) (h.up.fh b v w))
  .unfold fup at w;split at w
   .rename_i z;rw[z];exact .inr (Heap.get?_none_of_le hsz)
   .split at w
    .rename_i z;rw[z];exact .inr (Heap.get?_none_of_le hge)
    .exact .inl w
  .rw[Array.toList_append];exact pY _ _ (Dn _) ht
  .rw[Array.toList_append]at e;rcases pG _ _ (Dn _) ht e with e|rfl
   .obtain⟨cd',oc',ws,t',e1,e2,e3⟩:=hps pos' cv e;exact⟨cd',oc',ws,t',e1,le2 _ _ (le1 _ _ e2),e3⟩
   .exact⟨cd,oc,vs,t,rfl,le2 _ _ Fq,hd,hv⟩
end
section
variable {c:Tc}{er:List Str}{B:Bd}{G:Glo}{e:Expr}{es:List Expr}{x:Str}{i:Nat}
def ixs(c:Tc)(er:List Str):(xs:List Str)->Option {is:List Nat // ∀{B:Bd}{G:Glo},Sd B c G er->Tgs B xs is}
 |[]=>some ⟨[],fun _=>⟨rfl,fun j x i h=>by simp at h⟩⟩
 |x::xs=>if h:Fi c.sc x=true then
  match h2:Dh c.nm x with
  |none=>none
  |some i=>(ixs c er xs).bind fun r=>some ⟨i::r.1,fun{B G}g=>by
   obtain⟨r1,r2⟩:=r.2 g;refine⟨by simp[r1],fun j y k e1 e2=>?_⟩;cases j with
   |zero=>simp at e1 e2;subst e1 e2;exact⟨g.hx h2,g.hl h⟩
   |succ j=>exact r2 j y k (by simpa using e1) (by simpa using e2)⟩
 else none
def Vu(R:Rd)(c:Tc)(Q:∀ss,a7 (SSE c er ss))(tg it:Expr)(body:List Stmt)(p:Pos):a7 (SE c er (.For tg it body [] p)) :=
 match htg:Kv tg with
 |none=>none
 |some xs=>
  if h:(!J1 tg||decide (2<=xs.length))=true then
   (ixs c er xs).bind fun is=>(rI R c tg it).bind fun k=>(Q body).bind fun b=>some ⟨.loop is.1 k.k k.xs b.xs,fun{B G}g=>by
    have w:(fun τ=>((fun r=>(Az G k.xs r).bind (items k.k)) (Au (frzAt (Bx k.xs) τ))).bind fun qc=>Ho (fun x τ=>(G6 is.1 x τ).bind (Bp G b.xs)) qc (frzAt (Bx k.xs) τ))=Cp G (.loop is.1 k.k k.xs b.xs):=by funext τ;show _=(Az G k.xs (Au (frzAt (Bx k.xs) τ))).bind fun xs=>(items k.k xs).bind fun qc=>Ho (fun x τ=>(G6 is.1 x τ).bind fun τ'=>Bp G b.xs τ') qc (frzAt (Bx k.xs) τ);dsimp only;cases Az G k.xs (Au (frzAt (Bx k.xs) τ))<;>rfl
    refine @PS.eq B _ _ _ ?_ w;exact oZ g.fm (Bx k.xs) (g.oi (k.ok g.gd)) (Xn g.gd.cm htg (is.2 g) fun z=>by rw[z]at h;simpa using h) (b.ok g) (k.fold B.env)⟩
  else none
theorem bf{Y:Yc}{pos:Pos}(h:Jj e=true):Plain Y pos [e]:=by have s:=Dg h [] Y.env;exact⟨by rw[s];rfl,by rw[s];rfl,.inr ⟨_,_,by rw[s];rfl⟩⟩
def Wy(R:Rd)(c:Tc)(er:List Str)(x:Str)(px:Pos)(m:Str)(apos:Pos)(a:Expr)(cpos p:Pos):a7 (SE c er (.Expr (.Call (.Attribute (.Name x px) m apos) [a] [] cpos) p)) :=
 if h:(Ec x&&apos.endLine==cpos.line)=true then
  match h2:Dh c.nm x with
  |none=>none
  |some i=>
   if hm:m="append" then(R.v c a).bind fun y=>some ⟨.app i y.x,fun{B G}g=>by subst hm;rw[Cy]at h;exact Xo (Ae y.x) (g.hx h2) (J7 h.1) (g.oe (y.ok g.gd)) (Dg y.pl [] B.env) h.2 (bf y.pl)⟩
   else if hm:m="extend" then(R.v c a).bind fun y=>some ⟨.ext i y.x,fun{B G}g=>by subst hm;rw[Cy]at h;exact fP (Ae y.x) (g.hx h2) (J7 h.1) (g.oe (y.ok g.gd)) (Dg y.pl [] B.env) h.2 (bf y.pl)⟩
   else none
 else none
def Ve(c:Tc)(er:List Str)(x:Str)(px:Pos)(m:Str)(apos cpos p:Pos):a7 (SE c er (.Expr (.Call (.Attribute (.Name x px) m apos) [] [] cpos) p)) :=
 if h:(Ec x&&apos.endLine==cpos.line)=true then if hm:m="pop" then
  match h2:Dh c.nm x with
  |none=>none
  |some i=>some ⟨.pop i,fun{B G}g=>by subst hm;rw[Cy]at h;exact qd (g.hx h2) (J7 h.1) h.2⟩
 else none else none
def k4(c:Tc)(er:List Str)(y:Str)(py:Pos)(x:Str)(px:Pos)(m:Str)(apos cpos p:Pos):a7 (SE c er (.Assign [.Name y py] (.Call (.Attribute (.Name x px) m apos) [] [] cpos) p)) :=
 if h:(Ec x&&apos.endLine==cpos.line&&Fi c.sc y)=true then if hm:m="pop" then
  match h2:Dh c.nm x,h3:Dh c.nm y with
  |some i,some j=>some ⟨.lpop j i,fun{B G}g=>by subst hm;simp only[Bool.and_eq_true]at h;exact ig (g.hx h2) (J7 h.1.1) (g.hx h3) (g.hl h.2) h.1.2⟩
  |_,_=>none
 else none else none
def je(R:Rd)(c:Tc)(er:List Str)(x:Str)(p:Pos):(ks:List (a7 Expr))->(vs:List Expr)->(p2 pos:Pos)->a7 (SE c er (.Assign [.Name x p] (.Dict ks vs p2) pos))
 |[],[],p2,pos=>if h:Fi c.sc x=true then
  match h2:Dh c.nm x with
  |none=>none
  |some i=>some ⟨.dnew i,fun{B G}g=>by exact M4 (pos:=pos) (p:=p) (aK (pos:=p2)) [] (g.hx h2) (g.hl h) rfl⟩else none
 |[some k],[v],p2,pos=>if h:Fi c.sc x=true then
  match h2:Dh c.nm x with
  |none=>none
  |some i=>(R.v c k).bind fun y=>(R.v c v).bind fun z=>some ⟨.dnew1 i y.x z.x,fun{B G}g=>by
    have w:(fun τ=>((fun r=>(Ac G y.x r).bind fun a=>(Ac G z.x r).bind fun b=>if Bj [] a=true then some (Sl.dic [a] [b])else none) (Au (frzAt (Ae y.x++Ae z.x) τ))).bind fun sl=>some (Out.nx ((frzAt (Ae y.x++Ae z.x) τ).set i sl)))=Cp G (.dnew1 i y.x z.x):=by
     funext τ;show _=(Ac G y.x (Au (frzAt (Ae y.x++Ae z.x) τ))).bind fun x=>(Ac G z.x (Au (frzAt (Ae y.x++Ae z.x) τ))).bind fun y'=>if Bj [] x=true then some (Out.nx ((frzAt (Ae y.x++Ae z.x) τ).set i (.dic [x] [y'])))else none
     dsimp only;cases Ac G y.x (Au (frzAt (Ae y.x++Ae z.x) τ))with
     |none=>rfl
     |some a=>
      cases Ac G z.x (Au (frzAt (Ae y.x++Ae z.x) τ))with
      |none=>rfl
      |some b=>dsimp only[xbs];split<;>rfl
    refine @PS.eq B _ _ _ ?_ w;exact M4 (pos:=pos) (p:=p) (ft (pos:=p2) g.gd.rm (g.oe (y.ok g.gd)) (g.oe (z.ok g.gd))) (Ae y.x++Ae z.x) (g.hx h2) (g.hl h) rfl⟩else none
 |_,_,_,_=>none
def Wr(R:Rd)(c:Tc)(er:List Str)(x:Str)(px:Pos)(k:Expr)(tp:Pos)(v:Expr)(pos:Pos):a7 (SE c er (.Assign [.Subscript (.Name x px) k tp] v pos)) :=
 if h:(Ec x&&!Tf v)=true then
  match h2:Dh c.nm x with
  |none=>none
  |some i=>(R.v c k).bind fun y=>(R.v c v).bind fun z=>some ⟨.put i y.x z.x,fun{B G}g=>by rw[Cy,Bool.not_eq_true']at h;exact oM g.gd.rm (Ae z.x++Ae y.x) (g.hx h2) (J7 h.1) (g.oe (y.ok g.gd)) (g.oe (z.ok g.gd)) (dN z.pl h.2 _ _ B.env)⟩
 else none
theorem jD{Y:Yc}{pos tp:Pos}(h:Jj e=true):Plain Y pos [e,.List [] tp]:=by have s:=Dg h [.List [] tp] Y.env;exact⟨by rw[s];rfl,by rw[s];rfl,.inr ⟨_,_,by rw[s];rfl⟩⟩
def qZ(R:Rd)(c:Tc)(er:List Str)(x:Str)(px:Pos)(m:Str)(apos:Pos)(k:Expr)(tp cpos:Pos)(m2:Str)(a2:Pos)(v:Expr)(c2 p:Pos):a7 (SE c er (.Expr (.Call (.Attribute (.Call (.Attribute (.Name x px) m apos) [k,.List [] tp] [] cpos) m2 a2) [v] [] c2) p)) :=
 if h:(Ec x&&(apos.endLine==cpos.line&&a2.endLine==c2.line))=true then if hm:m="setdefault"/\m2="append" then
  match h2:Dh c.nm x with
  |none=>none
  |some i=>(R.v c k).bind fun y=>(R.v c v).bind fun z=>some ⟨.dapp i y.x z.x,fun{B G}g=>by obtain⟨rfl,rfl⟩:=hm;simp only[Bool.and_eq_true]at h;exact jf g.gd.rm (Ae y.x++Ae z.x) (g.hx h2) (J7 h.1) (g.oe (y.ok g.gd)) (g.oe (z.ok g.gd)) (Dg y.pl _ B.env) (Dg z.pl [] B.env) h.2.1 h.2.2 (jD y.pl)⟩
 else none else none
end
section
variable {c:Tc}{er:List Str}{Y:Yc}{N:Str->Nat->Prop}{a:Expr}{f:Ev.Env->a7 T}{p pos:Pos}
theorem qg(hg:Gl Y "list")(hm:Y.mg "list"=none)(ha:Oke Y N a f)(hs:starEach [a] Y.env=[(false,eval a Y.env)]):Lj Y N (.Call (.Name "list" p) [a] [] pos) fun r=>(f r).bind fun x=>(Ji x).map .own:=fun{s F r sl E}A q=>by
 obtain⟨x1,e1,q⟩:=obs q;obtain⟨ts,q1,rfl⟩:=oms q;refine wpAny_Call_Name_kw (It A hg hm (by decide +kernel:bootBuiltins "list"=some (.type "list")) ?_ (by decide) (by decide));refine PyProof.Rows.callWith_type1 (thn (Pe ha hs pos A (ts:=[x1]) (E:=E) (by simp only[e1];rfl)) fun us s1 z=>?_) (by rw[hs];rfl) rfl;obtain⟨G,u1,w,z,rfl,r1,r2⟩:=z;cases r2;have fin:∀{qc:Array Value},Reps Y.w G ts qc.toList->qc.size<=sizeLine->∀h' c',(∀b o',s1.heap.get? b=some o'->h'.get? b=some o')->h'.get? s1.heap.objs.size=some {cls:=.type "list",dict:=none,data:=.seq qc c',slots:=#[]}->
   ∃a G',Value.ref s1.heap.objs.size=.ref a/\Up F s G' {s1 with heap:=h'}/\G' a=none/\s.heap.get? a=none/\OwnOk Y.w G' h' [a] (.own ts):=fun{qc}r z h' c' kp e=>
  ⟨_,G,rfl,u1.trans (Up.kept (k:=s1.toks) u1.fh kp),u1.fh.none Bs,u1.old Bs,rfl,qc,c',e,z,r⟩
 cases x1 with
 |tup us=>cases q1;obtain⟨a,o,qc,n,rfl,f,c,d,z,r⟩:=r1;exact call_list_seq a (.inr rfl) (u1.fh _ _ f) c d (fun h' c' kp e=>fin r z h' c' kp e) z
 |lst us=>cases q1;obtain⟨a,qc,n,rfl,f,z,r⟩:=r1;exact call_list_seq a (.inl rfl) (u1.fh _ _ f) rfl rfl (fun h' c' kp e=>fin r z h' c' kp e) z
 |_=>cases q1
def fJ(R:Rd)(c:Tc)(er:List Str)(x:Str)(p:Pos)(p1:Pos)(a:Expr)(p2 pos:Pos):a7 (SE c er (.Assign [.Name x p] (.Call (.Name "list" p1) [a] [] p2) pos)) :=
 if h:(Fi c.sc x&&Ea c.sc "list")=true then
  match h2:Dh c.nm x with
  |none=>none
  |some i=>(R.v c a).bind fun y=>some ⟨.nw i (.blt .toList y.x),fun{B G}g=>by
    rw[Cy]at h;have w:(fun τ=>((fun r=>(Ac G y.x r).bind fun x=>(Ji x).map Sl.own) (Au (frzAt (Ae y.x) τ))).bind fun sl=>some (Out.nx ((frzAt (Ae y.x) τ).set i sl)))=Cp G (.nw i (.blt .toList y.x)):=by
     funext τ;show _=((Ac G y.x (Au (frzAt (Ae y.x) τ))).bind fun x=>Gg .toList x).bind fun t=>(match t with
      |.lst ts=>some (Out.nx ((frzAt (Ae y.x) τ).set i (.own ts)))
      |_=>none)
     dsimp only;cases Ac G y.x (Au (frzAt (Ae y.x) τ))with
     |none=>rfl
     |some x=>cases x<;>rfl
    refine @PS.eq B _ _ _ ?_ w;exact M4 (pos:=pos) (p:=p) (qg (p:=p1) (pos:=p2) (g.gd.sc.gl _ h.2) (g.gd.bn _ (by decide)) (g.oe (y.ok g.gd)) (Dg y.pl [] B.env)) (Ae y.x) (g.hx h2) (g.hl h.1) rfl⟩
 else none
end
section
variable {as:List Addr}
variable {B:Bd}{pn:List (Addr×a7 Obj)}{ad:Nat->List Addr}{τ:List Sl}{F G:Fz}{s s' s1:Shared}{x y z:Str}{i j c:Nat}{is:List Nat}{ke iter:Expr}{pos p1 p2 p3 p4 p5 p6 px apos cpos tp pos2:Pos}{E:Value->Shared->Prop}{t k:T}{ts ks:List T}{vs:List (List T×List T)}{u v kv:Value}{a d:Addr}{fk:Ev.Env->a7 T}{fi:Ev.Env->a7 (List T)}{k0:Nat}{r:Ev.Env}{w:World}{h:Heap}
abbrev DdAt(w:World)(F:Fz):=GAt (fun h a(p:List T×List T)=>OwnD w F h a p.1 (Reps w F p.2)) w F
theorem DdAt.ok(q:DdAt w F h d as ks vs):OwnOk w F h (d::as) (.dd ks vs):=⟨q.D,q.L,q.nd⟩
theorem Fr.ownDd{sl:Sl}(h:B.Fr pn ad τ F s)(hx:B.N[i]?=some x)(ht:τ[i]?=some sl)(e:L9 (some sl)=some (ks,vs)):∃d as,ad i=d::as/\Look B.toYc s.heap x (.ref d)/\DdAt B.w F s.heap d as ks vs:=by
 have w:=h.slot i x _ hx ht;cases sl with
 |dd ks' vs'=>
  cases e;obtain⟨⟨a,e,l⟩,q⟩:=w;cases hd:ad i with
  |nil=>rw[hd]at e;cases e
  |cons b as=>rw[hd]at e q;cases e;exact⟨a,as,rfl,l,q.1,q.2.1,q.2.2⟩
 |dic ks' vs'=>
  cases ks' with
  |nil=>cases vs' with
   |nil=>cases e;obtain⟨d,us,h1,h2,D,r⟩:=h.ownD hx ht;cases r;exact⟨d,[],h1,h2,D,rfl,by simp⟩
   |cons _ _=>cases e
  |cons _ _=>cases e
 |_=>cases e
theorem Fr.forget(h:B.Fr pn ad τ F s):B.Fr pn ad (τ.set i .no) F s:={h with
 len:=by rw[Of];exact h.len
 slot:=fun k x sl e1 e2=>by
  by_cases z:i=k
  .subst z;by_cases hl:i<τ.length
   .rw[Ib hl]at e2;cases e2;trivial
   .rw[Gx (by rw[Of];lia)]at e2;cases e2
  .rw[Jo z]at e2;exact h.slot k x sl e1 e2}
theorem Look.keep'{Y:Yc}{N:List Str}{F0 F:Fz}{s0 s:Shared}{pn:List (Addr×a7 Obj)}{ad:Nat->List Addr}{τ:List Sl}{h':Heap}(hF:Fr Y N F0 s0 pn ad τ F s)(hy:y∈N)(l:Look Y s.heap y u)(k:∀b o,(b=Y.env.locals\/∃c,Y.env.cells.lookup y=some c/\b=c)->s.heap.get? b=some o->h'.get? b=some o):Look Y h' y u:=by
 rcases l with⟨e,m,⟨o,es,ep,w1,w2⟩,q⟩|⟨e,c,e2,o,w1,w2⟩
 .exact .inl ⟨e,m,⟨o,es,ep,k _ _ (.inl rfl) w1,w2⟩,q⟩
 .exact .inr ⟨e,c,e2,o,k _ _ (.inr ⟨c,e2,rfl⟩) w1,w2⟩
theorem cR{α:Type}{l:List α}{n:Nat}{x:α}(h:l[n]?=some x):l.set n x=l:=by
 refine List.ext_getElem? fun j=>?_;by_cases e:n=j
 .subst e;rw[Ib (ome h).1,h]
 .rw[Jo e]
theorem fx{n:Nat}(hm:B.Fm)(hu:B.toYc.Rm)(hx:B.N[i]?=some x)(hy:B.N[j]?=some y)(hz:B.N[c]?=some z)(ny:Nm y)(nz:Nm z)(lz:Loc B.env.scope z)(hic:i≠c)(hjc:j≠c){qc:List T}{fp:List Addr}{it:Addr}{tn:Nat->Heap->Prop}(W:Walk B.toYc (.Name z p2) qc G fp it tn){p q:List T×List T}{vs1:List (List T×List T)}(hF:B.Fr pn ad τ F s)(le:G.le F)(hi:τ[i]?=some (.dd ks vs1))(hn:vs1[n]?=some p)(had:ad i=d::as)(ha:as[n]?=some a)(ly:Look B.toYc s.heap y (.ref a))(t0:tn 0 s.heap)(fo:∀b∈fp,F b=none/\Off B.toYc B.N B.s0 (B.tbp++pn) ad b)(hq:Ia qc p=some q){R:Result->Shared->Prop}(hR:∀ad' F' s',F.le F'->B.Fr pn ad' ((τ.set i (.dd ks (vs1.set n q))).set c .no) F' s'->R (.ok .next) s'):codeAny B.M B.A (.forLoop (.Name z p2) (.ref it) [.Assign [.Subscript (.Name y p3) (.Name z p4) tp] (.Constant .none k0 p5) p6] [] B.env) R s:=by
 have il:i<τ.length:=(ome hi).1;have nl:n<vs1.length:=(ome hn).1;refine codeAny_forLoop_any (fun m' s'=>∃m ad1 F1 p1 τ1,B.Fr pn ad1 τ1 F1 s'/\F.le F1/\τ1[i]?=some (.dd ks (vs1.set n p1))/\(∀sl,(τ1.set i sl).set c .no=(τ.set i sl).set c .no)/\ad1 i=d::as/\Look B.toYc s'.heap y (.ref a)/\tn m s'.heap/\(∀b∈fp,F1 b=none/\Off B.toYc B.N B.s0 (B.tbp++pn) ad1 b)/\m'+m=qc.length/\Ia (qc.drop m) p1=some q) ?_ qc.length
  ⟨0,ad,F,p,τ,hF,fun _ _ e=>e,by rw[hi];rw[cR hn],fun _=>rfl,had,ly,t0,fo,rfl,hq⟩
 rintro m' s3 ⟨m,ad3,F3,p3',τ3,h3,le3,hi3,ht3,had3,ly3,t3,of3,hm3,q3⟩;cases hxm:qc[m]? with
 |none=>have hl:=List.getElem?_eq_none_iff.mp hxm;rw[List.drop_eq_nil_of_le hl]at q3;cases q3;refine thn (W.done (le.trans le3) h3.up.fh (fun b hb=>(of3 b hb).1) t3 (by lia)) fun r s4 zz=>?_;obtain⟨rfl,u4⟩:=zz;refine wpAny_execs_nil (hR ad3 _ s4 (le3.trans u4.ff) ?_);have h4:=(Fr.turned h3 (fun b hb=>(of3 b hb).2) u4).forget (i:=c);have e:τ3.set i (.dd ks (vs1.set n q))=τ3:=cR hi3;rw[<-ht3,e];exact h4
 |some xx=>
  obtain⟨hil,ex⟩:=ome hxm;rw[List.drop_eq_getElem_cons hil,ex]at q3;replace q3:(if Bj p3'.1 xx=true/\p3'.1.length<SZ then Ia (qc.drop (m+1)) (Ax p3'.1 xx,Bh p3'.1 p3'.2 xx .non)else none)=some q:=q3;split at q3
  .rename_i hkk;refine thn (W.item (le.trans le3) h3.up.fh (fun b hb=>(of3 b hb).1) t3 hxm) fun r s4 zz=>?_;obtain⟨u,rfl,zz⟩:=zz;refine thn zz fun _ s5 zz=>?_;obtain⟨G5,u5,r5,t5⟩:=zz;have h5:=Fr.turned h3 (fun b hb=>(of3 b hb).2) u5;have yN:=Ee hy;have ly5:Look B.toYc s5.heap y (.ref a):=Look.keep' h3 yN ly3 fun b o hb e=>u5.ext b o (fun w=>by
    rcases hb with hb|⟨c',e1,e2⟩
    .exact(of3 b w).2.l hb
    .exact(of3 b w).2.c y yN c' e1 e2.symm) e
   have h5p:=Fr.pinned (fp:=fp) h5 fun b hb=>⟨u5.fn b hb,(of3 b hb).2⟩;have yz:y≠z:=fun w=>hjc ((List.getElem?_inj (ome hy).1 h5.nd).mp (by rw[hy,hz,w]));refine wpAny_assign_Name (h5p.store (d:=[]) (sl:=.val xx) hz lz (fun _ w=>nomatch w) (fun _ lk=>⟨u,lk,r5⟩) fun s6 lz6 oth6 h6=>?_);have ly6:=oth6 y yN _ yz ly5;have hi6:(τ3.set c (.val xx))[i]?=some (.dd ks (vs1.set n p3')):=by rw[Jo (Ne.symm hic)];exact hi3
   have had6:(if i=c then[]else ad3 i)=d::as:=by rw[if_neg hic];exact had3
   obtain⟨d',as',q1,lx,DD⟩:=h6.ownDd hx hi6 rfl;rw[had6]at q1;cases q1;obtain⟨a',q2,DA⟩:=DD.L.get (Ib nl);rw[ha]at q2;cases q2;obtain⟨o,es,ep,w1,w2,w3,w4,rv⟩:=DA;have D1:Dat B.w G5 s6.heap a p3'.1 (es.toList.map (·.val)):=⟨o,es,ep,w1,w2,w3,w4,rfl⟩;refine wpAny_execs_cons (wpAny_Assign_Subscript (Constant_none (Mm h6.ok ny ly6 (Mm h6.ok nz lz6 (a8 (rdy hu h6.up.fh D1 hkk.1 r5) (Nat.lt_of_lt_of_le hkk.2 (by rw[Ew];exact Dn _)) fun h' D2 hs=>wpAny_execs_nil ?_)))) rfl);have aas:=Ee ha;have nd1:=Er.mp DD.nd;have da:d≠a:=fun w=>nd1.1 (by rw[w];exact aas);have ow:OwnD B.w G5 h' a (Ax p3'.1 xx) (Reps B.w G5 (Bh p3'.1 p3'.2 xx .non)):=by obtain⟨o2,es2,ep2,v1,v2,v3,v4,v5⟩:=D2;exact⟨o2,es2,ep2,v1,v2,v3,v4,by rw[v5];exact Wv D1.len rv rfl⟩
   have DD2:DdAt B.w G5 h' d as ks (vs1.set n (Ax p3'.1 xx,Bh p3'.1 p3'.2 xx .non)):=⟨OwnD.to DD.D (fun o e=>(hs.2 d da).trans e) (fun _ _ e=>e) fun _ e=>e,by have:=Alls.set (S:=fun b(p:List T×List T)=>OwnD B.w G5 h' b p.1 (Reps B.w G5 p.2)) (x:=(Ax p3'.1 xx,Bh p3'.1 p3'.2 xx .non)) DD.L ha nd1.2 ow fun b _ hb y hy=>OwnD.to hy (fun o e=>(hs.2 b hb).trans e) (fun _ _ e=>e) fun _ e=>e;rw[List.set_set]at this;exact this,DD.nd⟩;have h7:=h6.own' (sl':=.dd ks (vs1.set n (Ax p3'.1 xx,Bh p3'.1 p3'.2 xx .non))) (d:=d::as) (s':={s6 with heap:=h',toks:=s6.toks+Dq xx}) hx hi6 (fun b hb=>by have hb:b∈(if i=c then[]else ad3 i):=hb;rw[had6]at hb;exact hb) (fun b hb=>.inl (by show b∈(if i=c then[]else ad3 i);rw[had6];exact hb)) (fun b hb=>by
     by_cases w:b=a
     .rw[w];obtain⟨o2,v1,_⟩:=D2.at;exact⟨o2,v1⟩
     .obtain⟨o2,v⟩:=(h6.own i b (by show b∈(if i=c then[]else ad3 i);rw[had6];exact hb)).2;exact⟨o2,(hs.2 b w).trans v⟩)
    (fun b o hb e=>(hs.2 b fun w=>hb (by rw[w];exact .tail _ aas)).trans e) rfl id fun lk'=>SlOk.mk (lk' _ lx) DD2.ok
   have ma:=(h6.own i a (by show a∈(if i=c then[]else ad3 i);rw[had6];exact .tail _ aas)).1;have ly7:Look B.toYc h' y (.ref a):=Look.keep' h6 yN ly6 fun b o hb e=>(hs.2 b fun w=>by
    rcases hb with hb|⟨c',e1,e2⟩
    .exact ma.l (w.symm.trans hb)
    .exact ma.c y yN c' e1 (e2.symm.trans w)).trans e
   have pk:∀b∈fp,∃o,s5.heap.get? b=some o/\h'.get? b=some o/\G5 b=none/\Off B.toYc B.N B.s0 (B.tbp++pn) (fun k=>if k=i then d::as else if k=c then[]else ad3 k) b:=fun b hb=>by obtain⟨o,eo⟩:=W.obj t5 b hb;obtain⟨p1,⟨p3,_⟩,p6⟩:=h7.pin (b,some o) (Hk _ (Hk _ (Hx.mpr ⟨b,hb,by rw[eo];rfl⟩)));exact⟨o,eo,p3,p1.f,p1.z,p1.l,p1.c,p6,(of3 b hb).2.p⟩
   refine⟨m'-1,by lia,m+1,_,G5,_,_,h7.unpin,le3.trans u5.ff,Ib (by rw[Of];exact(ome hi3).1),fun sl=>?_,if_pos rfl,ly7,W.keep t5 fun b hb o e=>?_,fun b hb=>(pk b hb).choose_spec.2.2,by lia,q3⟩
   .rw[List.set_set,<-ht3 sl,show(τ3.set c (Sl.val xx)).set i sl=(τ3.set i sl).set c (.val xx)from List.set_comm _ _ (Ne.symm hic),List.set_set]
   .obtain⟨o',w1,w2,_⟩:=pk b hb;rw[e]at w1;cases w1;exact w2
  .cases q3
theorem lY{sl:Sl}{p:List T×List (List T×List T)}(e:L9 (some sl)=some p):sl.get=none:=by cases sl<;>first|rfl|cases e
theorem iq{ss:List Stmt}{g:List Sl->a7 Out}{q3:Pos}(hm:B.Fm)(hu:B.toYc.Rm)(is:List Nat)(hx:B.N[i]?=some x)(hy:B.N[j]?=some y)(hz:B.N[c]?=some z)(nx:Nm x)(ny:Nm y)(nz:Nm z)(ly:Loc B.env.scope y)(lz:Loc B.env.scope z)(hk:Oke B.toYc (Nn B.N) ke fk)(hi:Hm B.toYc (Nn B.N) (.Name z p2) iter fi)(hfold:∀x,foldedSetIterable iter B.env x=pure x)(s1:starEach [ke,.Dict [] [] tp] B.env=(false,eval ke B.env)::starEach [.Dict [] [] tp] B.env)(l1:(apos.endLine==cpos.line)=true)(pl:Plain B.toYc cpos [ke,.Dict [] [] tp])(hb:PSs B ss g):PSs B (.Assign [.Name y p1] (.Call (.Attribute (.Name x px) "setdefault" apos) [ke,.Dict [] [] tp] [] cpos) pos::.For (.Name z p2) iter [.Assign [.Subscript (.Name y p3) (.Name z p4) pos2] (.Constant .none k0 p5) p6] [] q3::ss) fun τ=>
   ((fk (Au (frzAt is τ))).bind fun x=>(fi (Au ((frzAt is τ).set j .no))).bind fun qc=>(L9 (frzAt is τ)[i]?).bind fun p=>if Bj p.1 x=true/\p.1.length<1000/\i≠j/\i≠c/\j≠c then
    (Ia qc ((Aw p.1 p.2 x).getD ([],[]))).map fun q=>Out.nx ((((frzAt is τ).set i (.dd (Ax p.1 x) (Bh p.1 p.2 x q))).set j .no).set c .no)else none).bind fun o=>match o with
   |.nx τ'=>g τ'
   |o=>some o:=fun{pn ad τ F s o}hF q=>by
 obtain⟨o1,q,hg⟩:=obs q;obtain⟨k,e1,q⟩:=obs q;obtain⟨qc,e2,q⟩:=obs q;obtain⟨⟨ks,vs⟩,e3,q⟩:=obs q;replace q:(if Bj ks k=true/\ks.length<1000/\i≠j/\i≠c/\j≠c then(Ia qc ((Aw ks vs k).getD ([],[]))).map fun q=>Out.nx ((((frzAt is τ).set i (.dd (Ax ks k) (Bh ks vs k q))).set j .no).set c .no)else none)=some o1:=q;split at q
 .rename_i hc;obtain⟨hk1,hk2,hij,hic,hjc⟩:=hc;obtain⟨qq,e4,rfl⟩:=oms q;replace hg:g ((((frzAt is τ).set i (.dd (Ax ks k) (Bh ks vs k qq))).set j .no).set c .no)=some o:=hg;obtain⟨G,ad',le,h'⟩:=hF.frzAt is;cases ht:(frzAt is τ)[i]? with
  |none=>rw[ht]at e3;cases e3
  |some sl=>
   rw[ht]at e3;obtain⟨d,as,hd,lk,D0⟩:=h'.ownDd hx ht e3;obtain⟨od,o1,o2,o3⟩:=D0.D.at
   refine wpAny_execs_cons (wpAny_Assign_Name (wpAny_Call_method_late rfl pl.few l1 rfl (Mm h'.ok nx lk ?_)) rfl);refine⟨"dict",_,PySem.F.plainAttrs_dict,PySem.F.slot_dict_setdefault,PySem.F.type_dict_setdefault,⟨od,o1,o2⟩,fun b e=>by cases e;exact⟨od,o1,o3⟩,Vt pl ?_⟩;rw[show backTo cpos (starEach [ke,.Dict [] [] tp] B.env)=(false,eval ke B.env)::backTo cpos (starEach [.Dict [] [] tp] B.env) by rw[s1];rfl];refine Calls.spliced_cons (thn (hk h'.at e1) fun kv s3 z=>?_);obtain⟨G1,u1,r1⟩:=z;have h1:=h'.after u1;obtain⟨d',as',hd',lk1,D1⟩:=h1.ownDd hx ht e3;rw[hd]at hd';cases hd';refine Calls.spliced_cons (wpAny_Dict_empty (Calls.spliced_nil (bK (mk:=.dd) (x0:=([],[])) (R:=fun h a(p:List T×List T)=>OwnD B.w G1 h a p.1 (Reps B.w G1 p.2)) DdAt.ok (fun q k=>OwnD.to q k (fun _ _ e=>e) fun _ e=>e) (fun e=>⟨_,#[],0,e,h1.toSt.big,⟨⟨rfl,rfl,rfl⟩,rfl,rfl,.nil,E9 _⟩,rfl,rfl⟩) rfl hu h1 hx ht hk1 hk2 r1 hd lk1 D1 fun ad2 s4 m a vs1 h2 lk2 ha hv1 hset=>?_)));obtain⟨as1,had,has,D2⟩:=ha;have yx:x≠y:=fun w=>hij ((List.getElem?_inj (ome hx).1 h2.nd).mp (by rw[hx,hy,w]));have hsl:((frzAt is τ).set i (.dd (Ax ks k) vs1))[i]?=some (.dd (Ax ks k) vs1):=Ib (ome ht).1;refine h2.store (d:=[]) (sl:=.no) (u:=.ref a) hy ly (fun _ w=>nomatch w) (fun _ _=>trivial) fun s5 ly5 oth5 h5=>?_;have had5:(if i=j then[]else ad2 i)=d::as1:=by rw[if_neg hij];exact had
   have hi5:(((frzAt is τ).set i (.dd (Ax ks k) vs1)).set j .no)[i]?=some (.dd (Ax ks k) vs1):=by rw[Jo (Ne.symm hij)];exact hsl
   have ev:Au (((frzAt is τ).set i (.dd (Ax ks k) vs1)).set j .no)=Au ((frzAt is τ).set j .no):=by rw[List.set_comm _ _ hij];exact bH (by rw[Jo (Ne.symm hij)];exact ht) (lY e3) rfl
   refine wpAny_execs_cons (wpAny_For (thn (hi h5.at (by rw[ev];exact e2)) fun v s6 z=>thn z fun itv s7 z=>?_) hfold);obtain⟨it,fp,tn,G2,rfl,u2,fr,W,t0⟩:=z;have h7:=h5.after u2;refine fx hm hu hx hy hz ny nz lz hic hjc W h7 (fun _ _ e=>e) hi5 hv1 had5 has (ly5.up u2) t0 (fun b hb=>⟨(fr b hb).2,h5.off (fr b hb).1⟩) e4 fun ad8 F8 s8 le8 h8=>?_;have eτ:((((frzAt is τ).set i (.dd (Ax ks k) vs1)).set j .no).set i (.dd (Ax ks k) (vs1.set m qq))).set c .no=(((frzAt is τ).set i (.dd (Ax ks k) (Bh ks vs k qq))).set j .no).set c .no:=by rw[hset,List.set_comm _ _ (Ne.symm hij),List.set_set]
   rw[eτ]at h8;exact thn (hb h8 hg) fun fl s9 w=>w.le (((le.trans u1.ff).trans u2.ff).trans le8)
 .cases q
end
section
variable {c:Tc}{er xn:List Str}
def jn(R:Rd)(c:Tc)(er:List Str)(x:Str)(p:Pos)(elt tg it:Expr)(ifs:List Expr)(scope:Scope)(pos spos:Pos):a7 (SE c er (.Assign [.Name x p] (.ListComp elt [⟨tg,it,ifs,0⟩] scope pos) spos)) :=
 match htg:Kv tg with
 |none=>none
 |some xs=>
  if h:(Qe c.sc scope xs&&(!J1 tg||decide (2<=xs.length))&&decide (xs≠[])&&Fi c.sc x)=true then
   match h5:Dh c.nm x with
   |none=>none
   |some j=>(rI R c tg it).bind fun i=>(rF R ⟨scope,xs++c.nm⟩ ifs).bind fun t=>(R.v ⟨scope,xs++c.nm⟩ elt).bind fun y=>some ⟨.asg j (.comp y.x xs.length i.k i.xs t.x),fun{B G}g=>by
    simp only[Bool.and_eq_true,decide_eq_true_eq]at h;obtain⟨⟨⟨h1,h2⟩,h3⟩,h4⟩:=h;have S:=bR h1;have g':∀L,Gd (Cx B.toYc scope L) ⟨scope,xs++c.nm⟩ G:=fun L=>g.gd.blk S;have h2':J1 tg=true->2<=xs.length:=fun z=>by rw[z]at h2;simpa using h2
    have w:(fun τ=>(Kl xs.length (fun r=>(Az G i.xs r).bind (items i.k)) (E5 G t.x) (Ac G y.x) (Au (frzAt (Ae (.comp y.x xs.length i.k i.xs t.x)) τ))).bind fun u=>some (Out.nx ((frzAt (Ae (.comp y.x xs.length i.k i.xs t.x)) τ).set j (.val u))))=Cp G (.asg j (.comp y.x xs.length i.k i.xs t.x)):=by funext τ;rw[bh];rfl
    refine @PS.eq B _ _ _ ?_ w;exact gF (out:=c.sc) (nm:=c.nm) (Ae (.comp y.x xs.length i.k i.xs t.x)) g.gd.cm S g.gd.sc htg h2' h3 (i.ok g.gd) (i.fold B.env) (fun L=>t.ok (g' L)) (fun L=>y.ok (g' L)) (fun x i n=>by show B.N[i]?=some x;rw[<-g.nm];exact M1 n.2.2) (g.hx h5) (g.hl h4)⟩
  else none
def gk:Expr->Bool
 |.Call (.Name f _) [_,_] [] _=>f=="zip"
 |_=>false
def Ts(R:Rd)(c:Tc)(er xn:List Str)(x:Str)(p:Pos):(e:Expr)->(pos:Pos)->a7 (SE c er (.Assign [.Name x p] e pos))
 |.List es p2,pos=>S6 R c er x p es p2 pos
 |.Dict ks vs p2,pos=>je R c er x p ks vs p2 pos
 |.BinOp a .Add b p2,pos=>T4 R c er x p a b p2 pos
 |.Call (.Name f p1) [.Lambda ⟨[],[],none,[],[],none,[]⟩ lb ls p3] [] p2,pos=>j7 R c er x p f p1 lb ls p3 p2 pos
 |.Call (.Name f p1) [a] [] p2,pos=>if h:f="list"/\gk a=false then h.1▸fJ R c er x p p1 a p2 pos else if xn.contains f then aE R c er x p f p1 a [] p2 pos else Tu R c er x p _ pos
 |.Call (.Name f p1) (e::es) [] p2,pos=>if xn.contains f then aE R c er x p f p1 e es p2 pos else Tu R c er x p _ pos
 |.Call (.Attribute (.Name y py) m apos) [] [] cpos,pos=>k4 c er x p y py m apos cpos pos
 |.ListComp elt [⟨tg,it,ifs,0⟩] scope p2,pos=>jn R c er x p elt tg it ifs scope p2 pos
 |e,pos=>Tu R c er x p e pos
def U9(R:Rd)(c:Tc)(er xn:List Str):(e:Expr)->(p:Pos)->a7 (SE c er (.Expr e p))
 |.Call (.Name f p) (e::es) [] pos,p2=>if xn.contains f then k8 R c er f p e es pos p2 else none
 |.Call (.Attribute (.Name x px) m apos) [a] [] cpos,p=>Wy R c er x px m apos a cpos p
 |.Call (.Attribute (.Name x px) m apos) [] [] cpos,p=>Ve c er x px m apos cpos p
 |.Call (.Attribute (.Call (.Attribute (.Name x px) m apos) [k,.List [] tp] [] cpos) m2 a2) [v] [] c2,p=>qZ R c er x px m apos k tp cpos m2 a2 v c2 p
 |_,_=>none
def rS(R:Rd)(c:Tc)(er xn:List Str)(Q:∀ss,a7 (SSE c er ss)):(st:Stmt)->a7 (SE c er st)
 |.Return (some e) p=>Vn R c er e p
 |.Expr e p=>U9 R c er xn e p
 |.Assign [.Name x p] e pos=>Ts R c er xn x p e pos
 |.Assign [.Subscript (.Name x px) k tp] v pos=>Wr R c er x px k tp v pos
 |.Raise (some (.Call (.Name x p) (e::es) [] pos)) none p2=>lS R c er x p e es pos p2
 |.If t a b p=>pF R Q t a b p
 |.While t a [] p=>qe R Q t a p
 |.For tg it body [] p=>Vu R c Q tg it body p
 |_=>none
theorem pL{Y:Yc}{pos tp:Pos}{e:Expr}(h:Jj e=true):Plain Y pos [e,.Dict [] [] tp]:=by have s:=Dg h [.Dict [] [] tp] Y.env;exact⟨by rw[s];rfl,by rw[s];rfl,.inr ⟨_,_,by rw[s];rfl⟩⟩
theorem PSs.eq{B:Bd}{ss:List Stmt}{f g:List Sl->a7 Out}(h:PSs B ss f)(e:f=g):PSs B ss g:=by subst e;exact @h
def mj:Stmt->Bool
 |.Assign [.Name _ _] (.Call (.Attribute (.Name _ _) _ _) [_,.Dict [] [] _] [] _) _=>true
 |_=>false
def eP(R:Rd)(c:Tc)(er:List Str):(s1 s2:Stmt)->(ss:List Stmt)->SSE c er ss->a7 (SSE c er (s1::s2::ss))
 |.Assign [.Name y p1] (.Call (.Attribute (.Name x px) m apos) [ke,.Dict [] [] tp] [] cpos) pos,.For (.Name z p2) it [.Assign [.Subscript (.Name y2 p3) (.Name z2 p4) p7] (.Constant .none k0 p5) p6] [] q3,ss,rest=>
  if hm:m="setdefault"/\y2=y/\z2=z then
  if h:(Ec x&&(apos.endLine==cpos.line&&(Fi c.sc y&&Fi c.sc z)))=true then
   match h2:Dh c.nm x,h3:Dh c.nm y,h4:Dh c.nm z with
   |some i,some j,some l=>(R.v c ke).bind fun k=>(R.v c it).bind fun s=>some ⟨.dfill j i k.x l s.x::rest.xs,fun{B G}g=>by
     obtain⟨rfl,rfl,rfl⟩:=hm;simp only[Bool.and_eq_true]at h;obtain⟨h5,h6,h7,h8⟩:=h;have w:(fun τ=>((Ac G k.x (Au (frzAt (Ae k.x++Ae s.x) τ))).bind fun x=>((fun r=>(Ac G s.x r).bind fun t=>items .plain [t]) (Au ((frzAt (Ae k.x++Ae s.x) τ).set j .no))).bind fun qc=>(L9 (frzAt (Ae k.x++Ae s.x) τ)[i]?).bind fun p=>if Bj p.1 x=true/\p.1.length<1000/\i≠j/\i≠l/\j≠l then
       (Ia qc ((Aw p.1 p.2 x).getD ([],[]))).map fun q=>Out.nx ((((frzAt (Ae k.x++Ae s.x) τ).set i (.dd (Ax p.1 x) (Bh p.1 p.2 x q))).set j .no).set l .no)else none).bind fun o=>match o with
       |.nx τ'=>Bp G rest.xs τ'
       |o=>some o)=Bp G (.dfill j i k.x l s.x::rest.xs):=by
      funext τ;show _=(Cp G (.dfill j i k.x l s.x) τ).bind fun o=>match o with
       |.nx τ'=>Bp G rest.xs τ'
       |o=>some o
      congr 1;show _=(Ac G k.x (Au (frzAt (Ae k.x++Ae s.x) τ))).bind fun x=>(Ac G s.x (Au ((frzAt (Ae k.x++Ae s.x) τ).set j .no))).bind fun t=>(items .plain [t]).bind fun qc=>_;congr 1;funext x;dsimp only;cases Ac G s.x (Au ((frzAt (Ae k.x++Ae s.x) τ).set j .no))<;>rfl
     refine @PSs.eq B _ _ _ ?_ w;exact iq (c:=l) g.fm g.gd.rm (Ae k.x++Ae s.x) (g.hx h2) (g.hx h3) (g.hx h4) (J7 h5) (J7 (Qr h7).1) (J7 (Qr h8).1) (g.hl h7) (g.hl h8) (g.oe (k.ok g.gd)) (g.oi (dA g.gd.cm (s.ok g.gd))) (aO s.pl B.env) (Dg k.pl _ B.env) h6 (pL k.pl) (rest.ok g)⟩
   |_,_,_=>none
  else none else none
 |_,_,_,_=>none
def Qb(R:Rd)(P:∀st,a7 (SE c er st)):(ss:List Stmt)->a7 (SSE c er ss)
 |[]=>some ⟨[],fun _=>N9⟩
 |[s]=>(P s).bind fun x=>some ⟨[x.x],fun{B G}g=>Kh (x.ok g) N9⟩
 |s1::s2::ss=>if mj s1 then(Qb R P ss).bind fun r=>eP R c er s1 s2 ss r else(P s1).bind fun x=>(Qb R P (s2::ss)).bind fun xs=>some ⟨x.x::xs.xs,fun{B G}g=>Kh (x.ok g) (xs.ok g)⟩
def Y5(R:Rd)(c:Tc)(er xn:List Str):Nat->(st:Stmt)->a7 (SE c er st)
 |0,_=>none
 |n+1,st=>rS R c er xn (Qb R (Y5 R c er xn n)) st
def bC(c:Tc)(er xn:List Str)(ss:List Stmt):a7 (SSE c er ss):=Qb (rd 40) (Y5 (rd 40) c er xn 12) ss
end
section
variable {pr:Pr}
structure Hy(P:Pc)(er:List Str)(f:Str)(D:Fd):Prop where
 ok:∃a name qual params body scope dV kV doc pm cdv ct oc an od osl N ps,P.K.lookup a=some ⟨oc,od,.func (W.fnOf name qual params body scope dV kV doc pm an cdv ct),osl⟩/\W.codeIn P.K cdv qual=true/\FnScope N ps scope/\D.ns=N.length/\D.np=ps.length/\P.mg f=some (.ref a)/\W.keepIn P.K (.ref a)=true /\
  (∀us:List Value,us.length=ps.length->bindArgs (W.fnOf name qual params body scope dV kV doc pm an cdv ct) ⟨us,[]⟩=pure (ps.zip us))/\∃S:SSE ⟨scope,N⟩ er body,S.xs=D.body
theorem fV{n:Nat}{f:Str}{D:Fd}(h:pr.fn f=some D):run pr (n+1) f=fun ts=>if ts.length=D.np then Hq (Bp (glo pr n) D.body (Dr D ts))else none:=by funext ts;show((pr.fn f).bind fun D=>if ts.length=D.np then Hq (Bp ⟨run pr n,Cq pr n⟩ D.body (Dr D ts))else none)=_;rw[h];rfl
theorem pV{n:Nat}{f:Str}{D:Fd}(h:pr.fn f=some D):Cq pr (n+1) f=fun ts=>if ts.length=D.np then Mn (Bp (glo pr n) D.body (Dr D ts))else none:=by funext ts;show((pr.fn f).bind fun D=>if ts.length=D.np then Mn (Bp ⟨run pr n,Cq pr n⟩ D.body (Dr D ts))else none)=_;rw[h];rfl
theorem qI{P:Pc}{er:List Str}(H:∀f D,pr.fn f=some D->Hy P er f D)(hca:P.calm)(hb:∀x∈bnames,P.mg x=none)(hc:∀x∈er,Cls P x 0)(her:er.contains E0=false):∀(n:Nat)(f:Str)(ts:List T),((run pr n f ts).isSome=true\/(Cq pr n f ts).isSome=true) ->∃a fd ps,Fn P (n+3) a fd ps (run pr n f) (Cq pr n f)/\P.mg f=some (.ref a)/\W.keepIn P.K (.ref a)=true/\(∀us:List Value,us.length=ps.length->bindArgs fd ⟨us,[]⟩=pure (ps.zip us))/\(∀{ts t},run pr n f ts=some t->ts.length=ps.length)/\∀{ts t},Cq pr n f ts=some t->ts.length=ps.length:=by
 intro n
 induction n with
 |zero=>intro f ts h;rcases h with h|h<;>cases h
 |succ n ih=>
  intro f ts h;obtain⟨D,hD⟩:∃D,pr.fn f=some D:=by
   cases e:pr.fn f with
   |some D=>exact⟨D,rfl⟩
   |none=>
    have h1:run pr (n+1) f ts=none:=by show((pr.fn f).bind fun D=>if ts.length=D.np then Hq (Bp ⟨run pr n,Cq pr n⟩ D.body (Dr D ts))else none)=none;rw[e];rfl
    have h2:Cq pr (n+1) f ts=none:=by show((pr.fn f).bind fun D=>if ts.length=D.np then Mn (Bp ⟨run pr n,Cq pr n⟩ D.body (Dr D ts))else none)=none;rw[e];rfl
    rw[h1,h2]at h;rcases h with h|h<;>cases h
  obtain⟨a,name,qual,params,body,scope,dV,kV,doc,pm,cdv,ct,oc,an,od,osl,N,ps,lk,hcd,S,hn,hp,hm,hk,hbi,R,hR⟩:=(H f D hD).ok;rw[fV hD,pV hD];refine⟨a,_,ps,qK hca lk hcd S hn hp fun{A l F s}hr=>?_,hm,hk,hbi,fun{ts t}q=>?_,fun{ts t}q=>?_⟩
  .rw[<-hR];have gd:Gd (Jp P N qual scope a cdv A l F s).toYc ⟨scope,N⟩ (glo pr n):=⟨⟨fun x h=>(show scope.names.lookup x=some .globalImplicit by simpa[Ea]using h),fun x h=>h⟩,by have:=hr.un;show(A.deeper (envOfC qual scope s.heap.objs.size a cdv)).units+100<cLine;lia,hca,hb,fun f ts h=>by obtain⟨a',fd,ps',h1,h2⟩:=ih f ts h;exact⟨n+3,a',fd,ps',h1,hr,h2⟩⟩;have sd:Sd (Jp P N qual scope a cdv A l F s) ⟨scope,N⟩ (glo pr n) er:=⟨gd,rfl,rfl,⟨⟨l,rfl⟩,rfl⟩,fun x hx _=>⟨0,hc x hx,hr.mono (by lia)⟩,fun h=>by rw[her]at h;cases h⟩;exact @SSE.ok _ _ _ R _ _ sd
  .dsimp only at q;split at q
   .rw[<-hp];assumption
   .cases q
  .dsimp only at q;split at q
   .rw[<-hp];assumption
   .cases q
end
section
open L2
variable {P:Pc}{Y:Yc}{B:Bd}{c:Tc}{Gl0:Glo}{cs:List Addr}{a C D f ta DE p cc cd:Addr}{n:Int}{k:Nat}{F G G2:Fz}{s s' s1 s2:Shared}{l:List PySem.Env}{x g:Str}{A:Around}{t tt:T}{ts:List T}{u:Value}{o:Out}{pn:List (Addr×a7 Obj)}{ad:Nat->List Addr}{τ:List Sl}{ls:Scope}{e:Expr}{es:List Expr}{pos p1 p2:Pos}{Q E:Value->Shared->Prop}{cl:List (Str×Addr)}{N:Str->Nat->Prop}{ρ:Ev.Env}{xs:List Ev.E}
theorem l9{k:Nat}{f:Addr}{fd:FuncData}{ps:List Str}{sp:List T->a7 T}{ex:List T->a7 (Str×Int)}{gg:Ev.Env->a7 (List T)}(L:Addr)(A:At Y N ρ F s)(hF:Fn Y.toPc k f fd ps sp ex)(hr:Room k Y.A)(hg:Gl Y x)(hm:Y.mg x=some (.ref f))(hk:W.keepIn Y.K (.ref f)=true)(hb:∀us:List Value,us.length=ps.length->bindArgs fd ⟨us,[]⟩=pure (ps.zip us))(hl1:∀{ts t},sp ts=some t->ts.length=ps.length)(hl2:∀{ts t},ex ts=some t->ts.length=ps.length)(ha:Oks Y N (e::es) gg)(hd:(x==("__debug__":Str))=false)(he:starEach (e::es) Y.env=(false,eval e Y.env)::starEach es Y.env)(hpl:(backTo pos (starEach es Y.env)).any (·.1)=false)(q:gg ρ=some ts)(ho:Hz sp ex .rt ts=some o)(h1:∀t u s',o=.rt t->Res Y.w F s t u s'->Q u s')(h2:∀x n v s',o=.rs x n->Err false Y.toPc L (frs Y.stack) s x n v s'->E v s'):wpAny Y.M Y.A (eval (.Call (.Name x p1) (e::es) [] pos) Y.env) Q E s:=by
 refine wpAny_Call_Name_kw (M3 A hg hm ?_ hd);refine W.callWith_K (h₀:=Y.base) A.mod.kin hk (thn (ha pos A q) fun us s1 z=>?_) he hpl;obtain⟨G1,u1,rs⟩:=z;have A1:=A.up u1;refine⟨A.mod.kin.keeps A1.bk,wpAny_call ?_⟩;unfold Hz at ho;split at ho
 .rename_i t e1;cases ho;refine codeAny_mono (hF.run hr A1.toSt (.of_eq (hb us (by rw[rs.length];exact hl1 e1))) rs e1) fun r s2 z=>?_;obtain⟨v,rfl,z⟩:=z;exact h1 t v s2 rfl (Res.mk u1 z)
 .obtain⟨w,e2,rfl⟩:=oms ho;refine codeAny_mono (hF.err (x:=w.1) (n:=w.2) L hr A1.toSt (.of_eq (hb us (by rw[rs.length];exact hl2 e2))) rs e2) fun r s2 z=>?_;obtain⟨v,rfl,z⟩:=z;exact h2 _ _ v s2 rfl (z.from u1.toE)
structure LsOk(c:Tc)(ls:Scope):Prop where
 kind:ls.kind=.function
 co:ls.isCoroutine=false
 gen:ls.isGenerator=false
 nm:∀y∈ls.names,(y.2=.free/\c.sc.names.lookup y.1=some .cell/\ls.names.lookup y.1=some .free/\y.1∈c.nm)\/y.2=.globalImplicit
def W8(P:Pc)(ls:Scope)(A:Around)(l:List PySem.Env)(L f:Addr)(cdv:Value)(cl:List (Str×Addr)):Yc:=⟨P,A.deeper (W.envX Gh ls L f cdv cl),W.envX Gh ls L f cdv cl,W.envX Gh ls L f cdv cl::l,fun _=>True⟩
theorem LsOk.free(h:LsOk c ls){x:Str}(e:ls.names.lookup x=some .free):c.sc.names.lookup x=some .cell/\x∈c.nm/\(x,NameKind.free)∈ls.names:=by
 have:=PySem.mem_of_lookup e;rcases h.nm _ this with⟨_,a,_,b⟩|a
 .exact⟨a,b,this⟩
 .cases a
theorem kL{oc:Obj}{vs:Array Value}{tk:Tok}{pm ctv:Value}{ce:Addr->Bool}(g':Gd B.toYc c Gl0)(hc:c.nm=B.N)(hsc:B.env.scope=c.sc)(hk1:∀f ts,((Gl0.call f ts).isSome=true\/(Gl0.exc f ts).isSome=true)->∃a fd ps,Fn B.toPc k a fd ps (Gl0.call f) (Gl0.exc f)/\B.mg f=some (.ref a)/\W.keepIn B.K (.ref a)=true/\(∀us:List Value,us.length=ps.length->bindArgs fd ⟨us,[]⟩=pure (ps.zip us))/\(∀{ts t},Gl0.call f ts=some t->ts.length=ps.length)/\∀{ts t},Gl0.exc f ts=some t->ts.length=ps.length)(S:LsOk c ls)(hce:∀b,ce b=true↔∃x∈B.N,B.env.cells.lookup x=some b)(h:B.Fr pn ad τ F s)(hf:F f=some (Nr (.Call (.Name g p1) (e::es) [] p2) ls (F2 B.env ls.names []) pm cd ctv))(hcd:F cd=some oc)(hd:oc.data=.fields vs)(hv:vs[1]?=some (.str Gh tk))(x:VE ⟨ls,c.nm⟩ e)(xs:LE ⟨ls,c.nm⟩ es)(hg:(Ec g&&Ea ls g)=true)(q:Az Gl0 (x.x::xs.xs) (Au τ)=some ts)(ho:Hz (Gl0.call g) (Gl0.exc g) .rt ts=some o):Qv B.toPc (k+1) (fun b=>if ce b=true then s.heap.get? b else F b) f o:=by
 have cell:∀{b},ce b=true->F b=none:=fun hb=>let⟨x,hx,e⟩:=(hce _).mp hb;(h.cell x hx _ e).1
 have fc:∀{b o},F b=some o->(fun b=>if ce b=true then s.heap.get? b else F b) b=some o:=fun{b o}w=>by show(if ce b=true then _ else _)=_;rw[if_neg fun z=>by rw[cell z]at w;cases w];exact w
 refine⟨⟨_,_,_,_,_,_,_,_,_,fc hf⟩,fun{A l G s1}L hr hs le=>?_⟩;have lim:s1.heap.NoLimit:=hs.mod.nolimit.keeps hs.bk;have nf:∀x∈ls.names,x.2≠.cell:=fun x hx=>by rcases S.nm x hx with⟨z,_⟩|z<;>rw[z]<;>decide
 refine W.kla_callFunE (by have:=hr.dp;lia) (hs.fh _ _ (le _ _ (fc hf))) rfl S.co S.gen rfl ⟨cd,oc,vs,tk,rfl,hs.fh _ _ (le _ _ (fc hcd)),hd,hv⟩ ?_;rw[show bindArgs (W.kla_fn "<lambda>" Gh Kx (.Call (.Name g p1) (e::es) [] p2) ls (F2 B.env ls.names []) pm (.ref cd) ctv) ⟨[],[]⟩=pure []from rfl];refine wpAny_pure (wpAny_newFunctionEnv nf (fun x hx=>absurd hx (by simp)) (fun h' hns hsb=>?_) S.kind);have hk:∀b o,s1.heap.get? b=some o->h'.get? b=some o:=fun b o e=>hsb.extBut b o (Es (Cu e)) (Bb _ e);refine⟨lim.keeps hk,?_⟩;show codeAny _ _ (.expr (.Call (.Name g p1) (e::es) [] p2) (W.envX Gh ls s1.heap.objs.size f (.ref cd) (F2 B.env ls.names []))) _ _;refine W.kla_codeExpr ?_;have base0:B.base.get? s1.heap.objs.size=none:=by
  cases e:B.base.get? s1.heap.objs.size with
  |none=>rfl
  |some o=>have:=hs.bk _ _ e;rw[Bs]at this;cases this
 generalize hcl:F2 B.env ls.names []=cl at *;have cl1:∀y,ls.names.lookup y=some .free->∃c1,cl.lookup y=some c1/\B.env.cells.lookup y=some c1:=fun y hy=>by
  have kin:∀y:Str,c.sc.names.lookup y=some .cell->B.env.kindOf y=some .cell\/B.env.kindOf y=some .free:=fun y hy=>g'.sc.cap y (.inl hy);have h0:∀y∈ls.names,y.2=.free->∃a,B.env.cells.lookup y.1=some a:=fun y hy hf=>by
   rcases S.nm y hy with⟨_,a,_⟩|a
   .exact h.ok.has y.1 (kin _ a)
   .rw[a]at hf;cases hf
  obtain⟨c1,e1⟩:=Option.isSome_iff_exists.mp (Oa (env:=B.env) (x:=y) ls.names [] (.inl (S.free hy).2.2));have e2:=Qp (env:=B.env) ls.names [] (fun _ _ z=>nomatch z) h0 y c1 e1;rw[hcl]at e1;exact⟨c1,e1,e2⟩
 have hk':Up G s1 G {s1 with heap:=h',toks:=s1.toks+([]:List (Str×Value)).length}:=Up.kept hs.fh hk;have A':At (W8 B.toPc ls A l s1.heap.objs.size f (.ref cd) cl) (Tc.N ⟨ls,c.nm⟩) (Au τ) G {s1 with heap:=h',toks:=s1.toks+([]:List (Str×Value)).length}:=by
  refine⟨⟨hs.mod,hs.hd,Around.frames_deeper hs.frames,fun b o e=>hk _ _ (hs.bk b o e),hk'.fh,hs.bare,fun cm=>.cons (by show ls.kind≠_;rw[S.kind];decide) rfl hns base0 (Q1 hk (hs.funs cm)),fun cm b hb=>(omc hb).elim (fun e=>by rw[e];exact hs.fh.none Bs) (hs.fo cm b)⟩,⟨S.kind,rfl,rfl,fun y hy=>?_,fun _ z=>z⟩,trivial,fun x i t ⟨n1,n2,n3⟩ er=>?_⟩
  .rcases hy with hy|hy
   .exact absurd rfl (nf _ (PySem.mem_of_lookup hy))
   .obtain⟨c1,e1,_⟩:=cl1 y hy;exact⟨c1,e1⟩
  .have hfr:ls.names.lookup x=some .free:=by
    replace n2:Ls ls x=true:=n2;unfold Ls at n2;cases z:ls.names.lookup x with
    |none=>rw[z]at n2;cases n2
    |some kd=>
     rcases S.nm _ (PySem.mem_of_lookup z)with⟨a,_⟩|a
     .rw[show kd=.free from a]
     .rw[z,show kd=.globalImplicit from a]at n2;cases n2
   have iN:B.N[i]?=some x:=by rw[<-hc];exact M1 n3
   obtain⟨u,lk,r⟩:=h.at.get x i t iN er;obtain⟨c1,e1,e2⟩:=cl1 x hfr;refine⟨u,.inr ⟨.inr hfr,c1,e1,?_⟩,r.mono (fun b o w=>le b o (fc w))⟩;rcases lk with⟨k1,_⟩|⟨_,c2,e3,o',w1,w2⟩
   .rcases g'.sc.cap x (.inl (S.free hfr).1)with k2|k2<;>(rw[k1]at k2;cases k2)
   .rw[e2]at e3;cases e3;exact⟨o',hk _ _ (hs.fh _ _ (le _ _ (show(if ce c1=true then s.heap.get? c1 else F c1)=some o' by rw[if_pos ((hce c1).mpr ⟨x,Ee iN,e2⟩)];exact w1))),w2⟩
 have hrd:=hr.deeper (W.envX Gh ls s1.heap.objs.size f (.ref cd) cl);have gd:Gd (W8 B.toPc ls A l s1.heap.objs.size f (.ref cd) cl) ⟨ls,c.nm⟩ Gl0:=⟨⟨fun x h=>(show ls.names.lookup x=some .globalImplicit by simpa[Ea]using h),fun x h=>h⟩,by have:=hrd.un;show(A.deeper (W.envX Gh ls s1.heap.objs.size f (.ref cd) cl)).units+100<cLine;lia,g'.cm,g'.bn,fun f ts hx=>by obtain⟨a,fd,ps,w⟩:=hk1 f ts hx;exact⟨k,a,fd,ps,w.1,hrd,w.2⟩⟩;have hso:(Gl0.call g ts).isSome=true\/(Gl0.exc g ts).isSome=true:=by
  unfold Hz at ho;split at ho
  .rename_i e;exact .inl (by rw[e];rfl)
  .obtain⟨w,e,_⟩:=oms ho;exact .inr (by rw[e];rfl)
 obtain⟨a,fd,ps,hF,hm,hkk,hb,hl1,hl2⟩:=hk1 g ts hso;rw[Cy]at hg;refine l9 (Y:=W8 B.toPc ls A l s1.heap.objs.size f (.ref cd) cl) s1.heap.objs.size A' hF hrd (gd.sc.gl g hg.2) hm hkk hb hl1 hl2 (Hs (x.ok gd) (xs.ok gd) (Dg x.pl es _)) (Io hg.1).1 (Dg x.pl es _) (xs.pl p2 _) q ho (fun t u s' eo z=>?_) fun x n v s' eo z=>?_
 .subst eo;exact⟨u,rfl,Res.mk hk' z⟩
 .subst eo;have fu:s'.heap.FunFrames B.base (W.envX Gh ls s1.heap.objs.size f (.ref cd) cl::l):=by obtain⟨_,_,_,_,_,_,_,u,_⟩:=z;exact U7 u (A'.funs g'.cm)
  exact Eh (eG (E:=No) (L':=L) (s0:=s1) (Around.frames_deeper hs.frames) fu rfl Bs (fun b hb=>hb) (fun b hb=>let⟨_,o,q,_⟩:=(hs.funs g'.cm).mem hb;⟨o,q⟩) (z.from hk'.toE)) (fun _ s2 q=>⟨v,rfl,q⟩) fun _ _ q=>q.elim
end
section
open L2
variable {B:Bd}{c:Tc}{G:Glo}{cs:List Addr}{ta DE p cc:Addr}{k:Nat}{ls:Scope}
theorem nS(h:Qo c ls=true):LsOk c ls:=by
 unfold Qo at h;simp only[Bool.and_eq_true,Bool.not_eq_true',beq_iff_eq]at h;obtain⟨⟨⟨h1,h2⟩,h3⟩,h4⟩:=h;refine⟨h1,h2,h3,fun y hy=>?_⟩;have:=oml h4 y hy;simp only[Bool.or_eq_true,Bool.and_eq_true,beq_iff_eq,List.contains_iff_mem]at this;rcases this with⟨⟨⟨a1,a2⟩,a3⟩,a4⟩|a
 .exact .inl ⟨a1,a2,a3,a4⟩
 .exact .inr a
theorem nJ{g:Str}{ts:List T}{t:T}(h:Fj G g ts=some t):∃o,Hz (G.call g) (G.exc g) .rt ts=some o/\So o=some t:=by
 unfold Fj at h;unfold Hz;cases e:G.call g ts with
 |some v=>rw[e]at h;cases h;exact⟨_,rfl,rfl⟩
 |none=>rw[e]at h;obtain⟨x,hx,h⟩:=obs h;exact⟨.rs x.1 x.2,by dsimp only;rw[hx];rfl,h⟩
theorem qQ(L:Ui B cc p)(T:Gm B.toPc ta cs DE)(mt:B.mg E0=some (.ref ta))(kp:W.keepIn B.K (.ref ta)=true)(gd:Gd B.toYc c G)(hc:c.nm=B.N)(hsc:B.env.scope=c.sc)(hr:Room (k+2) B.A)(hk1:∀f ts,((G.call f ts).isSome=true\/(G.exc f ts).isSome=true)->∃a fd ps,Fn B.toPc k a fd ps (G.call f) (G.exc f)/\B.mg f=some (.ref a)/\W.keepIn B.K (.ref a)=true/\(∀us:List Value,us.length=ps.length->bindArgs fd ⟨us,[]⟩=pure (ps.zip us))/\(∀{ts t},G.call f ts=some t->ts.length=ps.length)/\∀{ts t},G.exc f ts=some t->ts.length=ps.length):bT B c G:=by
 intro y g py p4 p1 p2 p3 p5 p6 e es ls x xs i h1 h2 h3 hy hl is pn ad τ F s o hF q;have S:=nS h1;obtain⟨ts,q1,q⟩:=obs q;obtain⟨t,q2,q⟩:=obs q;cases q;obtain⟨o,ho,hT⟩:=nJ q2;obtain⟨G0,ad',le,h'⟩:=hF.frzAt is;have A:=h'.at
 have kin:∀y:Str,c.sc.names.lookup y=some .cell->B.env.kindOf y=some .cell\/B.env.kindOf y=some .free:=fun y hy=>gd.sc.cap y (.inl hy);have h0:∀y∈ls.names,y.2=.free->∃a,B.env.cells.lookup y.1=some a:=fun y hy hf=>by
  rcases S.nm y hy with⟨_,a,_⟩|a
  .exact h'.ok.has y.1 (kin _ a)
  .rw[a]at hf;cases hf
 refine wpAny_Assign_Name (wpAny_Call_Name_kw (M3 A (gd.sc.gl _ h2) mt ?_ (by decide))) rfl;refine W.callWith_K (h₀:=B.base) A.mod.kin kp ?_ rfl rfl;rw[show starEach [.Lambda Kx (.Call (.Name g p1) (e::es) [] p2) ls p3] B.env=(false,eval (.Lambda Kx (.Call (.Name g p1) (e::es) [] p2) ls p3) B.env)::[]from rfl];refine Calls.spliced_cons (lO L h' (To h0) fun f cd pm ctv oc vs tk G1 s1 le1 h1 e1 e2 e3 e4=>Calls.spliced_nil ?_);have st:=h1.toSt
 let ce:Addr->Bool:=fun b=>B.N.any fun x=>B.env.cells.lookup x==some b
 have hce:∀b,ce b=true↔∃x∈B.N,B.env.cells.lookup x=some b:=fun b=>by simp[ce]
 have cell:∀{b},ce b=true->G1 b=none/\∃v,s1.heap.IsCell b v:=fun hb=>let⟨x,hx,e⟩:=(hce _).mp hb;h1.cell x hx _ e
 refine⟨st.mod.kin.keeps st.bk,wpAny_call ?_⟩;have hFc:Fz.In (fun b=>if ce b=true then s1.heap.get? b else G1 b) s1.heap:=fun b o w=>by
  replace w:(if ce b=true then s1.heap.get? b else G1 b)=some o:=w;split at w
  .exact w
  .exact st.fh b o w
 have fo:∀b∈frs B.stack,(fun b=>if ce b=true then s1.heap.get? b else G1 b) b=none:=fun b hb=>by
  have hb':b=B.env.locals:=by rw[L.stk]at hb;unfold frs at hb;rw[Ht,L.fm.fr]at hb;simpa using hb
  show(if ce b=true then s1.heap.get? b else G1 b)=none;rw[if_neg fun z=>let⟨x,hx,e⟩:=(hce _).mp z;h1.cne hx e hb',hb'];exact h1.ns.1
 have st':St B.toPc B.A B.stack (fun b=>if ce b=true then s1.heap.get? b else G1 b) s1:=⟨st.mod,st.hd,st.frames,st.bk,hFc,st.bare,st.funs,fun _=>fo⟩;have hL:=kL (o:=o) gd hc hsc hk1 S hce h1 e1 e2 e3 e4 x xs h3 q1 ho;refine codeAny_mono (oX gd.cm T hr st' hL hT) fun r s2 z=>?_;obtain⟨u,G2,rfl,uf,r⟩:=z;obtain⟨le3,h3,rm⟩:=h1.afterF L.stk L.fm.fr hce uf;exact h3.store (d:=[]) (sl:=.val t) hy hl (fun _ w=>nomatch w) (fun _ lk=>⟨u,lk,rm r⟩) fun s3 _ _ h4=>⟨_,_,(le.trans le1).trans le3,h4⟩
end
section
open L2
variable {P:Pc}{k n:Nat}{f p cc ta DE:Addr}{cs:List Addr}{name qual:Str}{params:Arguments}{body:List Stmt}{scope:Scope}{dV kV doc pm cdv ct oc:Value}{an od:a7 Addr}{osl:Array (a7 Value)}{N ps:List Str}{D:Fd}{pr:Pr}{er:List Str}{A:Around}{F:Fz}{s s1:Shared}{args:Args}{us:List Value}{ts:List T}{τ:List Sl}
abbrev Py(P:Pc)(N:List Str)(qual:Str)(scope:Scope)(f:Addr)(cd:Value)(A:Around)(F:Fz)(s:Shared)(p:Addr):Bd:={Jp P N qual scope f cd A [] F s with tbp:=[(p,none)],s0:={s with heap:=W.hideAll s.heap [p]} }
theorem o9(I:(Jp P N qual scope f cdv A [] F s).Fr [] (fun _=>[]) τ F s1)(h:St P A [] F s)(hp:s.heap.get? p=some (W.tabObj #[]))(hF:F p=none)(hb:P.base.get? p=none):(Py P N qual scope f cdv A F s p).Fr [] (fun _=>[]) τ F s1:=by
 have hid:∀{b},s.heap.get? b=none->(W.hideAll s.heap [p]).get? b=none:=fun{b}w=>by
  cases q:(W.hideAll s.heap [p]).get? b with
  |none=>rfl
  |some o=>rw[W.of_hideAll _ q]at w;cases w
 have np:∀{b},s.heap.get? b=none->b≠p:=fun w z=>by rw[z,hp]at w;cases w
 have lab:s.heap.get? s.heap.objs.size=none:=I.lab;refine⟨⟨I.ok,trivial,fun{G s2}u ns=>⟨h.mod,h.hd,Around.frames_deeper h.frames,fun b o e=>u.ext b o (W.hideAll_get _ (h.bk b o e) fun z=>by replace e:P.base.get? b=some o:=e;rw[omg z,hb]at e;cases e),u.fh,u.bare h.bare,fun _=>?_,fun _ b hb=>?_⟩,hid lab,fun x hx c e=>hid (I.cab x hx c e),I.cin,I.nd⟩,⟨fun b o e=>I.up.ext b o (W.of_hideAll _ e),I.up.os,I.up.bare,I.up.ff,I.up.fh,fun b z=>.inl z⟩,I.len,I.ns,I.cell,fun _ _ w=>(nomatch w),fun q hq=>?_,fun _ _ _ w=>(nomatch w),I.slot⟩
 .obtain⟨_,m,n⟩:=ns;refine .cons (by show scope.kind≠_;rw[show scope.kind=.function from I.ok.kind];decide) rfl n ?_ trivial;cases e:P.base.get? s.heap.objs.size with
  |none=>exact e
  |some o=>have:=h.bk _ _ e;rw[Bs]at this;cases this
 .rw[omg hb];exact ns.1
 .cases omg hq;refine⟨⟨W.hideAll_none _ (.head _),hF,fun z=>np lab z.symm,fun x hx c e=>np (I.cab x hx c e)⟩,⟨⟨#[],I.up.ext _ _ hp,trivial,fun pos cv e=>(nomatch e)⟩,fun q hq e=>?_⟩,fun i w=>nomatch w⟩;cases omg hq;rfl
theorem iQ(hca:P.calm)(lk:P.K.lookup f=some ⟨oc,od,.func (W.fnOf name qual params body scope dV kV doc pm an (.ref cc) ct),osl⟩)(hcd:W.codeIn P.K (.ref cc) qual=true)(S:FnScope N ps scope)(hn:D.ns=N.length)(hp:D.np=ps.length)(hq:qual="law")(hd:∀h,P.K.In h->W.CodeHd h cc p)(bm:∀h,P.K.In h->h.BuiltinsAt P.mg p)(T:Gm P ta cs DE)(mt:P.mg E0=some (.ref ta))(kp:W.keepIn P.K (.ref ta)=true)(hb:∀x∈bnames,P.mg x=none)(SS:SSE ⟨scope,N⟩ [E0] body)(hS:SS.xs=D.body)(fns:∀f ts,((run pr n f ts).isSome=true\/(Cq pr n f ts).isSome=true)->∃a fd ps,Fn P (n+3) a fd ps (run pr n f) (Cq pr n f)/\P.mg f=some (.ref a)/\W.keepIn P.K (.ref a)=true/\(∀us:List Value,us.length=ps.length->bindArgs fd ⟨us,[]⟩=pure (ps.zip us))/\(∀{ts t},run pr n f ts=some t->ts.length=ps.length)/\∀{ts t},Cq pr n f ts=some t->ts.length=ps.length)(hr:Room (n+6) A)(h:St P A [] F s)(hbi:BindsTo s (W.fnOf name qual params body scope dV kV doc pm an (.ref cc) ct) args (ps.zip us))(r:Reps P.w F ts us)(hl:ts.length=ps.length)(hp0:s.heap.get? p=some (W.tabObj #[]))(hF:F p=none)(hbp:P.base.get? p=none)(ev:Bp (glo pr n) D.body (Dr D ts)=some (.rt (.bl true))):codeAny P.M A (.call (.ref f) args) (fun r s'=>r=.ok (.ret (.bool true))/\∃G G2,Up F {s with heap:=W.hideAll s.heap [p]} G s'/\Ow G2 s'.heap p) s:=by
 have KX:P.K.In s.heap:=h.mod.kin.keeps h.bk;have hkind:∀y∈ps.zip us,scope.names.lookup y.1=some .local\/(scope.names.lookup y.1=some .cell/\((cellsFrom (s.heap.objs.size+1) scope.names []).lookup y.1).isSome=true):=fun⟨n,v⟩ hy=>(S.par n (List.of_mem_zip hy).1).imp id fun q=>⟨q,W.cellsFrom_some _ _ _ (.inl q)⟩;refine codeAny_call_function (by have:=hr.dp;lia) (KX _ _ lk) rfl S.co S.gen rfl (W.codeRec_of KX hcd) (hbi _ _ _ _ ?_);refine wpAny_newFunctionEnv_cells S.kind hkind fun env he s1 x=>?_;subst he;refine⟨(h.mod.nolimit.keeps h.bk).keeps x.toInCall.keep,codeAny_func ?_⟩;have I:=o9 (Ry (D:=D) S h r hl hn x) h hp0 hF hbp;have hr1:=hr.deeper (envOfC qual scope s.heap.objs.size f (.ref cc));have gd:Gd (Py P N qual scope f (.ref cc) A F s p).toYc ⟨scope,N⟩ (glo pr n):=⟨⟨fun x h=>(show scope.names.lookup x=some .globalImplicit by simpa[Ea]using h),fun x h=>h⟩,by have:=hr1.un;show(A.deeper (envOfC qual scope s.heap.objs.size f (.ref cc))).units+100<cLine;lia,hca,hb,fun f ts h=>by obtain⟨a',fd,ps',h1,h2⟩:=fns f ts h;exact⟨n+3,a',fd,ps',h1,hr1.mono (by lia),h2⟩⟩;have L:Ui (Py P N qual scope f (.ref cc) A F s p) cc p:=⟨rfl,⟨⟨[],rfl⟩,rfl⟩,hca,rfl,rfl,by subst hq;show(("law":Str)++(".<locals>.":Str)++("<lambda>":Str))=Gh;decide +kernel,hd,bm⟩;have sd:Sd (Py P N qual scope f (.ref cc) A F s p) ⟨scope,N⟩ (glo pr n) [E0]:=⟨gd,rfl,rfl,⟨⟨[],rfl⟩,rfl⟩,fun x hx hne=>absurd (omg hx) hne,fun _=>qQ (k:=n+3) L T mt kp gd rfl rfl (hr1.mono (by lia)) fns⟩;have pss:=@SSE.ok _ _ _ SS _ _ sd;refine Eh (pss I (by rw[hS];exact ev)) (fun fl s' z=>?_) fun e s' z=>by obtain⟨_,_,q,_⟩:=z;cases q
 cases fl<;>first|exact z.elim|skip
 obtain⟨⟨G,u,rfl⟩,tb⟩:=z;obtain⟨G2,q⟩:=tb (p,none) (.head _);exact⟨rfl,G,G2,u,q⟩
end
end Nb
namespace Att
open PySem PySem.W PySem.Calls PyProof.Rows
theorem iZ{P:Params}{h:Heap}:∀(ns:List Int)(vs:List Value),WellAll P h vs (ns.map WData.int)->IntsAre vs ns:=by
 intro ns
 induction ns with
 |nil=>intro vs w;rw[List.map_nil]at w;cases w;exact .nil
 |cons n ns ih=>
  intro vs w;rw[Ba]at w;cases w with
  |cons a b=>cases a;exact .cons _ _ (ih _ b)
theorem lX{l:OpenLaw}{n:Nat}(hn:l.most=some n){P:Params}{h:Heap}{args:List WData}{vals:List Value}(hpre:l.row.toRowW.claim.pre args=true)(hwl:WellAll P h vals args):∃a vs ns,vals=[Value.ref a]/\args=[WData.list (ns.map WData.int)]/\h.get? a=some {cls:=.type "list",data:=.seq vs.toArray}/\IntsAre vs ns/\ns.length<=n:=by
 have hsh:WShape.hasAll [] args [.list .int]=true:=(pre_splitW hpre).1;have hc:l.pre.holds [] {args:=args}=true:=(pre_splitW hpre).2;obtain⟨d,r,rfl,h1,h2⟩:=hasAllW_cons hsh;obtain rfl:=hasAllW_nil h2;obtain⟨xs,rfl,h3⟩:=hasW_list h1;obtain⟨ns,rfl⟩:=items_int h3;have hlen:ns.length<=n:=by
  unfold OpenLaw.pre at hc;have h4:(WTm.not (.lt (.lit (.int (n:Int))) (.len (.arg 0)))).holds [] {args:=[.list (ns.map .int)]}=true:=by have h4:=(holds_andW hc).1;rw[hn]at h4;exact h4
  have h5:=condW_of h4 (w_not (w_lt w_lit (w_len_list (w_arg rfl))));rw[Aq]at h5;refine Nat.le_of_not_lt fun q=>?_;have q':(n:Int)<((ns.length:Nat):Int):=by lia
  first
   |(rw[Cd q']at h5;exact absurd h5 (by decide))
   |(simp at h5;lia)
 cases hwl with
 |cons w1 w2=>
  cases w2;cases w1 with
  |list ho hall=>exact⟨_,_,ns,rfl,rfl,ho,iZ ns _ hall,hlen⟩
theorem oQ(l:OpenLaw)(args:List WData):l.row.toRowW.claim.post args (.bool true) args=true :=
 postW_of (r:=l.row.toRowW) (X:=(true==true))
  (show WShape.has [] (.bool true) .bool=true by first|rfl|decide|simp[WShape.has,WShape.arms,WShape.armsAll])
  (show(WTm.eq .res (.lit (.bool true))).value [] {args:=args,res:=some (.bool true),after:=args}=some (.bool (true==true))from w_eq_bool (w_res rfl) w_lit) rfl
theorem attach_call{l:OpenLaw}{n:Nat}{q:Program}{loose:List Str}{XP:(Str->a7 Value)->Heap->Prop}{YP:World->Heap->Prop}{d:DefRec}(hn:l.most=some n)(hdf:d.params.defaults=[])(call:∀(w:World)(s₀ s₁:Shared)(mg mb:Str->a7 Value)(fa:Addr)(o:Obj)(pm cd doc:Value)(a:Addr)(vs:List Value)(ns:List Int),Ground q loose [] XP w s₀ mg mb s₁.heap->YP w s₁.heap ->s₁.heap.get? fa=some o->o.data=.func (docDef d.name d.params d.body d.scope pm cd doc)->s₁.heap.CodeRec cd d.name->mg d.name=some (.ref fa) ->s₁.heap.get? a=some {cls:=.type "list",data:=.seq vs.toArray}->IntsAre vs ns->ns.length<=n->s₁.gens=#[] ->codeAny (model l.prog w) callerA (.call (.ref fa) ⟨[.ref a],[]⟩) (fun r s'=>r=.ok (.ret (.bool true))/\OldK s₁.heap s'.heap/\s'.os=s₁.os/\AllBare s'.gens) s₁):WalkO q loose XP YP l.row.toRowW d [] (fun f vs=>PySem.call f vs):=by
 intro w s₀ s₁ mg mb G Y fa o pm cd doc dV kV ho hd hcd hD hmg hg args vals as hpre hlay hrd hwl hlo;obtain rfl:dV=.none:=Dflts.none hD hdf;obtain rfl:kV=.none:=Dflts.noKw hD;obtain⟨a,vs,ns,rfl,rfl,hobj,hints,hlen⟩:=lX hn hpre hwl;refine enter_call (codeAny_mono (call w s₀ s₁ mg mb fa o pm cd doc a vs ns G Y ho (fd_plain hd) hcd hmg hobj hints hlen hg) fun r s' hq=>?_);obtain⟨rfl,h2,h3,h4⟩:=hq;exact⟨.inl ⟨.bool true,.bool true,[],rfl,fun _=>rfl,.bool true,oQ l _,fun _=>⟨List.Pairwise.nil,fun _ hm=>(nomatch hm)⟩⟩,h2,h3,h4⟩
end Att
section
namespace Nb
open PySem Spec PyProof.Rows Ev Ex L2
section
variable {st:Stmt}{K:W.Frag}
theorem kJ{h:Heap}{a:Addr}{o:Obj}(e:h.get? a=some o):a<h.objs.size:=by
 by_cases hl:a<h.objs.size
 .exact hl
 .have:h.objs[a]?=none:=Array.getElem?_eq_none (Nat.le_of_not_lt hl);unfold Heap.get? at e;rw[this]at e;cases e
theorem Zj{f:Addr->a7 Obj}{a:Addr}:∀l:List Addr,((l.filterMap fun b=>(f b).map fun o=>(b,o)).lookup a)=if a∈l then f a else none
 |[]=>rfl
 |b::l=>by
  have ih:=Zj (f:=f) (a:=a) l;rw[Ht];by_cases hab:a=b
  .subst hab;cases hf:f a with
   |none=>simp only[Option.map_none];rw[ih,hf];simp
   |some o=>simp only[xms];rw[List.lookup_cons];simp
  .cases hf:f b with
   |none=>simp only[Option.map_none];rw[ih];simp[hab]
   |some o=>simp only[xms];rw[List.lookup_cons,show(a==b)=false by simpa using hab,ih];simp[hab]
theorem Ih(h:Heap)(a:Addr):(KH h).lookup a=h.get? a:=by
 unfold KH;rw[Zj];split
 .rfl
 .rename_i hn;cases e:h.get? a with
  |none=>rfl
  |some o=>exact absurd (List.mem_range.mpr (kJ e)) hn
theorem nR(k:∀b o,h.get? b=some o->h'.get? b=some o):(KH h).In h':=fun a o e=>k a o (by rw[<-Ih];exact e)
theorem Qg:W.nsIn (KH h) ns x=Jq h ns x:=by unfold W.nsIn Jq;rw[Ih];rfl
theorem bw:W.codeIn (KH h) cd q=Qq h cd q:=by
 unfold W.codeIn Qq;cases cd with
 |ref c=>simp only[Ih];rfl
 |_=>rfl
theorem kZ{h:Heap}{x:Str}(e:Pw h x=some (Q9 x st,true)):∃f oc od kd doc pm an cd ct sl,W.nsIn (KH h) mainGlobals x=some (some (.ref f))/\(KH h).lookup f=some ⟨oc,od,.func (W.fnOf x x (Fw st) (Et st) (Bf st) .none kd doc pm an cd ct),sl⟩/\W.codeIn (KH h) cd x=true/\W.keepIn (KH h) (.ref f)=true:=by
 unfold Pw at e;split at e
 .rename_i a ha;split at e
  .rename_i oc od f sl ho;have e:=Fe e;have e1:=Av Prod.fst e;have e2:=Av Prod.snd e;dsimp only at e1 e2;obtain⟨n,q,p,b,sc,g,cl,df,kd,doc,pm,an,cd,ct,bi⟩:=f;unfold Q9 Mg at e1;dsimp only[W.fnOf]at e1;obtain⟨rfl,rfl,rfl,rfl,rfl,rfl,rfl,rfl,rfl⟩:=FnV.mk.inj e1;have hl:(KH h).lookup a=some ⟨oc,od,.func (W.fnOf q q (Fw st) (Et st) (Bf st) .none kd doc pm an cd ct),sl⟩:=by rw[Ih];exact ho
   refine⟨a,oc,od,kd,doc,pm,an,cd,ct,sl,by rw[Qg];exact ha,hl,by rw[bw];exact e2,?_⟩;simp only[W.keepIn,hl]
  .cases e
 .cases e
theorem n8(e:Ma (fs.map (·.1)) bs h=K7 fs bs)(hp:p∈fs):Pw h p.1=some (Q9 p.1 p.2,true):=by have e1:=Av Prod.fst e;unfold Ma K7 at e1;dsimp only at e1;rw[Bz]at e1;exact List.map_inj_left.mp e1 p hp
theorem pW(e:Ma (fs.map (·.1)) bs h=K7 fs bs)(hx:x∈bs):Jq h mainGlobals x=some none:=by have e1:=Av Prod.snd e;unfold Ma K7 at e1;dsimp only at e1;exact List.map_inj_left.mp e1 x hx
theorem Y8{α:Type}:∀{l:List (Str×α)}{f:Str}{D:α},l.lookup f=some D->(f,D)∈l
 |[],_,_,h=>by cases h
 |(g,E)::l,f,D,h=>by
  rw[Ga]at h;split at h
  .rename_i e;cases h;rw[Fh e];exact J8
  .exact G8 _ (Y8 h)
theorem iy(e:Ue c p (h.get? c)=true):PySem.W.CodeHd h c p:=by
 cases q:h.get? c with
 |none=>rw[q]at e;cases e
 |some o=>
  rw[q]at e;obtain⟨cl,di,da,sl⟩:=o;cases cl with
  |type ty=>
   cases da with
   |fields vs=>
    have e:(ty=="code"&&decide (11<vs.size)&&d6 p (vs.getD 11 .none)&&Zk (vs.getD 18 .none)&&Pz (vs.getD 7 .none)&&Xz (vs.getD 9 .none)&&Pz (vs.getD 10 .none)&&!(c==p))=true:=e;simp only[Bool.and_eq_true,beq_iff_eq,decide_eq_true_eq,Bool.not_eq_true',beq_eq_false_iff_ne]at e;obtain⟨⟨⟨⟨⟨⟨⟨rfl,h11⟩,e2⟩,e3⟩,e4⟩,e5⟩,e6⟩,e7⟩:=e;have g11:vs.getD 11 .none=.ref p:=by
     cases g:vs.getD 11 .none with
     |ref r=>rw[g]at e2;rw[Fh (show(r==p)=true from e2)]
     |_=>rw[g]at e2;cases e2
    have g18:∃x t,vs.getD 18 .none=.str x t:=by
     cases g:vs.getD 18 .none with
     |str x t=>exact⟨x,t,rfl⟩
     |_=>rw[g]at e3;cases e3
    have g7:∃x t,vs.getD 7 .none=.int x t:=by
     cases g:vs.getD 7 .none with
     |int x t=>exact⟨x,t,rfl⟩
     |_=>rw[g]at e4;cases e4
    have g9:∃x,vs.getD 9 .none=.bool x:=by
     cases g:vs.getD 9 .none with
     |bool x=>exact⟨x,rfl⟩
     |_=>rw[g]at e5;cases e5
    have g10:∃x t,vs.getD 10 .none=.int x t:=by
     cases g:vs.getD 10 .none with
     |int x t=>exact⟨x,t,rfl⟩
     |_=>rw[g]at e6;cases e6
    obtain⟨x18,t18,g18⟩:=g18;obtain⟨x7,t7,g7⟩:=g7;obtain⟨x9,g9⟩:=g9;obtain⟨x10,t10,g10⟩:=g10;refine⟨_,vs,x18,t18,x7,t7,x9,x10,t10,q,rfl,rfl,?_,g11,g18,g7,g9,g10,e7⟩;rw[Hb h11];rw[Array.getD_eq_getD_getElem?,Hb h11]at g11;exact Av some g11
   |_=>cases e
  |_=>cases e
theorem i3(e:Pp p h=true)(KX:(KH h).In h1)(G:h1.Ns mainGlobals mg):∀h2,(KH h).In h2->h2.BuiltinsAt mg p:=fun h2 K2=>by
 unfold Pp at e;cases q:Jq h mainGlobals "__builtins__" with
 |none=>rw[q]at e;cases e
 |some r=>
  cases r with
  |none=>rw[q]at e;cases e
  |some v=>
   cases v with
   |ref b=>
    rw[q]at e;have e:(!(b==builtinsNs)&&!(b==mainGlobals)&&!(b==p)&&(match h.get? b with
     |some ⟨.type ty,some d,.plain,_⟩=>ty=="module"&&d==builtinsNs
     |_=>false))=true:=e
    simp only[Bool.and_eq_true,Bool.not_eq_true',beq_eq_false_iff_ne]at e;obtain⟨⟨⟨e1,e2⟩,e3⟩,e4⟩:=e;split at e4
    .rename_i ty d sl ho;simp only[Bool.and_eq_true,beq_iff_eq]at e4;obtain⟨rfl,rfl⟩:=e4;exact⟨b,_,W.mg_of KX G (by rw[Qg];exact q),e1,e2,e3,K2 b _ (by rw[Ih];exact ho),rfl,rfl,rfl⟩
    .cases e4
   |_=>rw[q]at e;cases e
theorem gv(h:Sg o=true):o=some (PySem.W.tabObj #[]):=by
 cases o with
 |none=>cases h
 |some o=>
  obtain⟨cl,di,da,sl⟩:=o;cases cl with
  |none=>
   cases di with
   |none=>
    cases da with
    |fields vs=>have h:(vs.size==0&&sl.size==0)=true:=h;simp only[Bool.and_eq_true,beq_iff_eq]at h;rw[Array.eq_empty_of_size_eq_zero h.1,Array.eq_empty_of_size_eq_zero h.2]
    |_=>cases h
   |some _=>cases h
  |_=>cases h
open Ex
theorem eH:(boN.map fun n=>boX.map fun x=>fastBuiltinOwn n x)=boN.map fun n=>boX.map fun x=>Rp n x:=by kernel_rfl
theorem Yb(h:W.clsIn K a=some cd):∃c d s,K.lookup a=some ⟨c,d,.cls cd,s⟩:=by
 unfold W.clsIn at h;split at h
 .rename_i e;cases h;exact⟨_,_,_,e⟩
 .cases h
theorem k7(h:oI K x c=some r):W.ownIn K x c=some r:=by
 cases c with
 |type n=>
  have h:(if boN.contains n&&boX.contains x then some (Rp n x)else none)=some r:=h;split at h
  .rename_i e;rw[Cy,List.contains_iff_mem,List.contains_iff_mem]at e;cases h;exact Av some (List.map_inj_left.mp (List.map_inj_left.mp eH n e.1) x e.2)
  .cases h
 |ref a=>obtain⟨cd,h1,h2⟩:=obs h;obtain⟨c,d,s,e⟩:=Yb h1;unfold W.ownIn;simp only[e];exact h2
 |_=>cases h
theorem cz{K:W.Frag}:∀l,aI K x l=some r->W.alongIn K x l=some r
 |[],h=>h
 |c::l,h=>by
  obtain⟨o,ho,h⟩:=obs h;rw[W.alongIn,k7 ho];cases o with
  |none=>exact cz l h
  |some v=>exact h
theorem Kz(h:Ja K C x=some r):W.findIn K (.ref C) x=some r:=by obtain⟨cd,h1,h2⟩:=obs h;obtain⟨c,d,s,e⟩:=Yb h1;unfold W.findIn;simp only[e];exact cz _ h2
theorem eR(K:W.Frag):W.specialIn K (.builtin "object.__class__") "__get__"=some (some (.builtin "getset_descriptor.__get__")):=by kernel_rfl
theorem lC(K:W.Frag):W.takesIn K (.builtin "object.__class__")=some true:=by kernel_rfl
theorem kY(K:W.Frag):W.findIn K (.type "type") "__call__"=some (some (.builtin "type.__call__")):=by kernel_rfl
theorem fw:W.kitMeta "ValueError"=true:=by kernel_rfl
theorem eX(h:T6 K D=true):I8 K D:=by unfold T6 at h;simp only[Bool.and_eq_true,beq_iff_eq]at h;obtain⟨⟨⟨⟨⟨⟨h1,h2⟩,h3⟩,h4⟩,h5⟩,h8⟩,h9⟩:=h;exact⟨Kz h1,Kz h2,h3,h4,Kz h5,eR K,lC K,h8,Kz h9⟩
theorem jZ(h:Rt K cs DE D j=true):EK K cs D j/\W.exmOne K (.ref D) (.ref DE)=some true:=by
 unfold Rt at h;simp only[Bool.and_eq_true,beq_iff_eq,decide_eq_true_eq]at h;obtain⟨⟨⟨⟨⟨h1,h2⟩,h3⟩,h4⟩,h5⟩,h6⟩:=h;refine⟨⟨eX h1,h2,?_,h4⟩,?_⟩
 .show(if(Value.ref D==Value.type "ValueError")=true then some true else if W.kitMeta "ValueError"=true then W.mroIn K D (.type "ValueError")else none)=some true;rw[fw,h3];rfl
 .show(if(W.mroIn K DE (.type "BaseException")==some true)=true then kC K D DE else none)=some true;rw[h5,h6];rfl
theorem og(h:Mw C l=true):∃D,l=.ref C::.ref D::Ka:=by
 unfold Mw at h;split at h
 .rename_i a b x y z u;simp only[Bool.and_eq_true,beq_iff_eq]at h;obtain⟨⟨rfl,h2⟩,h3⟩:=h;cases b with
  |ref D=>exact⟨D,by rw[h3]⟩
  |_=>cases h2
 .cases h
theorem gM(h:Ot l=true):∃k0 k1 k2 k3 k5,l=[k0,k1,k2,k3,some (.builtin "ValueError.__new__"),k5]:=by
 unfold Ot at h;split at h
 .rename_i k0 k1 k2 k3 k k5;rw[Ki]at h;exact⟨k0,k1,k2,k3,k5,by rw[h]⟩
 .cases h
theorem nB(h:Tq C (K.lookup C)=true)(hs:W.findIn K (.ref C) "__setattr__"=some (some (.builtin "object.__setattr__")))(hn:W.findIn K (.ref C) "at"=some none):(∃k y N b l hd s8 sub ab cl dd k0 k1 k2 k3 k5,K.lookup C=some (excClassObj k y C N b l hd s8 sub ab cl dd k0 k1 k2 k3 k5 "ValueError.__new__")/\Mr "ValueError" l)/\XC K C:=by
 cases e:K.lookup C with
 |none=>rw[e]at h;cases h
 |some o=>
  rw[e]at h;obtain⟨c,dd,da,sl⟩:=o;cases da with
  |cls cd=>
   obtain⟨nm,bs,mro,N,q,hd,s8,sub,ab,col,dl⟩:=cd;have h:(c==.type "type"&&!dl&&hd&&Mw C mro&&Ot sl.toList)=true:=h;simp only[Bool.and_eq_true,beq_iff_eq,Bool.not_eq_true']at h;obtain⟨⟨⟨⟨h1,h2⟩,h3⟩,h4⟩,h5⟩:=h;obtain⟨D,h6⟩:=og h4;obtain⟨k0,k1,k2,k3,k5,h7⟩:=gM h5;have h8:sl=#[k0,k1,k2,k3,some (.builtin "ValueError.__new__"),k5]:=by rw[<-Array.toArray_toList (xs:=sl),h7]
   subst h1 h2 h3 h6 h8;have ob:∃k y' N' b l hd s8 sub ab cl dd k0 k1 k2 k3 k5,K.lookup C=some (excClassObj k y' C N' b l hd s8 sub ab cl dd k0 k1 k2 k3 k5 "ValueError.__new__")/\Mr "ValueError" l:=⟨nm,q,N,bs,_,true,s8,sub,ab,col,dd,k0,k1,k2,k3,k5,e,rfl,rfl,rfl⟩;rw[<-e];exact⟨ob,ob,⟨_,[C,D],by unfold W.clsIn;rw[e],rfl,rfl⟩,hs,hn⟩
  |_=>cases h
theorem fK(h:Tq C (K.lookup C)=true):W.keepIn K (.ref C)=true:=by
 cases e:K.lookup C with
 |none=>rw[e]at h;cases h
 |some o=>
  rw[e]at h;obtain⟨c,dd,da,sl⟩:=o;cases da with
  |cls cd=>
   have h:(c==.type "type"&&!cd.hasDel&&cd.hasDict&&Mw C cd.mro&&Ot sl.toList)=true:=h;simp only[Bool.and_eq_true,beq_iff_eq]at h;obtain⟨⟨⟨⟨rfl,_⟩,_⟩,_⟩,_⟩:=h;unfold W.keepIn;simp only[e];have z:W.specialIn K (.ref C) "__call__"=some (some (.builtin "type.__call__")):=by show((K.lookup C).map (·.cls)).bind (fun t=>W.findIn K t "__call__")=_;rw[e];exact kY K
   rw[z];decide +kernel
  |_=>cases h
theorem gm{h:Heap}{fI:Addr}(e:Kk h (h.get? fI)=Kp st):∃(oc:Value)(od:a7 Addr)(kV doc pm:Value)(an:a7 Addr)(cdv ct:Value)(osl:Array (a7 Value))(a:Addr)(oT:Obj)(n t1 t2:Nat),(KH h).lookup fI=some ⟨oc,od,.func (W.fnOf "__init__" Lx (Fw st) (Et st) (Bf st) (.ref a) kV doc pm an cdv ct),osl⟩/\W.codeIn (KH h) cdv Lx=true/\h.get? a=some oT/\oT.data=.seq #[.str "" t1,.int 0 t2] n:=by
 cases q:h.get? fI with
 |none=>rw[q]at e;cases e
 |some o=>
  rw[q]at e;obtain⟨oc,od,da,osl⟩:=o;cases da with
  |func f=>
   obtain⟨fn,fq,fp,fb,fsc,fg,fcl,fdf,kd,doc,pm,an,cd,ct,bi⟩:=f;cases fdf with
   |ref a=>
    cases qa:h.get? a with
    |none=>simp only[Kk,qa]at e;cases e
    |some oT=>
     obtain⟨tc,td,tda,tsl⟩:=oT;cases tda with
     |seq qc n=>
      simp only[Kk,qa]at e;have e:=Fe e;have e1:=Av Prod.fst e;have e2:=Av (fun p=>p.2.1) e;have e3:=Av (fun p=>p.2.2) e;dsimp only at e1 e2 e3;unfold Na Mg at e1;dsimp only[W.fnOf]at e1;obtain⟨rfl,rfl,rfl,rfl,rfl,rfl,rfl,_,rfl⟩:=FnV.mk.inj e1;have hi:∃t1 t2,qc=#[.str "" t1,.int 0 t2]:=by
       rw[<-Array.toArray_toList (xs:=qc)];have hlen:qc.toList.length=2:=by have:=Av List.length e3;rw[Aq]at this;exact this
       match hl:qc.toList,e3,hlen with
       |[x,y],e3,_=>
        injection e3 with g1 g2;injection g2 with g2 g3;cases x with
        |str z t1=>
         cases y with
         |int i t2=>cases g1;cases g2;exact⟨t1,t2,rfl⟩
         |_=>cases g2
        |_=>cases g1
       |[],_,h=>cases h
       |[_],_,h=>cases h
       |_::_::_::_,_,h=>simp at h
      obtain⟨t1,t2,rfl⟩:=hi;exact⟨oc,od,kd,doc,pm,an,cd,ct,osl,a,_,n,t1,t2,by rw[Ih];exact q,by rw[bw];exact e2,qa,rfl⟩
     |_=>simp only[Kk,qa]at e;cases e
   |_=>cases e
  |_=>cases e
theorem cI{α β:Type}{f:α->a7 β}:∀{l:List α}{r:List β},Qf f l=some r->r.length=l.length/\∀(i:Nat)(x:α),l[i]?=some x->∃y,f x=some y/\r[i]?=some y
 |[],r,h=>by cases h;exact⟨rfl,fun i x z=>by simp at z⟩
 |a::l,r,h=>by
  obtain⟨b,h1,h⟩:=obs h;obtain⟨bs,h2,h⟩:=obs h;cases h;obtain⟨g1,g2⟩:=cI h2;refine⟨by rw[Eb,Eb,g1],fun i x z=>?_⟩;cases i with
  |zero=>cases z;exact⟨b,h1,rfl⟩
  |succ i=>exact g2 i x z
theorem bE:∀(l:List Str)(x:Str)(i j:Nat),Kc x l i=some j->i<=j/\l[j-i]?=some x
 |[],x,i,j,h=>by cases h
 |y::r,x,i,j,h=>by
  unfold Kc at h;split at h
  .rename_i e;cases h;subst e;exact⟨Nat.le_refl _,by simp⟩
  .obtain⟨h1,h2⟩:=bE r x (i+1) j h;refine⟨by lia,?_⟩;rw[show j-i=(j-(i+1))+1 by lia];exact h2
theorem Rj(KX:(KH h0).In h)(G:h.Ns mainGlobals mg)(e:Kj (KH h0) x=some C):mg x=some (.ref C):=by
 unfold Kj Nk at e;split at e
 .rename_i q;cases e;exact W.mg_of KX G q
 .cases e
theorem fmc{α β:Type}{f g:α->a7 β}:∀{l:List α},(∀x∈l,f x=g x)->l.filterMap f=l.filterMap g
 |[],_=>rfl
 |a::l,h=>by rw[Ht,Ht,h a (.head _),fmc fun x hx=>h x (.tail _ hx)]
theorem cK:∀(ps:List Str)(us:List Value),us.length=ps.length->∀n∈ps,((ps.zip us).lookup n).isNone=false
 |p::ps,u::us,hl,n,hn=>by
  rw[List.zip_cons_cons,Ga];cases e:n==p with
  |true=>rfl
  |false=>exact cK ps us (by simpa using hl) n ((omc hn).resolve_left fun z=>by subst z;simp at e)
theorem du:∀(ps:List Str)(us:List Value),us.length=ps.length->ps.Nodup->ps.filterMap (fun n=>((ps.zip us).lookup n).map (n,·))=ps.zip us
 |[],us,_,_=>by cases us<;>rfl
 |p::ps,u::us,hl,hn=>by
  rw[Er]at hn;rw[List.zip_cons_cons,Ht,Ga,Gu];simp only[xms];congr 1;refine Eq.trans (fmc fun n h=>?_) (du ps us (by simpa using hl) hn.2);rw[Ga];cases e:n==p with
  |true=>rw[Fh e]at h;exact absurd h hn.1
  |false=>rfl
theorem aA(h:fd.params=⟨[],as,none,[],[],none,[]⟩)(hd:fd.defaults=.none)(hn:(as.map (·.arg)).Nodup)(hl:us.length=(as.map (·.arg)).length):bindArgs fd ⟨us,[]⟩=pure ((as.map (·.arg)).zip us):=by
 have e1:((as.map (·.arg)).filter fun n=>(((as.map (·.arg)).zip us).lookup n).isNone)=[]:=List.filter_eq_nil_iff.mpr fun n hn=>by rw[cK _ us hl n hn];simp
 have e2:=du _ us hl hn;have e3:seqItems? Value.none=(pure none:Sem _):=rfl;unfold bindArgs;rw[h,hd];dsimp only;generalize as.map (·.arg)=ps at hn hl e1 e2 ⊢;simp only[xmn,List.nil_append,List.append_nil,List.forIn_nil,pure_bind,e3,Option.getD_none,List.length_nil,hl,gt_iff_lt,Nat.lt_irrefl,decide_false,Bool.false_and,Bool.false_eq_true,if_false,Nat.zero_sub,List.drop_zero,Nat.sub_zero,List.take_length,e1,List.isEmpty_nil,Bool.not_true,List.drop_length,List.zip_nil_left,e2]
 done
abbrev Tab:=List (Str×Fd×Stmt×List Str)
def Tab.fns(t:Tab):List (Str×Fd):=t.map fun p=>(p.1,p.2.1)
def Tab.sts(t:Tab):List (Str×Stmt):=t.map fun p=>(p.1,p.2.2.1)
def Tab.pr(t:Tab):Pr:=⟨fun f=>t.fns.lookup f⟩
def He(sc:Scope):List Str:=(sc.names.filter fun p=>p.2==.local||p.2==.cell).map (·.1)
def X9(D:Fd)(st:Stmt)(ps:List Str):Bool :=
 (Bf st).kind==.function&&!(Bf st).isCoroutine&&!(Bf st).isGenerator&&decide ((He (Bf st)).Nodup)&&decide ((He (Bf st)).take ps.length=ps) &&
 (ps.all fun x=>(Bf st).names.lookup x==some .local||(Bf st).names.lookup x==some .cell)&&((Bf st).names.all fun y=>!(y.2==.free)) &&
 decide (ps.length=D.np)&&decide ((He (Bf st)).length=D.ns) &&
 (match Fw st with|⟨[],as,none,[],[],none,[]⟩=>decide (as.map (·.arg)=ps)|_=>false)
structure Ob(x:Str)(D:Fd)(st:Stmt)(ps:List Str):Prop where
 sc:FnScope (He (Bf st)) ps (Bf st)
 np:D.np=ps.length
 ns:D.ns=(He (Bf st)).length
 bi:∀(kV doc pm:Value)(an:Option Addr)(cdv ct:Value)(us:List Value),us.length=ps.length->bindArgs (W.fnOf x x (Fw st) (Et st) (Bf st) .none kV doc pm an cdv ct) ⟨us,[]⟩=pure (ps.zip us)
theorem Xw{x:Str}{D:Fd}{ps:List Str}(h:X9 D st ps=true):Ob x D st ps:=by
 unfold X9 at h;simp only[Bool.and_eq_true,Bool.not_eq_true',decide_eq_true_eq,beq_iff_eq]at h;obtain⟨⟨⟨⟨⟨⟨⟨⟨⟨h1,h2⟩,h3⟩,h4⟩,h5⟩,h6⟩,h7⟩,h8⟩,h9⟩,h10⟩:=h;have hnd:ps.Nodup:=by rw[<-h5];exact h4.sublist (List.take_sublist _ _)
 refine⟨⟨h1,h2,h3,h4,h5,fun y hy=>by simpa using oml h6 y hy,fun y hy=>by simpa using oml h7 y hy⟩,h8.symm,h9.symm,fun kV doc pm an cdv ct us hl=>?_⟩;split at h10
 .rename_i as ha;rw[K8]at h10;subst h10;exact aA ha rfl hnd hl
 .cases h10
structure Jr(st:Stmt):Prop where
 sc:FnScope toldN ["_law_deed_here"] (Bf st)
 lo:∀x∈toldN,(Bf st).names.lookup x=some .local
 gl:∀x∈(("DealError":Str)::toldC)++(["isinstance", "ValueError", "bool"]:List Str),(Bf st).names.lookup x=some .globalImplicit
 bi:∀(kV doc pm:Value)(an:Option Addr)(cdv ct:Value)(us:List Value),us.length=1->bindArgs (W.fnOf E0 E0 (Fw st) (Et st) (Bf st) .none kV doc pm an cdv ct) ⟨us,[]⟩=pure ((["_law_deed_here"]:List Str).zip us)
 bd:dH (Et st)
structure L4(st:Stmt):Prop where
 sc:FnScope iniN iniN (Bf st)
 v0:(Bf st).names.lookup ("self":Str)=some .local
 v1:(Bf st).names.lookup ("words":Str)=some .local
 v2:(Bf st).names.lookup ("at":Str)=some .local
 vg:(Bf st).names.lookup ("ValueError":Str)=some .globalImplicit
 bd:∃p ap p1 p2 pos q1 p3 p4 p5 q2,Et st=W6 p ap p1 p2 pos q1 p3 p4 p5 q2/\∀env:PySem.Env,∃pl:Sem Bool,eval (.Call (.Attribute (.Name "ValueError" p) "__init__" ap) [.Name "self" p1,.Name "words" p2] [] pos) env=(do
   let ov <-eval (.Name "ValueError" p) env
   standAt ap.atName
   let(f,first) <-holding [ov] (getMethod ov "__init__" pl)
   callWith pos f first (backTo pos (starEach [.Name "self" p1,.Name "words" p2] env)) (backToKw pos (keywordEach [] env)))
 b2:∀(a:Addr)(kV doc pm:Value)(an:Option Addr)(cdv ct u1 u2:Value)(t1 t2:Nat),∃k,bindArgs (W.fnOf "__init__" Lx (Fw st) (Et st) (Bf st) (.ref a) kV doc pm an cdv ct) ⟨[u1,u2],[]⟩=(seqItems? (.ref a) >>= k)/\k (some #[.str "" t1,.int 0 t2])=(pure (iniN.zip [u1,u2,Value.int 0 t2]):Sem (List (Str×Value)))
 b3:∀(a:Addr)(kV doc pm:Value)(an:Option Addr)(cdv ct u1 u2 u3:Value)(t1 t2:Nat),∃k,bindArgs (W.fnOf "__init__" Lx (Fw st) (Et st) (Bf st) (.ref a) kV doc pm an cdv ct) ⟨[u1,u2,u3],[]⟩=(seqItems? (.ref a) >>= k)/\k (some #[.str "" t1,.int 0 t2])=(pure (iniN.zip [u1,u2,u3]):Sem (List (Str×Value)))
theorem oK{P:Pc}{h0:Heap}{C fI:Addr}{x:Str}(I:L4 st)(eK:P.K=KH h0)(hC:P.mg x=some (.ref C))(nv:P.mg "ValueError"=none)(ck:S0 (KH h0) C fI=true)(e:Kk h0 (h0.get? fI)=Kp st):Cls P x 0:=by
 unfold S0 at ck;simp only[Bool.and_eq_true,beq_iff_eq]at ck;obtain⟨⟨⟨⟨h1,h3⟩,h4⟩,h5⟩,h6⟩:=ck;have h2:=fK h1;have h3:=Kz h3;have h5:=Kz h5;have h6:=Kz h6;obtain⟨_,xc⟩:=nB h1 h5 h6;obtain⟨oc,od,kV,doc,pm,an,cdv,ct,osl,a,oT,n,t1,t2,g1,g2,g3,g4⟩:=gm e;obtain⟨p,ap,p1,p2,pos,q1,p3,p4,p5,q2,eb,ht⟩:=I.bd;have kh:∀h,P.K.In h->h.get? a=some oT:=fun h K=>by rw[eK]at K;exact K a oT (by rw[Ih];exact g3)
 refine⟨C,fI,W.fnOf "__init__" Lx (Fw st) (Et st) (Bf st) (.ref a) kV doc pm an cdv ct,t2,hC,by rw[eK];exact xc,by rw[eK];exact h2,fun h' K=>by rw[eK]at K;exact⟨_,K,h3,h4⟩,fun{A l F s e C z wV nV args R}hr hs he hbe xc hb q=>?_,fun s us K hl=>?_,fun s us K hl=>?_⟩
 .rw[eb]at g1;refine oy (k:=0) (by rw[eK];exact g1) (by rw[eK];exact g2) I.sc I.v0 I.v1 I.v2 I.vg nv ht hr hs he hbe xc (by rw[<-eb];exact hb) q
 .obtain⟨u1,u2,u3,rfl⟩:∃u1 u2 u3,us=[u1,u2,u3]:=by rcases us with _|⟨a,_|⟨b,_|⟨c,_|⟨_,_⟩⟩⟩⟩<;>simp at hl;exact⟨a,b,c,rfl⟩
  obtain⟨kk,b1,b2⟩:=I.b3 a kV doc pm an cdv ct u1 u2 u3 t1 t2;exact BindsTo.of_defaults (T:=a) (k:=kk) rfl (kh _ K) g4 b1 b2
 .obtain⟨u1,u2,rfl⟩:∃u1 u2,us=[u1,u2]:=by rcases us with _|⟨a,_|⟨b,_|⟨_,_⟩⟩⟩<;>simp at hl;exact⟨a,b,rfl⟩
  obtain⟨kk,b1,b2⟩:=I.b2 a kV doc pm an cdv ct u1 u2 t1 t2;exact BindsTo.of_defaults (T:=a) (k:=kk) rfl (kh _ K) g4 b1 b2
theorem kR{G G2 F:Fz}{s s':Shared}{p:Addr}{cc:Addr}(u:Up F {s with heap:=W.hideAll s.heap [p]} G s')(tk:Ow G2 s'.heap p)(hp:s.heap.get? p=some (W.tabObj #[]))(hcd:W.CodeHd s.heap cc p):OldK s.heap s'.heap:=by
 obtain⟨vs,e,_⟩:=tk;have kept:∀b o,b≠p->s.heap.get? b=some o->s'.heap.get? b=some o:=fun b o nb w=>u.ext b o (W.hideAll_get _ w fun z=>nb (omg z));have hp2:s'.heap.get? p=some {cls:=.none,data:=.fields (#[]++vs)}:=by rw[e];simp[W.tabObj]
 refine⟨fun b o w=>?_,fun b o w=>?_⟩<;>by_cases hb:b=p
 .subst hb;rw[hp]at w;cases w;exact .inr (.inl ⟨(hcd.tab hp).isCodeTable,rfl,#[],vs,rfl,hp2⟩)
 .exact .inl (kept b o hb w)
 .subst hb;exact⟨_,hp2⟩
 .exact⟨o,kept b o hb w⟩
def ae(er:List Str)(fs:List (Str×Stmt))(sI:Stmt):PySem.W.Hook :=
 ⟨_,fun s=>Tg er (fs.map (·.1)) bnX s.heap,fun _=>some (K7 fs bnX,true,true,Kp sI),fun _ h=>∃h0:Heap,(∀b o,h0.get? b=some o->h.get? b=some o)/\Tg er (fs.map (·.1)) bnX h0=some (K7 fs bnX,true,true,Kp sI),
  fun _ s e=>⟨s.heap,fun _ _ e=>e,e⟩,fun _ _ _ ⟨h0,a,b⟩ k=>⟨h0,fun c o e=>k c o (a c o e),b⟩⟩
end
section
theorem walk_see{l:PySem.W.OpenLaw}{n k:Nat}{q:Program}{loose:List Str}{XP:(Str->a7 Value)->Heap->Prop}{d:DefRec}{x:Str}{er:List Str}{tab:Tab}{D:Fd}{st sT sI:Stmt}(hn:l.most=some n)(hn2:n<=sizeLine)(hdf:d.params.defaults=[])(hr:Room (k+6) callerA)(hdn:d.name=("law":Str))(her:er.contains E0=false)(hst:∀p∈tab,Ob p.1 p.2.1 p.2.2.1 p.2.2.2)(hrd:∀p∈tab,∃S:SSE ⟨Bf p.2.2.1,He (Bf p.2.2.1)⟩ er (Et p.2.2.1),S.xs=p.2.1.body)(ST:Jr sT)(SI:L4 sI)(SL:Ob "law" D st [x])(SR:∃S:SSE ⟨Bf st,He (Bf st)⟩ [E0] (Et st),S.xs=D.body)(law:∀ns:List Int,ns.length<=n->Bp (glo tab.pr k) D.body (Dr D [.lst (ns.map .int)])=some (.rt (.bl true))):PySem.W.WalkO q loose XP (ae er (tab.sts++[(("law":Str),st),(E0,sT)]) sI).says l.row.toRowW d [] (fun f vs=>PySem.call f vs):=by
 refine Att.attach_call hn hdf fun w s₀ s₁ mg mb fa o pm cd doc a vs ns G Y ho hd hcd hmg hobj hints hlen hg=>?_;obtain⟨h0,k0,e0⟩:=Y;obtain⟨p,hp,e⟩:=oms (show(R5 h0).map (Ny er _ _ h0)=some _ from e0);have eA:Ma ((tab.sts++[(("law":Str),st),(E0,sT)]).map (·.1)) bnX (h0.hide p)=K7 (tab.sts++[(("law":Str),st),(E0,sT)]) bnX:=Av Prod.fst e;have eB:(Sg (h0.get? p)&&(R5 (h0.hide p)==some p)&&(match Ox (h0.hide p)with|some c=>Ue c p ((h0.hide p).get? c)|none=>false)&&Pp p (h0.hide p))=true:=Av (fun z=>z.2.1) e;have eC:Si er (KH (h0.hide p))=true:=Av (fun z=>z.2.2.1) e;have eD:Wb (h0.hide p)=Kp sI:=Av (fun z=>z.2.2.2) e;simp only[Bool.and_eq_true,beq_iff_eq]at eB;obtain⟨⟨⟨b1,b2⟩,b3⟩,b4⟩:=eB;have KX:(KH (h0.hide p)).In s₁.heap:=nR fun b o e=>k0 b o (PySem.W.of_hideAll [p] e);have hp0:=k0 p _ (gv b1);have hpn:(KH (h0.hide p)).lookup p=none:=by rw[Ih];exact PySem.W.hideAll_none [p] (.head _)
 clear e e0 hp;generalize h0.hide p=h1 at *;cases hc:Ox h1 with
 |none=>rw[hc]at b3;cases b3
 |some cc=>
  rw[hc]at b3;have hcd0:PySem.W.CodeHd h1 cc p:=iy b3;have hd1:∀h,(KH h1).In h->W.CodeHd h cc p:=fun h K=>hcd0.keeps fun b o e=>K b o (by rw[Ih];exact e);have bm1:=i3 b4 KX G.T.g;have see0:∀x∈bnX,mg x=none:=fun x hx=>PySem.W.mg_none_of KX G.T.g (by rw[Qg];exact pW eA hx);have nob:∀x∈bnames,mg x=none:=fun x hx=>see0 x (G8 _ hx);have nv:mg "ValueError"=none:=see0 _ (.head _);have hap:a≠p:=fun z=>by rw[z,hp0]at hobj;cases hobj
  have hb0:∀{b:Addr}{o:Obj},s₁.heap.get? b=some o->b≠p->(W.hideAll s₁.heap [p]).get? b=some o:=fun e nb=>W.hideAll_get _ e fun z=>nb (omg z);have nsK:∀{b:Addr}{m:Str->a7 Value},s₁.heap.Ns b m->(W.hideAll s₁.heap [p]).Ns b m:=fun{b m} ⟨o,es,ep,e,d,r⟩=>⟨o,es,ep,hb0 e (fun z=>by rw[z,hp0]at e;cases e;cases d),d,r⟩;have hM:Mod (KH h1) mg (W.hideAll s₁.heap [p]):=⟨fun b o e=>hb0 (KX b o e) (fun z=>by rw[z,hpn]at e;cases e),nsK G.T.g,⟨mb,nsK G.T.b,G.T.builtins⟩,let⟨mc,h1,h2⟩:=G.T.nolimit;⟨mc,nsK h1,h2⟩⟩
  let P:Pc:=⟨l.prog,w,KH h1,mg,W.hideAll s₁.heap [p],True⟩
  let F:Fz:=fup (fun _=>none) a {cls:=.type "list",data:=.seq vs.toArray}
  have hF:F p=none:=by show fup _ _ _ _=_;unfold fup;rw[if_neg (Ne.symm hap)]
  have hIn:F.In s₁.heap:=fun b o e=>by
   replace e:fup (fun _=>none) a {cls:=.type "list",data:=.seq vs.toArray} b=some o:=e;unfold fup at e;split at e
   .rename_i z;cases e;rw[z];exact hobj
   .cases e
  have hS:St P callerA [] F s₁:=⟨hM,fun _=>rfl,rfl,fun b o e=>W.of_hideAll _ e,hIn,.of_eq hg,fun _=>trivial,fun _ b hb=>nomatch hb⟩;have fn:=fun(q:Str×Stmt)(hq:q∈tab.sts++[(("law":Str),st),(E0,sT)])=>kZ (n8 (p:=q) eA hq);unfold Si at eC;split at eC
  .rename_i cls DE fI q1 q2 q3;rw[Cy]at eC;obtain⟨z1,z2⟩:=eC;have eI:Kk h1 (h1.get? fI)=Kp sI:=by unfold Wb at eD;rw[q3]at eD;exact eD
   have cl:∀x∈er,Cls P x 0:=fun x hx=>by
    have z:=oml z2 x hx;cases hC:Kj (KH h1) x with
    |none=>rw[hC]at z;cases z
    |some C=>rw[hC]at z;exact oK SI rfl (Rj KX G.T.g hC) nv z eI
   have H:∀f D,tab.pr.fn f=some D->Hy P er f D:=fun f D hf=>by obtain⟨q,hq,e⟩:=omm (Y8 (show tab.fns.lookup f=some D from hf));cases e;obtain⟨a,oc,od,kd,doc,pm,an,cd,ct,sl,g1,g2,g3,g4⟩:=fn (q.1,q.2.2.1) (List.mem_append_left _ (Bw.mpr ⟨q,hq,rfl⟩));have S:=hst q hq;exact⟨a,_,_,_,_,_,_,kd,doc,pm,cd,ct,oc,an,od,sl,_,_,g2,g3,S.sc,S.ns,S.np,W.mg_of KX G.T.g g1,g4,S.bi kd doc pm an cd ct,hrd q hq⟩
   have fns:=qI H trivial nob cl her k;obtain⟨y1,y2⟩:=cI (show Qf (Kj (KH h1)) Iz=some cls from q1);obtain⟨ta,oc,od,kd,doc',pm',an,cdT,ct,sl,t1,t2,t3,t4⟩:=fn (E0,sT) (Hk _ (.tail _ (.head _)));have TT:Gm P ta cls DE:=by
    refine⟨⟨_,_,_,_,_,_,kd,doc',pm',cdT,ct,oc,an,od,sl,t2,t3,ST.sc,ST.lo,ST.gl,ST.bi kd doc' pm' an cdT ct,ST.bd⟩,Rj KX G.T.g q2,?_,fun x hx=>?_,fun x Cc j hj hx=>?_⟩
    .refine List.ext_getElem? fun i=>?_;rw[Dm,Dm];show(Iz[i]?).map mg=_;cases hi:Iz[i]? with
     |none=>have:cls[i]?=none:=Gx (by rw[y1];exact List.getElem?_eq_none_iff.mp hi);rw[this];rfl
     |some x=>obtain⟨y,a1,a2⟩:=y2 i x hi;rw[a2];show some (mg x)=some (some (.ref y));rw[Rj KX G.T.g a1]
    .rcases omc hx with rfl|hx
     .exact nob _ (by decide +kernel)
     .rcases omc hx with rfl|hx
      .exact nv
      .cases omg hx;exact nob _ (by decide +kernel)
    .obtain⟨_,hj2⟩:=bE Iz x 0 j hj;obtain⟨y,a1,a2⟩:=y2 j x hj2;have:=Rj KX G.T.g a1;rw[show mg x=some (.ref Cc)from hx]at this;cases this;exact jZ (oml z1 (Cc,j) (List.mk_mem_zipIdx_iff_getElem?.mpr a2))
   obtain⟨f,oc2,od2,kV,doc2,pm2,an2,cdv,ct2,sl2,g1,g2,g3,g4⟩:=fn (("law":Str),st) (Hk _ (.head _));have hm:=W.mg_of KX G.T.g g1;rw[<-hdn,hmg]at hm;cases hm;have hcc:cdv=.ref cc:=by
    have g:Jq h1 mainGlobals "law"=some (some (.ref fa)):=by rw[<-Qg];exact g1
    unfold Ox at hc;rw[g]at hc;have hc:dP (h1.get? fa)=some cc:=hc;rw[<-Ih,g2]at hc;cases cdv with
    |ref c=>cases hc;rfl
    |_=>cases hc
   subst hcc;obtain⟨SS,hSS⟩:=SR;have hrep:Reps P.w F [.lst (ns.map .int)] [.ref a]:=by
    have ri:∀{vs:List Value}{ns:List Int},IntsAre vs ns->Reps w F (ns.map .int) vs:=fun h=>by
     induction h with
     |nil=>rfl
     |cons n t h ih=>exact .cons ⟨_,rfl⟩ ih
    refine .cons ⟨a,vs.toArray,0,rfl,Fq,by rw[Ss,hints.length];exact Nat.le_trans hlen hn2,by simpa using ri hints⟩ rfl
   refine codeAny_mono (iQ (P:=P) trivial g2 g3 SL.sc SL.ns SL.np rfl hd1 bm1 TT (W.mg_of KX G.T.g t1) t4 nob SS hSS fns hr hS (.of_eq (SL.bi kV doc2 pm2 an2 (.ref cc) ct2 [.ref a] rfl)) hrep rfl hp0 hF (W.hideAll_none _ (.head _)) (law ns hlen)) fun r s' z=>?_;obtain⟨rfl,G1,G2,u,tk⟩:=z;exact⟨rfl,kR u tk hp0 (hd1 _ KX),u.os,u.bare (.of_eq hg)⟩
  .cases eC
end
end Nb
namespace Ev.K04
open PySem
noncomputable def Sm(is:List Nat)(ρ ρ':Env):Prop:=∀i∈is,(ρ[i]?).join=(ρ'[i]?).join
theorem Sm.l(h:Sm (a++b) ρ ρ'):Sm a ρ ρ':=fun i hi=>h i (List.mem_append_left _ hi)
theorem Sm.r(h:Sm (a++b) ρ ρ'):Sm b ρ ρ':=fun i hi=>h i (Hk _ hi)
theorem Sm.ap{l:List (a7 T)}(hl:l.length=n)(h:Sm (is.filterMap fun i=>if n<=i then some (i-n)else none) ρ ρ'):Sm is (l++ρ) (l++ρ'):=fun i hi=>by
 rw[List.getElem?_append,List.getElem?_append,hl];split
 .rfl
 .exact h _ (Hx.mpr ⟨i,hi,by rw[if_pos (by lia)]⟩)
mutual
theorem Ck(G:Glo):∀(e:E){ρ ρ':Env},Sm (Ae e) ρ ρ'->Ac G e ρ=Ac G e ρ'
 |.var i,_,_,h=>by rw[Ac,Ac];exact h i (Me.mpr rfl)
 |.cst _,_,_,_=>by rw[Ac,Ac]
 |.bin _ a b,_,_,h=>by rw[Ae]at h;rw[Ac,Ac,Ck G a h.l,Ck G b h.r]
 |.cmp _ a b,_,_,h=>by rw[Ae]at h;rw[Ac,Ac,Ck G a h.l,Ck G b h.r]
 |.land a b,_,_,h=>by rw[Ae]at h;rw[Ac,Ac,Ck G a h.l,Ck G b h.r]
 |.lor a b,_,_,h=>by rw[Ae]at h;rw[Ac,Ac,Ck G a h.l,Ck G b h.r]
 |.lnot a,_,_,h=>by rw[Ae]at h;rw[Ac,Ac,Ck G a h]
 |.neg a,_,_,h=>by rw[Ae]at h;rw[Ac,Ac,Ck G a h]
 |.tru a,_,_,h=>by rw[Ae]at h;rw[Ac,Ac,Ck G a h]
 |.tup es,_,_,h=>by rw[Ae]at h;rw[Ac,Ac,L7 G es h]
 |.lst es,_,_,h=>by rw[Ae]at h;rw[Ac,Ac,L7 G es h]
 |.idx a b,_,_,h=>by rw[Ae]at h;rw[Ac,Ac,Ck G a h.l,Ck G b h.r]
 |.sli a lo hi,_,_,h=>by rw[Ae]at h;rw[Ac,Ac,Ck G a h.l,W9 G lo h.r.l,W9 G hi h.r.r]
 |.call _ es,_,_,h=>by rw[Ae]at h;rw[Ac,Ac,L7 G es h]
 |.blt _ a,_,_,h=>by rw[Ae]at h;rw[Ac,Ac,Ck G a h]
 |.isi a _,_,_,h=>by rw[Ae]at h;rw[Ac,Ac,Ck G a h]
 |.mth _ a b,_,_,h=>by rw[Ae]at h;rw[Ac,Ac,Ck G a h.l,Ck G b h.r]
 |.dget a b c,_,_,h=>by rw[Ae]at h;rw[Ac,Ac,Ck G a h.l,Ck G b h.r.l,Ck G c h.r.r]
 |.ife c a b,_,_,h=>by rw[Ae]at h;rw[Ac,Ac,Ck G c h.l,Ck G a h.r.l,Ck G b h.r.r]
 |.dsp0,_,_,_=>by rw[Ac,Ac]
 |.dsp1 k v,_,_,h=>by rw[Ae]at h;rw[Ac,Ac,Ck G k h.l,Ck G v h.r]
 |.told _ es,_,_,h=>by rw[Ae]at h;rw[Ac,Ac,L7 G es h]
 |.comp elt n k src cond,ρ,ρ',h=>by
  rw[Ae]at h;rw[Ac,Ac,L7 G src h.l];refine Av _ (funext fun xs=>Av _ (funext fun qc=>Av (fun f=>(Eu f qc).map T.lst) (funext fun x=>?_)));have:bnd n x ρ=none/\bnd n x ρ'=none\/∃l:List (a7 T),l.length=n/\bnd n x ρ=some (l++ρ)/\bnd n x ρ'=some (l++ρ'):=by
   unfold bnd;split
   .rename_i e;exact .inr ⟨[some x],e.symm,rfl,rfl⟩
   .cases x with
    |tup xs=>
     dsimp only;split
     .exact .inr ⟨xs.map some,by simpa,rfl,rfl⟩
     .exact .inl ⟨rfl,rfl⟩
    |_=>exact .inl ⟨rfl,rfl⟩
  rcases this with⟨h1,h2⟩|⟨l,hl,h1,h2⟩
  .rw[h1,h2]
  .have hs:=Sm.ap hl h.r;rw[h1,h2,Bi,Bi,W9 G cond hs.r,Ck G elt hs.l]
theorem L7(G:Glo):∀(es:List E){ρ ρ':Env},Sm (Bx es) ρ ρ'->Az G es ρ=Az G es ρ'
 |[],_,_,_=>by rw[Az,Az]
 |e::es,_,_,h=>by rw[Bx]at h;rw[Az,Az,Ck G e h.l,L7 G es h.r]
theorem W9(G:Glo):∀(e:a7 E){ρ ρ':Env},Sm (N1 e) ρ ρ'->E5 G e ρ=E5 G e ρ'
 |none,_,_,_=>by rw[E5,E5]
 |some e,_,_,h=>by rw[N1]at h;rw[E5,E5,Ck G e h]
end
noncomputable def fv(τ:List Sl):Env:=τ.map fun s=>s.frz.get
theorem frz2(s:Sl):s.frz.frz=s.frz:=by cases s<;>rfl
theorem Yj:∀(is:List Nat)(τ:List Sl)(i:Nat),(frzAt is τ)[i]?=(τ[i]?).map fun s=>if i∈is then s.frz else s
 |[],τ,i=>by rw[frzAt];simp
 |j::is,τ,i=>by
  rw[frzAt,Yj is,List.getElem?_modify];by_cases e:j=i
  .subst e;cases τ[j]? with
   |none=>rfl
   |some s=>by_cases k:j∈is<;>simp[k,frz2]
  .have:¬i=j:=fun z=>e z.symm;cases τ[i]? with
   |none=>rfl
   |some s=>simp[e,this]
theorem Jh(is:List Nat)(τ:List Sl):Sm is (Au (frzAt is τ)) (fv τ):=fun i hi=>by rw[Au,fv,Dm,Dm,Yj,Option.map_map];congr 2;funext s;simp only[Function.comp_apply,if_pos hi]
theorem Ke(h:Ac G e (fv τ)=o):Ac G e (Au (frzAt (Ae e) τ))=o:=(Ck G e (Jh _ τ)).trans h
theorem Lm(h:Az G es (fv τ)=o):Az G es (Au (frzAt (Bx es) τ))=o:=(L7 G es (Jh _ τ)).trans h
section
variable {α:Type}{is:List Nat}{P:Pr}{D:Fd}
theorem Hw{xs:List T}{k:Nat}{t:T}(h:xs[k]?=some t):Fo xs (k:Int)=some t:=by have hk:k<xs.length:=(ome h).1;unfold Fo Gf;rw[if_pos (by lia),if_pos (by lia)];simpa using h
theorem ko(h:Cp G s τ=some (.nx τ')):Bp G (s::ss) τ=Bp G ss τ':=by rw[Bp,h];rfl
theorem iC(h:Cp G s τ=some (.rt t)):Bp G (s::ss) τ=some (.rt t):=by rw[Bp,h];rfl
theorem V3{α:Type}{enc:α->T}{f:T->a7 (a7 T)}(g:α->a7 T):∀{l:List α},(∀a∈l,f (enc a)=some (g a))->Eu f (l.map enc)=some (l.filterMap g)
 |[],_=>rfl
 |a::l,h=>by rw[Ba,Eu,h a J8,V3 g fun b hb=>h b (G8 _ hb),Ht];cases g a<;>rfl
theorem Hu(a:T)(r:List T):Fo (a::r) 0=some a:=by simp[Fo,Gf]
theorem W7(a b:T)(r:List T):Fo (a::b::r) 1=some b:=by have:=Hw (xs:=a::b::r) (k:=1) (t:=b) rfl;exact this
theorem hH(a b c:T)(r:List T):Fo (a::b::c::r) 2=some c:=by have:=Hw (xs:=a::b::c::r) (k:=2) (t:=c) rfl;exact this
theorem mU(a b c d:T)(r:List T):Fo (a::b::c::d::r) 3=some d:=by have:=Hw (xs:=a::b::c::d::r) (k:=3) (t:=d) rfl;exact this
theorem cA{enc:α->T}{cs:List α}(h:cs≠[])(i:Int):∃c∈cs,Fo (cs.map enc) (i%(cs.length:Int))=some (enc c):=by
 have hl:0<cs.length:=by cases cs with|nil=>exact absurd rfl h|cons _ _=>simp
 have h1:0<=i%(cs.length:Int):=Oe _ (by lia);have h2:i%(cs.length:Int)<(cs.length:Int):=Np _ (by lia);obtain⟨j,hj⟩:∃j:Nat,i%(cs.length:Int)=(j:Int):=⟨(i%(cs.length:Int)).toNat,by lia⟩;rw[hj]at h2 ⊢;have hj':j<cs.length:=by lia
 refine⟨cs[j],Jy _,Hw ?_⟩;rw[Dm,Dw hj'];rfl
theorem iF{β:Type}(f:α->β)(l:List α):(l.filterMap fun a=>some (f a))=l.map f:=by
 induction l with
 |nil=>rfl
 |cons a l ih=>simp[ih]
theorem ay(G:Glo)(elt:E)(n:Nat)(k:Ik)(src:List E)(cond:a7 E)(r:Env):Ac G (.comp elt n k src cond) r=(Az G src r).bind fun xs=>(Ed k xs).bind fun qc=>
   (Eu (fun x=>(bnd n x r).bind fun r'=>(E5 G cond r').bind fun c=>match c with
    |none=>(Ac G elt r').map some
    |some (.bl true)=>(Ac G elt r').map some
    |some (.bl false)=>some none
    |some _=>none) qc).map .lst:=by rw[Ac];try rfl
theorem U6(G:Glo)(elt:E)(n:Nat)(k:Ik)(src:List E)(r:Env):Ac G (.comp elt n k src none) r=(Az G src r).bind fun xs=>(Ed k xs).bind fun qc=>
   (Eu (fun x=>(bnd n x r).bind fun r'=>(Ac G elt r').map some) qc).map .lst:=by
 rw[ay];simp only[E5,xbs]
theorem Xk{enc:α->T}{f:T->a7 (a7 T)}(g:α->T){l:List α}(h:∀a∈l,f (enc a)=some (some (g a))):Eu f (l.map enc)=some (l.map g):=by rw[V3 (fun a=>some (g a)) h,iF]
theorem eqs(a b:Str):Gz (.str a) (.str b)=some (.bl (a==b)):=rfl
theorem Y0{α β:Type}(c:α->Bool)(f:α->β):∀l:List α,(l.filterMap fun a=>if c a=true then some (f a)else none)=(l.filter c).map f
 |[]=>rfl
 |a::l=>by rw[Ht,Gr,Y0 c f l];cases c a<;>rfl
theorem Fy{G:Glo}{elt cond:E}{src:List E}{r:Env}{n:Nat}{enc:α->T}{R:List α}(c:α->Bool)(f:α->T){xs:List T}(h1:Az G src r=some xs)(h2:Ed .plain xs=some (R.map enc))(hb:∀a∈R,∃r',bnd n (enc a) r=some r'/\Ac G cond r'=some (.bl (c a))/\(c a=true->Ac G elt r'=some (f a))):Ac G (.comp elt n .plain src (some cond)) r=some (.lst ((R.filter c).map f)):=by
 rw[ay,h1,Bi,h2,Bi,V3 (enc:=enc) (fun a=>if c a=true then some (f a)else none) fun a ha=>by
  obtain⟨r',e1,e2,e3⟩:=hb a ha;rw[e1,Bi,E5,e2,Option.map_some,Bi];cases hc:c a with
  |true=>rw[if_pos rfl];simp only[e3 hc,xms]
  |false=>rfl]
 rw[Y0];rfl
def st0(ts:List T)(n:Nat):List Sl:=ts.map .val++List.replicate n .no
def W(G:Glo)(ss:List S)(τ:List Sl)(Q:Out->Prop):Prop:=∃o,Bp G ss τ=some o/\Q o
def Kn(G:Glo)(ss:List S)(Q:Out->Prop):Out->Prop
 |.nx τ=>W G ss τ Q
 |o=>Q o
variable {G:Glo}{ss a b:List S}{s:S}{τ τ':List Sl}{Q:Out->Prop}{o:Out}{t u v:T}{ts us:List T}{i j n:Nat}{e c x y z:E}{es:List E}{ρ:Env}{p q:Bool}
theorem w_s(h:Cp G s τ=some o)(k:Kn G ss Q o):W G (s::ss) τ Q:=by
 cases o with
 |nx τ'=>obtain⟨o,h1,h2⟩:=k;exact⟨o,(ko h).trans h1,h2⟩
 |rt t=>exact⟨_,iC h,k⟩
 |rs x n=>exact⟨_,by rw[Bp,h];rfl,k⟩
theorem As(h:Q (.nx τ)):W G [] τ Q:=⟨_,by rw[Bp],h⟩
def Dt:List Nat->List Sl->List Sl->List Sl
 |i::is,s::ss,τ=>Dt is ss (τ.set i s)
 |_,_,τ=>τ
theorem w_nz(k:W G ss τ' Q)(h2:τ=τ':=by(try dsimp only[st0,frzAt,Dt,G6,Jl,List.modify_zero_cons,List.modify_succ_cons,xsz,xss,List.cons_append,List.nil_append,Jn,fresh,Sl.frz,List.map,List.replicate_succ,List.replicate_zero]);first|done|exact rfl):W G ss τ Q:=h2▸k
theorem rf_a{α:Sort u}{a b:α}(h:a=b:=by rfl):a=b:=h
theorem Bv{x:T}{τ1 τ2:List Sl}(k:W G ss τ2 Q)(h:autoParam (G6 is x τ=some τ1) rf_a._auto_1)(h2:autoParam (τ1=τ2) w_nz._auto_1):∃τ',G6 is x τ=some τ'/\W G ss τ' Q:=⟨_,h,h2▸k⟩
theorem dc_a{p:Prop}(h:p:=by decide):p:=h
theorem An(h:Ac G e (fv τ)=some t)(k:W G ss τ' Q)(js:List Nat:=[])(h0:autoParam (frzAt (Ae e) τ=frzAt js τ) rf_a._auto_1)(h2:autoParam ((frzAt js τ).set i (Jn e t)=τ') w_nz._auto_1):W G (.asg i e::ss) τ Q :=
 w_s (o:=.nx τ') (by rw[Cp,Ke h,<-h2,<-h0];rfl) k
theorem Ar(h:Ac G e (fv τ)=some t)(k:Q (.rt t)):W G (.ret e::ss) τ Q:=w_s (o:=.rt t) (by rw[Cp,Ke h];rfl) k
theorem I9(h:Ac G e (fv τ)=some t)(h2:τ[i]?=some (.own ts))(h3:ts.length<SZ)(k:W G ss τ' Q)(js:List Nat:=[])(h0:autoParam (frzAt (Ae e) τ=frzAt js τ) rf_a._auto_1)(h1:autoParam ((frzAt js τ)[i]?=τ[i]?) rf_a._auto_1)(h4:autoParam ((frzAt js τ).set i (.own (ts++[t]))=τ') w_nz._auto_1):W G (.app i e::ss) τ Q :=
 w_s (o:=.nx τ') (by rw[Cp,Ke h,Option.bind_some,h0,h1,h2];dsimp only;rw[if_pos h3,h4]) k
theorem Ol(h:Ac G c (fv τ)=some (.bl q))(k:q=true->W G a τ (Kn G ss Q))(k':q=false->W G b τ (Kn G ss Q)):W G (.ite c a b::ss) τ Q:=by
 cases q with
 |true=>obtain⟨o,h1,h2⟩:=k rfl;exact w_s (by rw[Cp,Ke h];exact h1) h2
 |false=>obtain⟨o,h1,h2⟩:=k' rfl;exact w_s (by rw[Cp,Ke h];exact h1) h2
theorem Br(h:Ac G c (fv τ)=some (.bl q))(k:q=true->W G a τ (Kn G ss Q))(k':q=false->W G ss τ Q):W G (.ite c a []::ss) τ Q:=Ol h k fun h=>As (k' h)
theorem El(h:Ac G c (fv τ)=some (.bl true))(k:W G a τ (Kn G ss Q)):W G (.ite c a b::ss) τ Q:=Ol h (fun _=>k) fun h=>by cases h
theorem Bu(h:Ac G c (fv τ)=some (.bl false))(k:W G ss τ Q):W G (.ite c a []::ss) τ Q:=Br h (fun h=>by cases h) fun _=>k
theorem nC(ix:List Nat)(J:List Sl->Prop)(h:W G [s] τ fun o=>∃zs,o=.nx (Dt ix zs τ)/\J zs)(k:∀zs,J zs->W G ss (Dt ix zs τ) Q):W G (s::ss) τ Q:=by
 obtain⟨o,h1,zs,rfl,hj⟩:=h;rw[Bp]at h1;obtain⟨o,e,h2⟩:=obs h1;cases o with
 |nx τ1=>change Bp G [] τ1=_ at h2;rw[Bp]at h2;cases h2;exact w_s (o:=.nx _) e (k zs hj)
 |_=>cases h2
theorem aT(ix:List Nat)(I:Nat->List Sl->Prop)(n:Nat)(zs:List Sl)(hn:n<1000)(h0:Dt ix zs τ=τ)(h1:I n zs)(hs:∀k zs,I k zs->∃q,Ac G c (fv (Dt ix zs τ))=some (.bl q)/\(q=true->W G b (Dt ix zs τ) fun o=>∃j zs,o=.nx (Dt ix zs τ)/\j<k/\I j zs)/\(q=false->W G ss (Dt ix zs τ) Q)):W G (.wloop c b::ss) τ Q:=by
 have aux:∀N k zs,k<N->I k zs->∃zs',Jg (fun τ=>Bp G b τ) (fun τ=>Ac G c (Au (frzAt (Ae c) τ))) N (Dt ix zs τ)=some (.nx (Dt ix zs' τ))/\W G ss (Dt ix zs' τ) Q:=by
  intro N
  induction N with
  |zero=>intro k _ hk;lia
  |succ N ih=>
   intro k zs hk hI;obtain⟨q,e,ht,hf⟩:=hs k zs hI;rw[Jg,Ke e,Bi];cases q with
   |false=>exact⟨zs,rfl,hf rfl⟩
   |true=>obtain⟨o,h1,j,zs',rfl,hj,hI'⟩:=ht rfl;obtain⟨zs2,h2,h3⟩:=ih j zs' (by lia) hI';exact⟨zs2,by dsimp only;rw[h1];exact h2,h3⟩
 obtain⟨zs',e,k⟩:=aux 1000 n zs hn h1;rw[h0]at e;exact w_s (o:=.nx _) (by rw[Cp];exact e) k
theorem Nd{f:Str}(hf:P.fn f=some D)(h:W (glo P n) D.body (st0 ts i) Q)(hl:autoParam (ts.length=D.np) rf_a._auto_1)(hk:autoParam (D.ns-ts.length=i) rf_a._auto_1):∃o,Q o/\∀t,o=.rt t->run P (n+1) f ts=some t:=by obtain⟨o,h1,h2⟩:=h;subst hk;refine⟨o,h2,fun t e=>?_⟩;rw[run,hf,Bi,if_pos hl];exact Av Hq (h1.trans (Av some e))
theorem Hp{enc:α->T}{k:Ik}{τ0:List Sl}(ix:List Nat)(l:List α)(I:List α->List Sl->Prop)(zs:List Sl)(h:Az G es (fv τ)=some ts)(h2:items k ts=some (l.map enc))(h0:Dt ix zs τ0=τ0)(h1:I [] zs)(hs:∀l1 x l2,l=l1++x::l2->∀zs,I l1 zs->∃τ',G6 is (enc x) (Dt ix zs τ0)=some τ'/\W G b τ' fun o=>(∃t,o=.rt t/\Q o)\/∃zs,o=.nx (Dt ix zs τ0)/\I (l1++[x]) zs)(hk:∀zs,I l zs->W G ss (Dt ix zs τ0) Q)(js:List Nat:=[])(h4:autoParam (frzAt (Bx es) τ=frzAt js τ) rf_a._auto_1)(h3:autoParam (frzAt js τ=τ0) w_nz._auto_1):W G (.loop is k es b::ss) τ Q:=by
 rw[<-h4]at h3;subst h3;have aux:∀l2 l1,l=l1++l2->∀zs,I l1 zs->∃o,Ho (fun x τ=>(G6 is x τ).bind fun τ'=>Bp G b τ') (l2.map enc) (Dt ix zs (frzAt (Bx es) τ))=some o/\Kn G ss Q o:=by
  intro l2
  induction l2 with
  |nil=>intro l1 e zs hI;exact⟨_,rfl,hk zs (by rw[e,Jv];exact hI)⟩
  |cons x l2 ih=>
   intro l1 e zs hI;obtain⟨τ1,b1,o,b2,b3⟩:=hs l1 x l2 e zs hI;rw[Ba,Ho,b1,Bi,b2,Bi];rcases b3 with⟨t,rfl,hq⟩|⟨zs',rfl,hI'⟩
   .exact⟨_,rfl,hq⟩
   .exact ih (l1++[x]) (by rw[e,K9];rfl) zs' hI'
 obtain⟨o,e,k⟩:=aux l [] rfl zs h1;rw[h0]at e;exact w_s (by rw[Cp,Lm h,Bi,h2];exact e) k
theorem Da{enc:α->T}{k:Ik}{τ0:List Sl}(ix:List Nat)(l:List α)(I:List α->List Sl->Prop)(zs:List Sl)(h:Az G es (fv τ)=some ts)(h2:items k ts=some (l.map enc))(h0:Dt ix zs τ0=τ0)(h1:I [] zs)(hs:∀l1 x l2,l=l1++x::l2->∀zs,I l1 zs->∃τ',G6 is (enc x) (Dt ix zs τ0)=some τ'/\W G b τ' fun o=>∃zs,o=.nx (Dt ix zs τ0)/\I (l1++[x]) zs)(hk:∀zs,I l zs->W G ss (Dt ix zs τ0) Q)(js:List Nat:=[])(h4:autoParam (frzAt (Bx es) τ=frzAt js τ) rf_a._auto_1)(h3:autoParam (frzAt js τ=τ0) w_nz._auto_1):W G (.loop is k es b::ss) τ Q :=
 Hp ix l I zs h h2 h0 h1 (fun l1 x l2 e zs hI=>let⟨τ',e1,o,e2,e3⟩:=hs l1 x l2 e zs hI;⟨τ',e1,o,e2,.inr e3⟩) hk js h4 h3
theorem bV(h:τ[i]?=some (.own (ts++[t])))(hj:i≠j)(k:W G ss τ' Q)(h2:autoParam ((τ.set i (.own ts)).set j (.val t)=τ') w_nz._auto_1):W G (.lpop j i::ss) τ Q :=
 w_s (o:=.nx τ') (by rw[Cp,h];simp[hj,h2]) k
theorem Mc(k:W G ss τ' Q)(h2:autoParam (τ.set i (.dic [] [])=τ') w_nz._auto_1):W G (.dnew i::ss) τ Q:=w_s (o:=.nx τ') (by rw[Cp,h2]) k
theorem Oq{s':Sl}(h:Ac G y (fv τ)=some u)(h':Ac G x (fv τ)=some t)(h3:Ms τ[i]? t u=some s')(k:W G ss τ' Q)(js:List Nat:=[])(h0:autoParam (frzAt (Ae y++Ae x) τ=frzAt js τ) rf_a._auto_1)(h1:autoParam ((frzAt js τ)[i]?=τ[i]?) rf_a._auto_1)(h4:autoParam ((frzAt js τ).set i s'=τ') w_nz._auto_1):W G (.put i x y::ss) τ Q :=
 w_s (o:=.nx τ') (by rw[Cp,(Ck G y (Jh _ τ).l).trans h,Bi,(Ck G x (Jh _ τ).r).trans h',Bi,h0,h1,h3,<-h4];rfl) k
theorem w_nw(h:Ac G e (fv τ)=some (.lst ts))(k:W G ss τ' Q)(js:List Nat:=[])(h0:autoParam (frzAt (Ae e) τ=frzAt js τ) rf_a._auto_1)(h2:autoParam ((frzAt js τ).set i (.own ts)=τ') w_nz._auto_1):W G (.nw i e::ss) τ Q :=
 w_s (o:=.nx τ') (by rw[Cp,Ke h,<-h2,<-h0];rfl) k
theorem Al(h:G.call f ts=some t)(k:Az G es ρ=some ts):Ac G (.call f es) ρ=some t:=by rw[Ac,k];exact h
theorem Ab(h:Ac G e ρ=some t)(k:Az G es ρ=some ts):Az G (e::es) ρ=some (t::ts):=by rw[Az,h,k];rfl
theorem Ay{o:Bo}(h:Ac G x ρ=some u)(k:Ac G y ρ=some v)(l:Ip o u v=some t):Ac G (.bin o x y) ρ=some t:=by rw[Ac,h,k];exact l
theorem Ap{o:Co}(h:Ac G x ρ=some u)(k:Ac G y ρ=some v)(l:Bt o u v=some t):Ac G (.cmp o x y) ρ=some t:=by rw[Ac,h,k];exact l
theorem Ak(h:Ac G x ρ=some u)(k:Ac G y ρ=some v)(l:Cm u v=some t):Ac G (.idx x y) ρ=some t:=by rw[Ac,h,k];exact l
theorem Ct{o:Bn}(h:Ac G x ρ=some u)(l:Gg o u=some t):Ac G (.blt o x) ρ=some t:=by rw[Ac,h];exact l
theorem Kb(h:Az G es ρ=some ts)(l:autoParam (es.length<=1000) dc_a._auto_1):Ac G (.lst es) ρ=some (.lst ts):=by rw[Ac,if_pos l,h];rfl
theorem Cg(h:Az G es ρ=some ts)(l:autoParam (es.length<=1000) dc_a._auto_1):Ac G (.tup es) ρ=some (.tup ts):=by rw[Ac,if_pos l,h];rfl
theorem Lc(h:Ac G x ρ=some (.bl p))(k:p=false->Ac G y ρ=some (.bl q)):Ac G (.lor x y) ρ=some (.bl (p||q)):=by
 rw[Ac,h];cases p with
 |true=>rfl
 |false=>exact k rfl
theorem Dj(h:Ac G x ρ=some (.bl p))(k:p=true->Ac G y ρ=some (.bl q)):Ac G (.land x y) ρ=some (.bl (p&&q)):=by
 rw[Ac,h];cases p with
 |true=>exact k rfl
 |false=>rfl
theorem N2(h:ts.length+us.length<=SZ):Ip .add (.lst ts) (.lst us)=some (.lst (ts++us)):=if_pos h
theorem Kg{o:Mt}(h:Ac G x ρ=some u)(k:Ac G y ρ=some v)(l:Fx o u v=some t):Ac G (.mth o x y) ρ=some t:=by rw[Ac,h,k];exact l
theorem Mi(h:ts.length+us.length<=SZ):Ip .add (.tup ts) (.tup us)=some (.tup (ts++us)):=if_pos h
theorem sw{x w:Str}(e:(x==w)=q):Bt .eq (.str x) (.str w)=some (.bl q):=by rw[Bt,eqs,e]
theorem Gq{enc:α->T}{R:List α}(g:α->T)(h1:Az G es ρ=some ts)(h2:Ed .plain ts=some (R.map enc))(hb:∀a∈R,Ac G e (some (enc a)::ρ)=some (g a)):Ac G (.comp e 1 .plain es none) ρ=some (.lst (R.map g)):=by rw[U6,h1,Bi,h2,Bi,Xk (enc:=enc) g fun a ha=>by rw[show bnd 1 (enc a) ρ=some (some (enc a)::ρ)from rfl,Bi,hb a ha];rfl];rfl
theorem Qm{enc:α->T}{R:List α}{k:Ik}(g:α->T)(h1:Az G es ρ=some ts)(h2:Ed k ts=some (R.map enc))(hb:∀a∈R,∃ρ',bnd n (enc a) ρ=some ρ'/\Ac G e ρ'=some (g a)):Ac G (.comp e n k es none) ρ=some (.lst (R.map g)):=by rw[U6,h1,Bi,h2,Bi,Xk (enc:=enc) g fun a ha=>by obtain⟨ρ',e1,e2⟩:=hb a ha;rw[e1,Bi,e2];rfl];rfl
theorem O5{f:Str}{Q':T->Prop}(hf:P.fn f=some D)(h:W (glo P n) D.body (st0 ts i) Q)(k:∀o,Q o->∃t,o=.rt t/\Q' t)(hl:autoParam (ts.length=D.np) rf_a._auto_1)(hk:autoParam (D.ns-ts.length=i) rf_a._auto_1):∃t,run P (n+1) f ts=some t/\Q' t:=by obtain⟨o,h1,h2⟩:=Nd hf h hl hk;obtain⟨t,e,h3⟩:=k o h1;exact⟨t,h2 t e,h3⟩
theorem Fl(enc:α->T){f:Str}{Q':α->Prop}(hf:P.fn f=some D)(h:W (glo P n) D.body (st0 ts i) fun o=>∃a,o=.rt (enc a)/\Q' a)(hl:autoParam (ts.length=D.np) rf_a._auto_1)(hk:autoParam (D.ns-ts.length=i) rf_a._auto_1):∃a,run P (n+1) f ts=some (enc a)/\Q' a:=by obtain⟨o,⟨a,e,h1⟩,h2⟩:=Nd hf h hl hk;exact⟨a,h2 _ e,h1⟩
theorem w_1(enc:α->T){f:Str}(hf:P.fn f=some D)(h:W (glo P n) D.body (st0 ts i) fun o=>∃a,o=.rt (enc a))(hl:autoParam (ts.length=D.np) rf_a._auto_1)(hk:autoParam (D.ns-ts.length=i) rf_a._auto_1):∃a,run P (n+1) f ts=some (enc a):=by obtain⟨o,⟨a,e⟩,h2⟩:=Nd hf h hl hk;exact⟨a,h2 _ e⟩
theorem Du{f:Str}(hf:P.fn f=some D)(h:W (glo P n) D.body (st0 ts i) fun o=>o=.rt t)(hl:autoParam (ts.length=D.np) rf_a._auto_1)(hk:autoParam (D.ns-ts.length=i) rf_a._auto_1):run P (n+1) f ts=some t:=by obtain⟨o,rfl,h2⟩:=Nd hf h hl hk;exact h2 t rfl
theorem Dz{a n:Int}(h:0<n):Ip .mod (.int a) (.int n)=some (.int (a%n)):=if_pos h
theorem Ku{a b:Int}(h:Jm a=true):Ip .mul (.int a) (.int b)=some (.int (a*b)):=if_pos (by rw[h];rfl)
theorem Xu{a b:Int}(h:Jm b=true):Ip .mul (.int a) (.int b)=some (.int (a*b)):=if_pos (by rw[h,Bool.or_true])
theorem Fv{l:List T}(h:l.length<=SZ):Ed .plain [.tup l]=some l:=if_pos h
theorem Nz{l:List T}(h:l.length<=SZ):Ed .plain [.lst l]=some l:=if_pos h
theorem Dv(l:List T):items .plain [.tup l]=some l:=rfl
theorem Hf(l:List T):items .plain [.lst l]=some l:=rfl
theorem Ci:100000<SZ:=by decide
theorem M5{β:Type}{enc:α->T}{dec:β->T}{R:List α}{k:Ik}(q:α->β->Prop)(h1:Az G es ρ=some ts)(h2:Ed k ts=some (R.map enc))(hb:∀a∈R,∃b ρ',bnd n (enc a) ρ=some ρ'/\Ac G e ρ'=some (dec b)/\q a b):∃M:List (α×β),Ac G (.comp e n k es none) ρ=some (.lst (M.map fun p=>dec p.2))/\M.map (·.1)=R/\∀p∈M,q p.1 p.2:=by
 rw[U6,h1,Bi,h2,Bi];clear h1 h2
 suffices w:∃M:List (α×β),Eu (fun x=>(bnd n x ρ).bind fun r'=>(Ac G e r').map some) (R.map enc)=some (M.map fun p=>dec p.2)/\M.map (·.1)=R/\∀p∈M,q p.1 p.2 by obtain⟨M,e,h⟩:=w;exact⟨M,by rw[e];rfl,h⟩
 induction R with
 |nil=>exact⟨[],rfl,rfl,fun p h=>nomatch h⟩
 |cons a R ih=>
  obtain⟨b,ρ',e1,e2,e3⟩:=hb a (.head _);obtain⟨M,e4,e5,e6⟩:=ih fun x hx=>hb x (.tail _ hx);refine⟨(a,b)::M,?_,by rw[<-e5];rfl,fun p hp=>?_⟩
  .rw[Ba,Eu,e1,Bi,e2,Option.map_some,Bi,e4];rfl
  .rcases omc hp with rfl|hp
   .exact e3
   .exact e6 p hp
end
abbrev A2:E:=.cst (.int 0)
abbrev A3:E:=.cst (.int 1)
abbrev A4:E:=.var 0
abbrev A5:E:=.var 1
abbrev A6:E:=.var 2
abbrev A7:E:=.var 3
abbrev A8:E:=.cst (.int 2)
abbrev A9:E:=.var 4
abbrev B0:E:=.var 5
abbrev B1:E:=.cst (.int 3)
abbrev B2:E:=.cst (.int 4)
abbrev B3:E:=.var 6
abbrev B4:E:=.cst .non
abbrev B5:E:=.cst (.bl false)
abbrev B6:E:=.var 7
abbrev B7:E:=.var 8
abbrev B8:E:=.cst (.str "refers")
abbrev B9:E:=.cst (.int 8)
abbrev C0:E:=.cst (.bl true)
abbrev C2:E:=.cst (.int 5)
abbrev C3:E:=.cst (.str "refused")
abbrev C4:E:=.cst (.int 64)
abbrev C5:E:=.cst (.int 6)
abbrev C6:E:=.cst (.str "check")
abbrev C7:E:=.cst (.str "late")
abbrev C8:E:=.var 9
abbrev C9:E:=.cst (.str "gap")
abbrev D5:E:=.cst (.str "unlike")
abbrev D6:E:=.cst (.str "along")
abbrev D7:E:=.cst (.str "text")
abbrev D8:E:=.cst (.str "whole")
abbrev D9:E:=.cst (.str "drop")
abbrev H0:E:=.cst (.str "or")
abbrev H1:E:=.cst (.str "is")
abbrev H2:E:=.var 10
abbrev H3:E:=.cst (.str "id")
abbrev H4:E:=.cst (.str "empty")
abbrev H5:E:=.cst (.str "below")
abbrev H6:E:=.cst (.str "stop")
abbrev H7:E:=.cst (.str "not")
abbrev H8:E:=.cst (.str "and")
abbrev H9:E:=.cst (.str "add")
abbrev I0:E:=.cst (.int 1024)
abbrev I3:E:=.cst (.int 2147483647)
abbrev I4:E:=.cst (.int 2147483629)
abbrev I5:E:=.cst (.str "a")
abbrev I6:E:=.cst (.int 7)
noncomputable def Ud:Fd:=⟨3,4,[.asg 3 (.comp (.idx A4 A2) 1 .plain [.idx A4 A3] none),
  .ret (.blt .toTuple (.comp (.idx A6 (.mth .index A9 A4)) 1 .plain [A6] none))]⟩
noncomputable def Q6:Fd:=⟨2,2,[.ite (.cmp .lt A5 (.blt .len A4)) [.ret (.idx A4 A5)] [],
  .ret A2]⟩
noncomputable def Ro:Fd:=⟨2,3,[.asg 2 (.bin .mod (.bin .mul (.bin .add (.bin .add (.call "_law_cell_at" [A4,A5]) (.bin .mul (.cst (.int 7919)) A5)) A3) (.cst (.int 48271))) I3),
  .ret (.bin .mod (.bin .add (.bin .add (.bin .mul A6 A6) (.bin .mul I6 A6)) A5) I4)]⟩
noncomputable def Ly:Fd:=⟨2,3,[.asg 2 (.bin .mod (.bin .mul (.bin .add (.bin .add A4 (.bin .mul (.cst (.int 104729)) A5)) (.cst (.int 17))) (.cst (.int 69621))) I3),
  .ret (.bin .mod (.bin .add (.bin .add (.bin .mul A6 A6) (.bin .mul B1 A6)) A5) I4)]⟩
noncomputable def Md:Fd:=⟨1,1,[.ret (.comp (.idx A4 A2) 1 .plain [.idx A4 A3] none)]⟩
noncomputable def Ub:Fd:=⟨2,2,[.ret (.idx (.comp A4 1 .plain [A4] (some (.cmp .eq (.idx A4 A2) A6))) A2)]⟩
noncomputable def Ul:Fd:=⟨2,2,[.ret (.blt .toTuple (.comp (.idx A6 (.mth .index (.call "_law_names" [A5]) A4)) 1 .plain [.idx A4 A8] none))]⟩
noncomputable def W4:Fd:=⟨3,4,[.asg 3 (.blt .toTuple (.comp (.idx A6 (.mth .index (.call "_law_names" [A5]) A4)) 1 .plain [A6] none)),
  .ret (.idx (.lst [A7,.cst .non]) (.blt .toInt (.cmp .isin B4 A7)))]⟩
noncomputable def Vq:Fd:=⟨3,3,[.ret (.idx A5 (.mth .index (.comp (.idx A4 A2) 1 .plain [A4] none) A6))]⟩
noncomputable def Mj:Fd:=⟨3,9,[.asg 3 (.idx A4 A3),
  .asg 4 (.idx A7 (.bin .mod (.bin .fdiv A5 B9) (.blt .len A7))),
  .asg 5 (.bin .mod A5 B9),
  .ite (.land (.cmp .gt A6 A3) (.cmp .gt B0 B2)) [.asg 6 (.comp (.call "_law_test" [A5,.bin .fdiv (.call "_law_drawn" [A6,A4]) B2,.bin .sub A7 A3]) 1 .plain [.tup [A3,A8]] none),
  .ret (.idx (.lst [.tup [H7,.idx B3 A2],.tup [H8,.idx B3 A2,.idx B3 A3],.tup [H0,.idx B3 A2,.idx B3 A3]]) (.bin .sub B0 C2))] [],
  .ite (.cmp .eq B0 A2) [.ret (.tup [H4,.idx A9 A2])] [],
  .asg 7 (.comp (.idx A4 A2) 1 .plain [A7] (some (.cmp .eq (.idx A4 A3) (.idx B0 A3)))),
  .ite (.cmp .eq B0 A3) [.ret (.tup [H5,.idx A9 A2,.idx B6 (.bin .mod (.bin .fdiv A5 C4) (.blt .len B6))])] [],
  .asg 8 (.idx (.lst [.tup [A2,A3,A8,B1,.neg C2,.cst (.int 999)],.tup [.cst (.str ""),I5,.cst (.str "b"),.cst (.str "ab"),.cst (.str "x9"),.cst (.str "zzzzzz")]]) (.blt .toInt (.cmp .eq (.idx A9 A3) D7))),
  .ret (.tup [H1,.idx A9 A2,.idx B7 (.bin .mod (.bin .fdiv A5 C4) C5)])]⟩
noncomputable def Nl:Fd:=⟨2,10,[.asg 2 (.tup [D8,D8,D7,D8,D7,D8]),
  .asg 3 (.lst [.tup [H3,.idx A6 (.bin .mod A5 C5),B5]]),
  .loop [4,5] .enum [.tup [.cst (.str "n"),.cst (.str "t"),.cst (.str "u")]] [.asg 6 (.bin .fdiv (.call "_law_drawn" [A5,.bin .add (.cst (.int 10)) A9]) B2),
  .ite (.cmp .gt (.bin .mod B3 B2) A2) [.app 3 (.tup [B0,.idx A6 (.bin .mod (.bin .fdiv B3 B2) C5),.cmp .gt (.bin .mod (.bin .fdiv B3 (.cst (.int 32))) B1) A2])] []],
  .asg 7 (.comp (.idx A4 A2) 1 .plain [A7] (some (.lnot (.tru (.idx A4 A8))))),
  .asg 8 (.tup [H3]),
  .ite (.land (.cmp .eq (.bin .mod (.bin .fdiv A5 B9) B2) A2) (.cmp .gt (.blt .len B6) A3)) [.asg 8 (.idx (.lst [.tup [H3,.idx B6 A3],.tup [.idx B6 A3,H3]]) (.bin .mod (.bin .fdiv A5 (.cst (.int 32))) A8))] [],
  .asg 9 (.bin .mod (.bin .fdiv A5 C4) (.blt .len A7)),
  .ret (.tup [A4,.blt .toTuple (.bin .add (.sli A7 (some C8) none) (.sli A7 none (some C8))),B7,.tup []])]⟩
noncomputable def Rh:Fd:=⟨2,6,[.asg 2 (.lst [.tup []]),
  .loop [3] .plain [A5] [.asg 4 (.lst []),
  .loop [5] .plain [A6] [.asg 4 (.bin .add A9 (.comp (.bin .add B3 (.tup [.idx A4 A2])) 1 .plain [.idx A4 A3] (some (.land (.cmp .eq (.idx A4 A3) A9) (.cmp .notin (.idx A4 A2) B3)))))],
  .asg 2 A9],
  .ret A6]⟩
noncomputable def Qs:Fd:=⟨3,11,[.asg 3 (.idx A4 (.bin .mod (.bin .fdiv A6 B9) (.blt .len A4))),
  .asg 4 (.comp (.idx (.comp (.idx A4 A3) 1 .plain [.idx A9 A3] (some (.cmp .eq (.idx A4 A2) A5))) A2) 1 .plain [.idx A7 A8] none),
  .asg 5 (.call "_law_pairs" [A5,A9]),
  .ite (.land (.cmp .lt (.bin .mod A6 B9) C2) (.cmp .ne B0 (.lst []))) [.asg 6 (.idx B0 (.bin .mod (.bin .fdiv A6 C4) (.blt .len B0))),
  .asg 7 (.idx (.tup [D6,H6,C7,C9,D6,C9]) (.bin .mod (.bin .fdiv A6 I0) C5)),
  .asg 8 (.comp A4 1 .plain [.idx A5 A3] (some (.land (.cmp .isin (.idx A4 A2) B6) (.lnot (.tru (.idx A4 A8)))))),
  .ite (.land (.cmp .ne B7 (.lst [])) (.cmp .eq B6 C9)) [.asg 7 C7] [],
  .ret (.tup [B8,B3,.idx A7 A2,B6])] [],
  .asg 9 (.comp (.idx A4 A2) 1 .plain [.idx A5 A3] none),
  .ite (.cmp .eq (.bin .mod A6 B9) C2) [.asg 10 (.bin .mod (.bin .fdiv A6 C4) (.blt .len C8)),
  .ret (.tup [D5,.sli (.bin .add (.sli C8 (some H2) none) (.sli C8 none (some H2))) none (some (.bin .add A3 (.bin .mod (.bin .fdiv A6 I0) A8)))])] [],
  .ret (.tup [C6,.call "_law_test" [A5,.bin .fdiv A6 C4,.bin .add A3 (.bin .mod (.bin .fdiv A6 I0) B1)]])]⟩
noncomputable def P4:Fd:=⟨1,11,[.asg 1 (.lst [.cst (.str "item"),.cst (.str "user"),.cst (.str "box"),.cst (.str "log")]),
  .asg 2 (.bin .mod A4 B2),
  .asg 1 (.sli (.bin .add (.sli A5 (some A6) none) (.sli A5 none (some A6))) none (some (.idx (.tup [A8,A3,B1,B2,A8,B1]) (.bin .mod (.bin .fdiv A4 B2) C5)))),
  .asg 4 (.comp (.call "_law_bare" [A5,.bin .fdiv (.call "_law_drawn" [A6,A4]) B2]) 2 .enum [A5] none),
  .asg 5 (.tup []),
  .loop [3,6] .enum [A9] [.asg 7 (.bin .fdiv (.call "_law_drawn" [A4,.bin .add (.cst (.int 20)) A7]) B2),
  .asg 8 (.lst []),
  .loop [9] .range [.idx (.tup [A3,A8,A2,A3,B1]) (.bin .mod B6 C2)] [.app 8 (.call "_law_rule" [A9,B3,.bin .fdiv (.call "_law_drawn" [B6,C8]) B2])],
  .asg 10 (.blt .toTuple (.comp (.bin .add (.tup [.idx A4 A2,.blt .toTuple (.idx A4 A3)]) (.sli A4 (some A8) none)) 1 .plain [B7] none)),
  .asg 5 (.bin .add B0 (.tup [.bin .add (.sli B3 none (some B1)) (.tup [H2])]))],
  .ret B0]⟩
noncomputable def Ra:Fd:=⟨2,2,[.ite (.land (.tru (.idx A4 A8)) (.cmp .eq (.bin .mod A5 B2) A2)) [.ret B4] [],
  .ite (.cmp .eq (.idx A4 A3) D7) [.ret (.idx (.lst [I5,.cst (.str "b"),.cst (.str ""),.cst (.str "ab"),I5,.cst (.str "x9")]) (.bin .mod (.bin .fdiv A5 B2) C5))] [],
  .ret (.idx (.lst [A2,A3,A8,B1,A3,A8,B2,.neg C2]) (.bin .mod (.bin .fdiv A5 B2) B9))]⟩
noncomputable def W3:Fd:=⟨2,2,[.ret (.blt .toTuple (.comp (.call "_law_worth" [A5,.bin .fdiv (.call "_law_drawn" [A7,A4]) B2]) 2 .enum [.idx A4 A3] none))]⟩
noncomputable def Od:Fd:=⟨3,6,[.asg 3 (.idx A5 A2),
  .ite (.cmp .eq A7 H7) [.ret (.bin .sub A8 (.call "_law_level" [A4,.idx A5 A3,A6]))] [],
  .ite (.cmp .eq A7 H8) [.ret (.blt .least (.comp (.call "_law_level" [A5,A4,A7]) 1 .plain [.sli A5 (some A3) none] none))] [],
  .ite (.cmp .eq A7 H0) [.ret (.blt .most (.comp (.call "_law_level" [A5,A4,A7]) 1 .plain [.sli A5 (some A3) none] none))] [],
  .asg 4 (.idx A6 (.mth .index (.call "_law_names" [A4]) (.idx A5 A3))),
  .ite (.cmp .eq A7 H4) [.ret (.bin .mul A8 (.blt .toInt (.cmp .isN A9 B4)))] [],
  .asg 5 (.idx A5 A8),
  .ite (.cmp .eq A7 H5) [.asg 5 (.idx A6 (.mth .index (.call "_law_names" [A4]) (.idx A5 A8)))] [],
  .ite (.lor (.cmp .isN A9 B4) (.cmp .isN B0 B4)) [.ret A3] [],
  .ret (.bin .mul A8 (.blt .toInt (.lor (.land (.cmp .eq A7 H1) (.cmp .eq A9 B0)) (.land (.cmp .eq A7 H5) (.cmp .lt A9 B0)))))]⟩
noncomputable def F5(a k:Int):Int:=((a+104729*k+17)*69621%2147483647*((a+104729*k+17)*69621%2147483647)+3*((a+104729*k+17)*69621%2147483647)+k)%2147483629
theorem ag(a:Int):Jm (a%2147483647)=true:=by have h0:=Oe a (show(2147483647:Int)≠0 by decide);have h1:=Np a (show(0:Int)<2147483647 by decide);unfold Jm;rw[Cd (by lia),Cd (by lia)];rfl
theorem Mp(h:P.fn "_law_drawn"=some Ly)(n:Nat)(a k:Int):run P (n+1) "_law_drawn" [.int a,.int k]=some (.int (F5 a k)):=Du (i:=1) h (by refine An (Ay (Ay (Ay (Ay rfl (Ay rfl rfl (Ku (by decide))) rfl) rfl rfl) rfl (Xu (by decide))) rfl (Dz (by decide))) ?_;exact Ar (Ay (Ay (Ay (Ay rfl rfl (Ku (ag _))) (Ay rfl rfl (Ku (by decide))) rfl) rfl rfl) rfl (Dz (by decide))) rfl)
theorem oV{P:Pr}(h:P.fn "_law_cell_at"=some Q6)(n:Nat)(ns:List Int)(k:Nat):∃i:Int,run P (n+1) "_law_cell_at" [.lst (ns.map .int),.int (k:Int)]=some (.int i):=w_1 (i:=0) .int h (by refine Br (q:=decide ((k:Int)<((ns.map T.int).length:Int))) rfl (fun hk=>?_) fun _=>Ar rfl ⟨0,rfl⟩;rw[Aq]at hk;have hk:=Ey hk;exact Ar (Ak rfl rfl (Hw (t:=.int (ns[k]'(by lia))) (by rw[Dm,Dw (by lia)];rfl))) ⟨_,rfl⟩)
theorem o6(hc:P.fn "_law_cell_at"=some Q6)(h:P.fn "_law_mixed"=some Ro)(n:Nat)(ns:List Int)(k:Nat):∃i:Int,run P (n+2) "_law_mixed" [.lst (ns.map .int),.int (k:Int)]=some (.int i):=by obtain⟨c,e⟩:=oV hc n ns k;refine w_1 (i:=1) .int h ?_;refine An (Ay (Ay (Ay (Ay (Al e rfl) (Ay rfl rfl (Ku (by decide))) rfl) rfl rfl) rfl (Xu (by decide))) rfl (Dz (by decide))) ?_;exact Ar (Ay (Ay (Ay (Ay rfl rfl (Ku (ag _))) (Ay rfl rfl (Ku (by decide))) rfl) rfl rfl) rfl (Dz (by decide))) ⟨_,rfl⟩
theorem Hh{α:Type}(enc:α->T)(cs:List α)(h:cs≠[])(i:Int){m:Int}(hm:m=(cs.length:Int)):∃c∈cs,Fo (cs.map enc) (i%m)=some (enc c):=hm▸cA h i
section
variable {G:Glo}{ρ:Env}
structure Col where
 n:Str
 k:Str
 g:Bool
noncomputable def Col.t(c:Col):T:=.tup [.str c.n,.str c.k,.bl c.g]
noncomputable def Nv(nm:Str)(cs:List Col)(key:List Str)(rules:List T):T:=.tup [.str nm,.tup (cs.map Col.t),.tup (key.map .str),.tup rules]
structure Fk(cs:List Col)(key:List Str):Prop where
 cl:cs.length<=4
 cn:cs≠[]
 nd:(cs.map (·.n)).Nodup
 k1:key.length<=2
 kn:key≠[]
 kg:∀x∈key,∃c∈cs,c.n=x/\c.g=false
theorem Zp(xs:List T)(b:Nat)(h:b<=xs.length):cut xs (some (b:Int)) none=xs.drop b:=by
 unfold cut Bg;have e:min ((b:Int)).toNat xs.length=b:=by lia
 simp only[show ¬((b:Int)<0) by lia,if_false,e];rw[List.take_of_length_le];simp
theorem Nw(xs:List T)(j:Nat):cut xs none (some (j:Int))=xs.take j:=by
 unfold cut Bg;simp only[show ¬((j:Int)<0) by lia,if_false,Int.toNat_natCast,Nat.sub_zero,List.drop_zero];by_cases h:j<=xs.length
 .rw[Nat.min_eq_left h]
 .rw[Nat.min_eq_right (by lia),List.take_of_length_le (by lia),List.take_of_length_le (by lia)]
def Iu{α:Type}(cs:List α)(b:Nat):List α:=cs.drop b++cs.take b
theorem Wj{α:Type}(cs:List α)(b:Nat):(Iu cs b).Perm cs:=by
 have:=List.perm_append_comm (l₁:=cs.drop b) (l₂:=cs.take b)
 rwa[List.take_append_drop]at this
theorem Qz{e:E}{t:T}(h:Ac G e ρ=some t):E5 G (some e) ρ=some (some t):=by rw[E5,h];rfl
theorem Rg{x:E}{lo hi:a7 E}{t u:T}{l h:a7 T}{l' h':a7 Int}(e:Ac G x ρ=some t)(e1:E5 G lo ρ=some l)(e2:E5 G hi ρ=some h)(k:Wi t l' h'=some u)(q1:Lg l=some l':=by rfl)(q2:Lg h=some h':=by rfl):Ac G (.sli x lo hi) ρ=some u:=by rw[Ac,e,e1,e2];simp only[xbs,q1,q2,k]
theorem S8{x y:E}{α:Type}(enc:α->T)(cs:List α){b:Nat}(hx:Ac G x ρ=some (.lst (cs.map enc)))(hy:Ac G y ρ=some (.int (b:Int)))(hb:b<=cs.length)(hl:cs.length<=1000):Ac G (.bin .add (.sli x (some y) none) (.sli x none (some y))) ρ=some (.lst ((Iu cs b).map enc)):=by
 have:=Ci;refine Ay (u:=.lst ((cs.map enc).drop b)) (v:=.lst ((cs.map enc).take b)) ?_ ?_ ((N2 (by simp;lia)).trans (by rw[Iu,List.map_append,List.map_drop,List.map_take]))
 .exact Rg hx (l:=some (.int (b:Int))) (h:=none) (Qz hy) rfl (Av (fun l=>some (T.lst l)) (Zp _ _ (by rw[Aq];exact hb)))
 .exact Rg hx (l:=none) (h:=some (.int (b:Int))) rfl (Qz hy) (Av (fun l=>some (T.lst l)) (Nw _ _))
theorem Ni(i:Int){n:Nat}(h:0<n):∃b:Nat,i%(n:Int)=(b:Int)/\b<n:=by have h1:=Oe i (show(n:Int)≠0 by lia);have h2:=Np i (show 0<(n:Int) by lia);exact⟨(i%(n:Int)).toNat,by lia,by lia⟩
theorem m9:(["id", "n", "t", "u"]:List Str).Nodup:=by decide +kernel
theorem n9(dr:∀a k,G.call "_law_drawn" [.int a,.int k]=some (.int (F5 a k)))(nm:Str)(k:Int):W G Nl.body (st0 [.str nm,.int k] 8) fun o=>∃p:List Col×List Str,o=.rt (Nv nm p.1 p.2 [])/\Fk p.1 p.2:=by
 have hsz:=Ci;have kd:=fun i=>Hh T.str ["whole", "whole", "text", "whole", "text", "whole"] (by simp) i (m:=6) rfl;obtain⟨k0,_,ek0⟩:=kd k;refine An rfl ?_;refine An (t:=.lst [Col.t ⟨"id",k0,false⟩]) (Kb (Ab (Cg (Ab rfl (Ab (Ak rfl (Ay rfl rfl (Dz (by decide))) ek0) (Ab rfl rfl)))) rfl)) ?_;refine Da [3,4,5,6] (enc:=fun p:Int×Str=>T.tup [.int p.1,.str p.2]) [(0, "n"),(1, "t"),(2, "u")] (fun D zs=>∃(L:List T)(cs:List Col)(a b c:Sl),zs=[.own L,a,b,c]/\L=(⟨"id",k0,false⟩::cs).map Col.t/\(cs.map (·.n)).Sublist (D.map (·.2))) [.own [Col.t ⟨"id",k0,false⟩],.no,.no,.no] rfl rfl rfl ⟨_,[],_,_,_,rfl,rfl,.slnil⟩ (fun D p D2 e zs hI=>?_) fun zs hI=>?_
 .obtain⟨_,cs,a,b,c,rfl,rfl,hs⟩:=hI;obtain⟨kc,_,ekc⟩:=kd (F5 k (10+p.1)/4/4);have hl:cs.length<=4:=by have h1:=hs.length_le;have h2:=Av List.length e;rw[Aq,Aq]at h1;simp at h2;lia
  refine Bv ?_;refine An (Ay (Al (dr k (10+p.1)) (Ab rfl (Ab rfl rfl))) rfl rfl) ?_;generalize F5 k (10+p.1)/4=q at *;refine Br (q:=decide (0<q%4)) rfl (fun _=>?_) fun _=>As ⟨_,rfl,_,cs,_,_,_,rfl,rfl,by rw[Dx];exact hs.trans (List.sublist_append_left _ _)⟩;refine I9 (t:=Col.t ⟨p.2,kc,decide (0<q/32%3)⟩) (Cg (Ab rfl (Ab (Ak rfl (Ay rfl rfl (Dz (by decide))) ekc) (Ab rfl rfl)))) rfl (by simp;lia) ?_;exact As (As ⟨_,rfl,_,cs++[⟨p.2,kc,decide (0<q/32%3)⟩],_,_,_,rfl,by simp,by rw[List.map_append,List.map_append];exact hs.append (.refl _)⟩)
 .obtain⟨_,cs,a,b,c,rfl,rfl,hs⟩:=hI;have hC:(((⟨"id",k0,false⟩:Col)::cs).map (·.n)).Nodup:=by have h2:(("id":Str)::cs.map (·.n)).Sublist ["id", "n", "t", "u"]:=hs.cons₂ _;exact h2.nodup m9
  have hl:cs.length<=3:=by have:=hs.length_le;rwa[Aq]at this
  have hi:(⟨"id",k0,false⟩:Col)∈(⟨"id",k0,false⟩:Col)::cs:=.head _;have hCl:((⟨"id",k0,false⟩:Col)::cs).length<=4:=by rw[Eb];lia
  have hCp:0<((⟨"id",k0,false⟩:Col)::cs).length:=Nat.succ_pos _;generalize(⟨"id",k0,false⟩:Col)::cs=C at *;refine w_nz ?_;refine An (js:=[3]) (t:=.lst ((C.filter fun c=>!c.g).map fun c=>T.str c.n)) (Fy (enc:=Col.t) (R:=C) (fun c=>!c.g) (fun c=>T.str c.n) rfl (Nz (by rw[Aq];lia)) fun c _=>⟨_,rfl,rfl,fun _=>rfl⟩) ?_;refine An (t:=.tup ([("id":Str)].map .str)) rfl ?_;have hpl:∀c∈C.filter fun c=>!c.g,c∈C/\c.g=false:=fun c hc=>by simpa using De.mp hc
  generalize C.filter (fun c=>!c.g)=pl at *;obtain⟨by_,eb,hb⟩:=Ni (k/64) hCp;have fin:∀key:List Str,key.length<=2->key≠[]->(∀x∈key,∃c∈C,c.n=x/\c.g=false)->W G (Nl.body.drop 6) [.val (.str nm),.val (.int k),.val (.tup [.str "whole",.str "whole",.str "text",.str "whole",.str "text",.str "whole"]),.val (.lst (C.map Col.t)),a,b,c,.val (.lst (pl.map fun c=>T.str c.n)),.val (.tup (key.map .str)),.no] fun o=>∃p:List Col×List Str,o=.rt (Nv nm p.1 p.2 [])/\Fk p.1 p.2:=fun key h1 h2 h3=>by
   refine An (t:=.int (by_:Int)) (Ay rfl (Ct (t:=.int (C.length:Int)) rfl (Av (fun n:Nat=>some (T.int n)) (Aq _))) ((Dz (by lia)).trans (by rw[eb]))) ?_;have rp:=Wj C by_;refine Ar (Cg (Ab rfl (Ab (Ct (S8 Col.t C rfl rfl (by lia) (by lia)) rfl) (Ab rfl (Ab rfl rfl))))) ⟨(Iu C by_,key),rfl,by rw[rp.length_eq];exact hCl,fun z=>?_,(rp.map _).nodup_iff.mpr hC,h1,h2,fun x hx=>?_⟩
   .have z:Iu C by_=[]:=z;have:=rp.length_eq;rw[z]at this;simp at this;lia
   .obtain⟨c,hc,e⟩:=h3 x hx;exact⟨c,rp.mem_iff.mpr hc,e⟩
  refine Br (q:=(k/8%4==0)&&decide ((1:Int)<((pl.map fun c=>T.str c.n).length:Int))) (Dj rfl fun _=>rfl) (fun q=>?_) fun _=>fin ["id"] (by simp) (by simp) fun x hx=>⟨_,hi,by rw[omg hx],rfl⟩;rw[Cy,K8,Aq]at q;obtain⟨c1,h1⟩:∃c1,pl[1]?=some c1:=⟨_,Dw (by lia)⟩;have e1:Fo (pl.map fun c=>T.str c.n) 1=some (.str c1.n):=Hw (k:=1) (by rw[Dm,h1];rfl);obtain⟨key,hk,ek⟩:=Hh (fun ks:List Str=>T.tup (ks.map .str)) [["id",c1.n],[c1.n, "id"]] (by simp) (k/32) (m:=2) rfl;refine An (Ak (Kb (Ab (Cg (Ab rfl (Ab (Ak rfl rfl e1) rfl))) (Ab (Cg (Ab (Ak rfl rfl e1) (Ab rfl rfl))) rfl))) (Ay rfl rfl (Dz (by decide))) ek) ?_;have hc1:=hpl c1 (Ee h1);have all:∀x∈key,x="id"\/x=c1.n:=fun x hx=>by
   rcases omc hk with rfl|hk
   .simpa using hx
   .rw[omg hk]at hx;simpa[or_comm]using hx
  refine As (fin key ?_ (fun z=>?_) fun x hx=>?_)
  .rcases omc hk with rfl|hk
   .simp
   .rw[omg hk];simp
  .rcases omc hk with rfl|hk
   .simp at z
   .rw[omg hk]at z;simp at z
  .rcases all x hx with rfl|rfl
   .exact⟨_,hi,rfl,rfl⟩
   .exact⟨_,hc1.1,rfl,hc1.2⟩
end
inductive Tst where
 |emp (c:Str)|bel (a b:Str)|isV (c:Str) (v:T)|neg (t:Tst)|cnj (a b:Tst)|dsj (a b:Tst)
def Tst.t:Tst->T
 |.emp c=>.tup [.str "empty",.str c]
 |.bel a b=>.tup [.str "below",.str a,.str b]
 |.isV c v=>.tup [.str "is",.str c,v]
 |.neg t=>.tup [.str "not",t.t]
 |.cnj a b=>.tup [.str "and",a.t,b.t]
 |.dsj a b=>.tup [.str "or",a.t,b.t]
def Tst.ok(cs:List Col):Nat->Tst->Prop
 |0,_=>False
 |d+1,t=>(match t with
  |.emp c=>∃o∈cs,o.n=c
  |.bel a b=>∃o∈cs,∃p∈cs,o.n=a/\p.n=b/\o.k=p.k
  |.isV c v=>(∃o∈cs,o.n=c)/\F6 v=true
  |.neg t=>t.ok cs d
  |.cnj a b=>a.ok cs d/\b.ok cs d
  |.dsj a b=>a.ok cs d/\b.ok cs d)
theorem Tst.up{cs:List Col}:∀{d:Nat}{t:Tst},t.ok cs d->t.ok cs (d+1)
 |d+1,t,h=>by
  cases t with
  |neg t=>exact Tst.up (d:=d) (t:=t) h
  |cnj a b=>exact⟨Tst.up (d:=d) (t:=a) h.1,Tst.up (d:=d) (t:=b) h.2⟩
  |dsj a b=>exact⟨Tst.up (d:=d) (t:=a) h.1,Tst.up (d:=d) (t:=b) h.2⟩
  |_=>exact h
noncomputable def Js(nm:T)(cs:List Col)(key rules:T):T:=.tup [nm,.tup (cs.map Col.t),key,rules]
theorem qE{G:Glo}{cs:List Col}(hl:cs.length<=4)(hne:cs≠[])(dr:∀a k,G.call "_law_drawn" [.int a,.int k]=some (.int (F5 a k)))(nm key rules:T)(d:Nat)(k D:Int)(hD:D=((d+1:Nat):Int))(sub:1<D->∀k,∃t:Tst,G.call "_law_test" [Js nm cs key rules,.int k,.int (D-1)]=some t.t/\t.ok cs d):W G Mj.body (st0 [Js nm cs key rules,.int k,.int D] 6) fun o=>∃t:Tst,o=.rt t.t/\t.ok cs (d+1):=by
 have hsz:=Ci;have lc:∀{n:Nat},((cs.map Col.t).length:Int)=n↔(cs.length:Int)=n:=by simp
 obtain⟨c,hc,ec⟩:=Hh Col.t cs hne (k/8) rfl;refine An rfl ?_;refine An (Ak rfl (Ay rfl (Ct (t:=.int (cs.length:Int)) rfl (Av (fun n:Nat=>some (T.int n)) (Aq _))) (Dz (by have:=List.length_pos_iff.mpr hne;lia))) ec) ?_;refine An (Ay rfl rfl (Dz (by decide))) ?_;have h0:=Oe k (show(8:Int)≠0 by decide);have h8:=Np k (show(0:Int)<8 by decide);refine Br (q:=decide (1<D)&&decide (4<k%8)) (Dj rfl fun _=>rfl) (fun q=>?_) fun _=>?_
 .rw[Cy,K8,K8]at q;obtain⟨M,e6,e7,hM⟩:=M5 (G:=G) (e:=.call "_law_test" [.var 1,.bin .fdiv (.call "_law_drawn" [.var 2,.var 0]) (.cst (.int 4)),.bin .sub (.var 3) (.cst (.int 1))]) (n:=1) (k:=.plain) (es:=[.tup [.cst (.int 1),.cst (.int 2)]]) (ρ:=fv [Js nm cs key rules,T.int k,T.int D,T.tup (cs.map Col.t),c.t,T.int (k%8),.no,.no,.no]) (ts:=[.tup [.int 1,.int 2]]) (enc:=T.int) (dec:=Tst.t) (R:=[1,2]) (fun _ t=>t.ok cs d) rfl rfl fun i _=>by obtain⟨t,e,h⟩:=sub q.1 (F5 k i/4);exact⟨t,_,rfl,Al e (Ab rfl (Ab (Ay (Al (dr k i) (Ab rfl (Ab rfl rfl))) rfl rfl) (Ab rfl rfl))),h⟩
  refine An e6 ?_;rcases M with _|⟨⟨_,t1⟩,_|⟨⟨_,t2⟩,_|_⟩⟩<;>first|(simp at e7;done)|skip
  have o1:=hM _ (.head _);have o2:=hM _ (.tail _ (.head _));have fin:∀(t:Tst)(j:Int),k%8-5=j->Fo [.tup [.str "not",t1.t],.tup [.str "and",t1.t,t2.t],.tup [.str "or",t1.t,t2.t]] j=some t.t->t.ok cs (d+1)->_:=fun t j hj e h=>Ar (G:=G) (Q:=Kn G (Mj.body.drop 4) fun o=>∃t:Tst,o=.rt t.t/\t.ok cs (d+1)) (ss:=[]) (τ:=[Js nm cs key rules,T.int k,T.int D,T.tup (cs.map Col.t),c.t,T.int (k%8),T.lst [t1.t,t2.t],.no,.no]) (e:=.idx (.lst [.tup [.cst (.str "not"),.idx (.var 6) (.cst (.int 0))],.tup [.cst (.str "and"),.idx (.var 6) (.cst (.int 0)),.idx (.var 6) (.cst (.int 1))],.tup [.cst (.str "or"),.idx (.var 6) (.cst (.int 0)),.idx (.var 6) (.cst (.int 1))]]) (.bin .sub (.var 5) (.cst (.int 5)))) (Ak rfl rfl (by rw[<-hj]at e;exact e)) ⟨t,rfl,h⟩;rcases(by lia:k%8-5=0\/k%8-5=1\/k%8-5=2)with z|z|z
  .exact fin (.neg t1) _ z rfl o1
  .exact fin (.cnj t1 t2) _ z rfl ⟨o1,o2⟩
  .exact fin (.dsj t1 t2) _ z rfl ⟨o1,o2⟩
 .refine Br (q:=k%8==0) rfl (fun _=>Ar (Cg rfl) ⟨.emp c.n,rfl,c,hc,rfl⟩) fun _=>?_;refine An (t:=.lst ((cs.filter fun o=>o.k==c.k).map fun o=>T.str o.n)) (Fy (enc:=Col.t) (R:=cs) (fun o=>o.k==c.k) (fun o=>T.str o.n) rfl (Fv (by rw[Aq];lia)) fun o _=>⟨_,rfl,rfl,fun _=>rfl⟩) ?_;refine Br (q:=k%8==1) rfl (fun _=>?_) fun _=>?_
  .have hn:cs.filter (fun o=>o.k==c.k)≠[]:=List.ne_nil_of_mem (De.mpr ⟨hc,Gu _⟩);obtain⟨o,ho,eo⟩:=Hh (fun o:Col=>T.str o.n) _ hn (k/64) rfl;have ho:=De.mp ho;have:=List.length_pos_iff.mpr hn;exact Ar (Cg (Ab rfl (Ab rfl (Ab (Ak rfl (Ay rfl (Ct rfl (Av (fun n:Nat=>some (T.int n)) (Aq _))) (Dz (by lia))) eo) rfl)))) ⟨.bel c.n o.n,rfl,c,hc,o,ho.1,rfl,rfl,(Fh ho.2).symm⟩
  .obtain⟨L,hL,fL⟩:∃L:List T,Fo [.tup [.int 0,.int 1,.int 2,.int 3,.int (-5),.int 999],.tup [.str "",.str "a",.str "b",.str "ab",.str "x9",.str "zzzzzz"]] (if c.k==("text":Str)then 1 else 0)=some (.tup L)/\L.length=6/\∀v∈L,F6 v=true:=by
    cases c.k==("text":Str)
    .exact⟨_,rfl,rfl,by decide⟩
    .exact⟨_,rfl,rfl,by decide⟩
   obtain⟨v,hv,ev⟩:=Hh (fun v=>v) L (by intro z;rw[z]at fL;cases fL.1) (k/64) (m:=6) (by rw[fL.1];rfl);rw[List.map_id']at ev;refine An (t:=.tup L) (Ak rfl (Ct (t:=.int (if c.k==("text":Str)then 1 else 0)) (Ap rfl rfl (sw rfl)) rfl) hL) ?_;exact Ar (Cg (Ab rfl (Ab rfl (Ab (Ak rfl (Ay rfl rfl (Dz (by decide))) ev) rfl)))) ⟨.isV c.n v,rfl,⟨c,hc,rfl⟩,fL.2 v hv⟩
theorem c9{P:Pr}(hd:P.fn "_law_drawn"=some Ly)(ht:P.fn "_law_test"=some Mj){cs:List Col}(hl:cs.length<=4)(hne:cs≠[])(nm key rules:T):∀(d n:Nat)(k:Int),∃t:Tst,run P (n+d+2) "_law_test" [Js nm cs key rules,.int k,.int ((d+1:Nat):Int)]=some t.t/\t.ok cs (d+1)
 |d,n,k=>by
  refine Fl Tst.t ht (n:=n+d+1) (qE hl hne (fun a k=>Mp hd (n+d) a k) nm key rules d k _ rfl fun h k=>?_);cases d with
  |zero=>exact absurd h (by decide)
  |succ d=>obtain⟨t,e,h⟩:=c9 hd ht hl hne nm key rules d n k;rw[show((d+1+1:Nat):Int)-1=((d+1:Nat):Int) by lia];exact⟨t,e,h⟩
section
variable {G:Glo}
noncomputable def Cf(xs:List Str):T:=.tup (xs.map .str)
theorem Wx(x:Str)(xs:List Str):Gy (.str x) (.tup (xs.map .str))=some (xs.any fun y=>y==x):=by show(if Do (.str x) (xs.map .str)=true then some ((xs.map T.str).any fun z=>eqT z (.str x))else none)=_;rw[if_pos (show Do (.str x) (xs.map .str)=true from En.mpr fun z hz=>by obtain⟨y,_,rfl⟩:=omm hz;rfl),List.any_map];rfl
theorem Oh(l:List T):Bt .ne (.lst l) (.lst [])=some (.bl (!l.isEmpty)):=by cases l<;>rfl
noncomputable def Rows(cs:List Col)(j:Nat)(ps:List (List Str)):Prop:=ps.length<=4 ^ j/\∀p∈ps,p.length=j/\∀x∈p,∃c∈cs,c.n=x
theorem nF{cs:List Col}(hl:cs.length<=4)(nm key rules:T)(ks:List Str)(hk:ks.length<=2):W G Rh.body (st0 [Js nm cs key rules,.lst (ks.map .str)] 4) fun o=>∃ps,o=.rt (.lst (ps.map Cf))/\Rows cs ks.length ps:=by
 have hsz:=Ci;refine An (t:=.lst ([[]].map Cf)) rfl ?_;refine Da [2,3,4,5] (enc:=T.str) ks (fun D zs=>∃(ps:List (List Str))(s2 b c d:Sl),zs=[s2,b,c,d]/\(s2=.own (ps.map Cf)\/s2=.val (.lst (ps.map Cf)))/\Rows cs D.length ps) [.own ([[]].map Cf),.no,.no,.no] rfl (Hf _) rfl ⟨[[]],_,_,_,_,rfl,.inl rfl,Dn _,fun p hp=>by rw[omg hp];exact⟨rfl,fun x hx=>nomatch hx⟩⟩ (fun D kd D2 e zs hI=>?_) fun zs hI=>?_
 .obtain⟨ps,s2,b,c,d,rfl,h1,h2⟩:=hI;have hD:D.length<=1:=by rw[e]at hk;simp at hk;lia
  have h4:ps.length<=4:=Cr h2.1 (by rcases(by lia:D.length=0\/D.length=1)with z|z<;>rw[z]<;>decide);refine Bv ?_;refine An rfl ?_;have key:∀zs,(∃(L:List T)(qs:List (List Str))(d:Sl),zs=[Sl.own L,d]/\L=qs.map Cf/\qs.length<=4*ps.length/\∀q∈qs,q.length=D.length+1/\∀x∈q,∃c∈cs,c.n=x)->W G [.asg 2 (.var 4)] (Dt [4,5] zs [.val (Js nm cs key rules),.val (.lst (ks.map .str)),.val (.lst (ps.map Cf)),.val (.str kd),.own [],d]) fun o=>∃zs,o=.nx (Dt [2,3,4,5] zs [.val (Js nm cs key rules),.val (.lst (ks.map .str)),.own ([[]].map Cf),.no,.no,.no])/\∃(ps:List (List Str))(s2 b c d:Sl),zs=[s2,b,c,d]/\(s2=.own (ps.map Cf)\/s2=.val (.lst (ps.map Cf)))/\Rows cs (D++[kd]).length ps:=fun zs hI=>by
   obtain⟨_,qs,d,rfl,rfl,q1,q2⟩:=hI;refine w_nz ?_;refine An (js:=[4]) rfl ?_;refine As ⟨_,rfl,qs,_,_,_,_,rfl,.inr rfl,?_,fun q hq=>?_⟩
   .have:=h2.1;rw[By,Ii,Nat.pow_succ];lia
   .rw[By,Ii];exact q2 q hq
  rcases h1 with rfl|rfl<;>refine Da (js:=[2]) [4,5] (enc:=Cf) ps (fun D' zs=>∃(L:List T)(qs:List (List Str))(d:Sl),zs=[.own L,d]/\L=qs.map Cf/\qs.length<=4*D'.length/\∀q∈qs,q.length=D.length+1/\∀x∈q,∃c∈cs,c.n=x) [.own [],d] rfl (Hf _) rfl ⟨_,[],_,rfl,rfl,E9 _,fun q hq=>nomatch hq⟩ (fun D' row D2' e' zs hI=>?_) key <;>
  .obtain⟨_,qs,d,rfl,rfl,q1,q2⟩:=hI;have hr:=h2.2 row (by rw[e'];simp);have hd':D'.length<=4:=by rw[e']at h4;simp at h4;lia
   have hf:=K3 (fun o:Col=>(o.k==kd)&&!(row.any fun y=>y==o.n)) cs;refine Bv ?_;refine An (js:=[4]) (t:=.lst ((qs++(cs.filter fun o=>(o.k==kd)&&!(row.any fun y=>y==o.n)).map fun o=>row++[o.n]).map Cf)) (Ay rfl (Fy (enc:=Col.t) (R:=cs) (fun o=>(o.k==kd)&&!(row.any fun y=>y==o.n)) (fun o=>Cf (row++[o.n])) rfl (Fv (by rw[List.length_map];lia)) fun o _=>⟨_,rfl,Dj (Ap rfl rfl (sw rfl)) fun _=>Ap rfl rfl (by show(Gy _ _).map _=_;rw[Cf,Wx];rfl),fun _=>Ay rfl (Cg (Ab rfl rfl)) ((Mi (by simp;lia)).trans (by simp[Cf]))⟩) ((N2 (by simp;lia)).trans (by rw[List.map_append,List.map_map];rfl))) ?_;refine As ⟨_,rfl,_,_,_,rfl,rfl,?_,fun q hq=>?_⟩
   .simp;lia
   .rcases oma hq with z|z
    .exact q2 q z
    .obtain⟨o,ho,rfl⟩:=omm z;refine⟨by simp[hr.1],fun x hx=>?_⟩;rcases oma hx with y|y
     .exact hr.2 x y
     .exact⟨o,(De.mp ho).1,(omg y).symm⟩
 .obtain⟨ps,s2,b,c,d,rfl,h1,h2⟩:=hI;rcases h1 with rfl|rfl<;>exact w_nz (Ar rfl ⟨ps,rfl,h2⟩)
inductive Rl where
 |ref (cs:List Str) (t w:Str)|unl (cs:List Str)|chk (t:Tst)
def Rl.raw:Rl->T
 |.ref cs t w=>.tup [.str "refers",Cf cs,.str t,.str w]
 |.unl cs=>.tup [.str "unlike",.lst (cs.map .str)]
 |.chk t=>.tup [.str "check",t.t]
def Rl.t:Rl->T
 |.ref cs t w=>.tup [.str "refers",Cf cs,.str t,.str w]
 |.unl cs=>.tup [.str "unlike",Cf cs]
 |.chk t=>.tup [.str "check",t.t]
noncomputable def Rl.ok:Rl->Prop
 |.ref cs _ _=>cs.length<=4
 |.unl cs=>cs.length<=4
 |.chk _=>True
abbrev Vx:List Str:=["along", "stop", "late", "gap", "along", "gap"]
def Rl.fits(ns:List Str)(cs:List Col):Rl->Prop
 |.ref ks t w=>(∀x∈ks,∃c∈cs,c.n=x/\(w="gap"->c.g=true))/\t∈ns/\ks≠[]/\w∈Vx
 |.unl ks=>∀x∈ks,∃c∈cs,c.n=x
 |.chk t=>t.ok cs 3
structure Tb where
 nm:Str
 cs:List Col
 key:List Str
 rs:List Rl
def Tb.t(b:Tb):T:=Nv b.nm b.cs b.key (b.rs.map Rl.t)
structure Tb.ok(b:Tb):Prop extends Fk b.cs b.key where
 rl:b.rs.length<=4
 rs:∀r∈b.rs,r.ok
theorem t0(b:Tb):Cm b.t (.int 0)=some (.str b.nm):=rfl
theorem t1(b:Tb):Cm b.t (.int 1)=some (.tup (b.cs.map Col.t)):=rfl
theorem t2(b:Tb):Cm b.t (.int 2)=some (Cf b.key):=rfl
theorem t3(b:Tb):Cm b.t (.int 3)=some (.tup (b.rs.map Rl.t)):=rfl
theorem Tb.ok.inn{b:Tb}(h:b.ok):∀x∈b.key,∃c∈b.cs,c.n=x:=fun x hx=>let⟨c,h1,h2,_⟩:=h.kg x hx;⟨c,h1,h2⟩
theorem Pf{ρ:Env}{x:E}{α:Type}{enc:α->T}{l:List α}(h:Ac G x ρ=some (.lst (l.map enc))):Ac G (.blt .len x) ρ=some (.int (l.length:Int)):=Ct h (Av (fun n:Nat=>some (T.int n)) (Aq _))
theorem nK{bs:List Tb}{b:Tb}(hb:∀b∈bs,Fk b.cs b.key)(hm:b∈bs)(k:Int)(cp:∀ks:List Str,ks.length<=2->∃ps,G.call "_law_pairs" [b.t,.lst (ks.map .str)]=some (.lst (ps.map Cf))/\Rows b.cs ks.length ps)(ct:∀d:Nat,d<=2->∀k:Int,∃t:Tst,G.call "_law_test" [b.t,.int k,.int ((d+1:Nat):Int)]=some t.t/\t.ok b.cs (d+1)):W G Qs.body (st0 [.lst (bs.map Tb.t),b.t,.int k] 8) fun o=>∃r:Rl,o=.rt r.raw/\r.ok/\r.fits (bs.map (·.nm)) b.cs:=by
 have hsz:=Ci;have bp:=List.length_pos_of_mem hm;have hbo:=hb b hm;have cl:=hbo.cl;obtain⟨g,hg,eg⟩:=Hh Tb.t bs (List.ne_nil_of_mem hm) (k/8) rfl;have hgo:=hb g hg;refine An (Ak rfl (Ay rfl (Pf rfl) (Dz (by lia))) eg) ?_;obtain⟨M,e4,e5,_⟩:=M5 (G:=G) (e:=.idx (.comp (.idx (.var 0) (.cst (.int 1))) 1 .plain [.idx (.var 4) (.cst (.int 1))] (some (.cmp .eq (.idx (.var 0) (.cst (.int 0))) (.var 1)))) (.cst (.int 0))) (n:=1) (k:=.plain) (es:=[.idx (.var 3) (.cst (.int 2))]) (ρ:=fv [.val (.lst (bs.map Tb.t)),.val b.t,T.int k,.val g.t,.no,.no,.no,.no,.no,.no,.no]) (enc:=T.str) (dec:=T.str) (R:=g.key) (fun _ _=>True) (Ab (Ak rfl rfl (t2 g)) rfl) (Fv (by have:=hgo.k1;rw[Aq];lia)) fun x hx=>by
  obtain⟨c,hc,ec,_⟩:=hgo.kg x hx;have hm:c∈g.cs.filter fun c=>c.n==x:=De.mpr ⟨hc,by rw[ec];exact Gu x⟩;obtain⟨c',r,e⟩:∃c' r,g.cs.filter (fun c=>c.n==x)=c'::r:=by
   cases q:g.cs.filter (fun c=>c.n==x)with
   |nil=>rw[q]at hm;cases hm
   |cons a r=>exact⟨a,r,rfl⟩
  refine⟨c'.k,_,rfl,Ak (Fy (enc:=Col.t) (R:=g.cs) (fun c=>c.n==x) (fun c=>T.str c.k) (Ab (Ak rfl rfl (t1 g)) rfl) (Fv (by have:=hgo.cl;rw[Aq];lia)) fun c _=>⟨_,rfl,rfl,fun _=>rfl⟩) rfl (by rw[e];exact Hu _ _),trivial⟩
 have hM:M.length=g.key.length:=by rw[<-e5,Aq]
 rw[show(M.map fun p=>T.str p.2)=(M.map (·.2)).map T.str by rw[Bz];rfl]at e4;refine An e4 ?_;obtain⟨ps,ep,h1,h2⟩:=cp (M.map (·.2)) (by rw[Aq,hM];exact hgo.k1);refine An (Al ep rfl) ?_;refine Br (q:=decide (k%8<5)&&!(ps.map Cf).isEmpty) (Dj rfl fun _=>Ap rfl rfl (Oh _)) (fun q=>?_) fun _=>?_
 .have hn:ps≠[]:=fun z=>by rw[z]at q;simp at q
  have pp:=List.length_pos_iff.mpr hn;obtain⟨p,hp,e6⟩:=Hh Cf ps hn (k/64) rfl;obtain⟨w,hw,e7⟩:=Hh T.str ["along", "stop", "late", "gap", "along", "gap"] (by simp) (k/1024) (m:=6) rfl;refine An (Ak rfl (Ay rfl (Pf rfl) (Dz (by lia))) e6) ?_;refine An (Ak rfl (Ay rfl rfl (Dz (by decide))) e7) ?_;refine An (t:=.lst ((b.cs.filter fun c=>(p.any fun y=>y==c.n)&&!c.g).map Col.t)) (Fy (enc:=Col.t) (R:=b.cs) (fun c=>(p.any fun y=>y==c.n)&&!c.g) Col.t (Ab (Ak rfl rfl (t1 b)) rfl) (Fv (by rw[Aq];lia)) fun c _=>⟨_,rfl,Dj (Ap rfl rfl (by show(Gy _ _).map _=_;rw[Cf,Wx];rfl)) fun _=>rfl,fun _=>rfl⟩) ?_;have hpl:p.length<=4:=by have:=(h2 p hp).1;rw[Aq,hM]at this;have:=hgo.k1;lia
  have hpn:p≠[]:=fun z=>by have:=(h2 p hp).1;rw[z,Aq,hM]at this;exact hgo.kn (List.length_eq_zero_iff.mp this.symm)
  have fin:∀w':Str,w'∈Vx->(w'="gap"->((b.cs.filter fun c=>(p.any fun y=>y==c.n)&&!c.g).map Col.t).isEmpty=true)->∃r:Rl,Out.rt (T.tup [.str "refers",Cf p,.str g.nm,.str w'])=.rt r.raw/\r.ok/\r.fits (bs.map (·.nm)) b.cs:=fun w' hwy hw'=>⟨.ref p g.nm w',rfl,hpl,fun x hx=>by
   obtain⟨c,hc,ec⟩:=(h2 p hp).2 x hx;refine⟨c,hc,ec,fun z=>?_⟩;cases hg:c.g with
   |true=>rfl
   |false=>have e:=hw' z;rw[List.isEmpty_iff,List.map_eq_nil_iff,List.filter_eq_nil_iff]at e;exact absurd (by rw[hg,Bool.not_false,Bool.and_true,List.any_eq_true];exact⟨x,hx,by rw[ec];exact Gu x⟩) (e c hc),Bw.mpr ⟨g,hg,rfl⟩,hpn,hwy⟩
  generalize(b.cs.filter fun c=>(p.any fun y=>y==c.n)&&!c.g).map Col.t=L at *;refine Br (q:=!L.isEmpty&&(w=="gap")) (Dj (Ap rfl rfl (Oh _)) fun _=>Ap rfl rfl (sw rfl)) (fun _=>?_) fun q=>?_
  .refine An rfl ?_;exact As (Ar (Cg (Ab rfl (Ab rfl (Ab (Ak rfl rfl (t0 g)) (Ab rfl rfl))))) (fin "late" (by simp) fun z=>absurd z (by decide +kernel)))
  .exact Ar (Cg (Ab rfl (Ab rfl (Ab (Ak rfl rfl (t0 g)) (Ab rfl rfl))))) (fin w hw fun z=>by rw[z]at q;simpa using q)
 .refine An (t:=.lst (b.cs.map fun c=>T.str c.n)) (Gq (enc:=Col.t) (R:=b.cs) (fun c=>T.str c.n) (Ab (Ak rfl rfl (t1 b)) rfl) (Fv (by rw[Aq];lia)) fun c _=>rfl) ?_;refine Br (q:=k%8==5) rfl (fun _=>?_) fun _=>?_
  .have bp:=List.length_pos_iff.mpr hbo.cn;obtain⟨i,ei,hi⟩:=Ni (k/64) bp;obtain⟨j,ej,hj⟩:=Ni (k/1024) (show 0<2 by decide);replace ej:k/1024%2=(j:Int):=ej;refine An (t:=.int (i:Int)) (Ay rfl (Pf rfl) ((Dz (by lia)).trans (by rw[ei]))) ?_;have hr:=Wj b.cs i;refine Ar (t:=Rl.raw (.unl (((Iu b.cs i).map (·.n)).take (1+j)))) (Cg (Ab rfl (Ab (Rg (S8 (fun c:Col=>T.str c.n) b.cs rfl rfl (by lia) (by lia)) (l:=none) (h:=some (.int (1+(j:Int)))) rfl (Qz (Ay rfl (Ay rfl rfl ((Dz (by decide)).trans (by rw[ej]))) rfl)) (Av (fun l=>some (T.lst l)) ((show cut _ none (some (1+(j:Int)))=cut _ none (some ((1+j:Nat):Int)) by congr 1).trans ((Nw _ _).trans (by rw[List.map_take,Bz];rfl))))) rfl))) ⟨_,rfl,?_,fun x hx=>?_⟩
   .show(List.take _ _).length<=4;simp;lia
   .obtain⟨c,hc,rfl⟩:=omm (W5 hx);exact⟨c,hr.mem_iff.mp hc,rfl⟩
  .obtain⟨j,ej,hj⟩:=Ni (k/1024) (show 0<3 by decide);replace ej:k/1024%3=(j:Int):=ej;obtain⟨t,et,ot⟩:=ct j (by lia) (k/64);refine Ar (t:=Rl.raw (.chk t)) (Cg (Ab rfl (Ab (Al et (Ab rfl (Ab rfl (Ab (Ay rfl (Ay rfl rfl ((Dz (by decide)).trans (by rw[ej]))) (by show some (T.int (1+(j:Int)))=_;congr 2;lia)) rfl)))) rfl))) ⟨_,rfl,trivial,?_⟩;rcases(by lia:j=0\/j=1\/j=2)with rfl|rfl|rfl
   .exact Tst.up (Tst.up ot)
   .exact Tst.up ot
   .exact ot
end
structure Sch(B:List Tb):Prop where
 l4:B.length<=4
 ps:0<B.length
 nd:(B.map (·.nm)).Nodup
 ok:∀b∈B,b.ok
 fit:∀b∈B,∀r∈b.rs,r.fits (B.map (·.nm)) b.cs
theorem Nx{α:Type}(enc:α->T):∀(l:List α)(i:Nat),Fu (l.map enc) i=(l.zipIdx i).map fun p=>T.tup [.int (p.2:Int),enc p.1]
 |[],_=>rfl
 |a::l,i=>by rw[Ba,Fu,Nx enc l (i+1)];rfl
theorem aB{α:Type}{enc:α->T}{l:List α}(h:l.length<=1000){t:T}(e:t=.lst (l.map enc)\/t=.tup (l.map enc)):Ed .enum [t]=some ((l.zipIdx 0).map fun p=>T.tup [.int (p.2:Int),enc p.1]):=by
 have:=Ci;rcases e with rfl|rfl <;>
 .show(some (Fu (l.map enc) 0)).bind _=_;rw[Nx,Bi,if_pos (by rw[Aq,List.length_zipIdx];lia)]
theorem ia(q:Nat)(h:q<=1000):items .range [.int (q:Int)]=some ((List.range q).map fun(i:Nat)=>T.int (i:Int)):=by simp only[items,rangeT,Int.toNat_natCast];rw[if_pos (by lia)]
theorem kW{α:Type}{l:List α}{p:α×Nat}(h:p∈l.zipIdx 0):p.1∈l:=by have:=List.mem_zipIdx' h;rw[this.2];exact Jy _
theorem gy:∀j:Fin 4,∀m:Fin 5,((Iu (["item", "user", "box", "log"]:List Str) j.val).take m.val).Nodup:=by decide +kernel
theorem j5{G:Glo}(k:Int)(dr:∀a k,G.call "_law_drawn" [.int a,.int k]=some (.int (F5 a k)))(cb:∀(nm:Str)(k:Int),∃p:List Col×List Str,G.call "_law_bare" [.str nm,.int k]=some (Nv nm p.1 p.2 [])/\Fk p.1 p.2)(cr:∀(bs:List Tb),(∀b∈bs,Fk b.cs b.key)->∀b∈bs,∀k:Int,∃r:Rl,G.call "_law_rule" [.lst (bs.map Tb.t),b.t,.int k]=some r.raw/\r.ok/\r.fits (bs.map (·.nm)) b.cs):W G P4.body (st0 [.int k] 10) fun o=>∃B:List Tb,o=.rt (.tup (B.map Tb.t))/\Sch B:=by
 have hsz:=Ci;obtain⟨j,ej,hj⟩:=Ni k (show 0<4 by decide);replace ej:k%4=(j:Int):=ej;obtain⟨c,hc,ec⟩:=Hh (fun m:Nat=>T.int (m:Int)) [2,1,3,4,2,3] (by simp) (k/4) (m:=6) rfl;have hc:0<c/\c<5:=(show ∀c∈([2,1,3,4,2,3]:List Nat),0<c/\c<5 by decide) c hc;refine An (t:=.lst ((["item", "user", "box", "log"]:List Str).map .str)) rfl ?_;refine An (t:=.int (j:Int)) (Ay rfl rfl ((Dz (by decide)).trans (by rw[ej]))) ?_;refine An (js:=[1]) (t:=.lst (((Iu (["item", "user", "box", "log"]:List Str) j).take c).map .str)) (Rg (S8 T.str ["item", "user", "box", "log"] rfl rfl (by show j<=4;lia) (by simp)) (l:=none) (h:=some (.int (c:Int))) rfl (Qz (Ak rfl (Ay rfl rfl (Dz (by decide))) ec)) (congrArg (fun l=>some (T.lst l)) ((Nw _ _).trans (by rw[List.map_take])))) ?_;have hN:=gy ⟨j,hj⟩ ⟨c,hc.2⟩;have hl:((Iu (["item", "user", "box", "log"]:List Str) j).take c).length=c:=by rw[Kf,(Wj _ _).length_eq];show min c 4=c;lia
 generalize hNe:(Iu (["item", "user", "box", "log"]:List Str) j).take c=N at *;obtain⟨M,e4,e5,hM⟩:=M5 (G:=G) (e:=.call "_law_bare" [.var 1,.bin .fdiv (.call "_law_drawn" [.var 2,.var 0]) (.cst (.int 4))]) (n:=2) (k:=.enum) (es:=[.var 1]) (ρ:=fv [T.int k,T.lst (N.map .str),T.int (j:Int),.no,.no,.no,.no,.no,.no,.no,.no]) (enc:=fun p:Str×Nat=>T.tup [.int (p.2:Int),.str p.1]) (dec:=Tb.t) (R:=N.zipIdx 0) (fun p b=>b.nm=p.1/\Fk b.cs b.key) rfl (aB (by lia) (.inl rfl)) fun p _=>by obtain⟨q,e,h⟩:=cb p.1 (F5 k p.2/4);exact⟨⟨p.1,q.1,q.2,[]⟩,_,rfl,Al e (Ab rfl (Ab (Ay (Al (dr k p.2) (Ab rfl (Ab rfl rfl))) rfl rfl) rfl)),rfl,h⟩
 have eb:(M.map (·.2)).map (·.nm)=N:=by
  have h1:(M.map (·.2)).map (·.nm)=(M.map (·.1)).map (·.1):=by rw[Bz,Bz];exact L1 fun p hp=>(hM p hp).1
  rw[h1,e5];exact List.zipIdx_map_fst ..
 have hb:∀b∈M.map (·.2),Fk b.cs b.key:=fun b h=>by obtain⟨p,hp,rfl⟩:=omm h;exact(hM p hp).2
 rw[show(M.map fun p=>p.2.t)=(M.map (·.2)).map Tb.t by rw[Bz];rfl]at e4;generalize M.map (·.2)=bs at *;have hbl:bs.length=c:=by rw[<-hl,<-eb,Aq]
 refine An e4 ?_;refine An (t:=.tup (([]:List Tb).map Tb.t)) rfl ?_;refine Da [3,5,6,7,8,9,10] (enc:=fun p:Tb×Nat=>T.tup [.int (p.2:Int),p.1.t]) (bs.zipIdx 0) (fun D zs=>∃(S:List Tb)(a b c d e f:Sl),zs=[a,.val (.tup (S.map Tb.t)),b,c,d,e,f]/\S.map (·.nm)=D.map (·.1.nm)/\∀b∈S,b.ok/\∀r∈b.rs,r.fits N b.cs) [.no,.val (.tup []),.no,.no,.no,.no,.no] rfl (by show some (Fu (bs.map Tb.t) 0)=_;rw[Nx]) rfl ⟨[],_,_,_,_,_,_,rfl,rfl,fun _ h=>nomatch h⟩ (fun D p D2 e zs hI=>?_) fun zs hI=>?_
 .obtain⟨S,s3,s6,s7,s8,s9,s10,rfl,h1,h2⟩:=hI;obtain⟨b,i⟩:=p;have hp:b∈bs:=kW (p:=(b,i)) (by rw[e];simp);have hS:S.length<=4:=by have h3:=Av List.length e;have h4:=Av List.length h1;simp at h3 h4;lia
  obtain⟨q,hq,eq⟩:=Hh (fun m:Nat=>T.int (m:Int)) [1,2,0,1,3] (by simp) (F5 k (20+(i:Int))/4) (m:=5) rfl;have hq:q<=3:=(show ∀c∈([1,2,0,1,3]:List Nat),c<=3 by decide) q hq;refine Bv ?_;refine An (Ay (Al (dr k (20+(i:Int))) rfl) rfl rfl) ?_;generalize F5 k (20+(i:Int))/4=K at *;refine An rfl ?_;refine Da [8,9] (enc:=fun i:Nat=>T.int (i:Int)) (List.range q) (fun D zs=>∃(L:List T)(rs:List Rl)(d:Sl),zs=[.own L,d]/\L=rs.map Rl.raw/\rs.length=D.length/\∀r∈rs,r.ok/\r.fits N b.cs) [.own [],s9] (Ab (Ak rfl (Ay rfl rfl (Dz (by decide))) eq) rfl) (ia q (by lia)) rfl ⟨_,[],_,rfl,rfl,rfl,fun _ h=>nomatch h⟩ (fun D' x D2' e' zs hI=>?_) fun zs hI=>?_
  .obtain⟨_,rs,d,rfl,rfl,r1,r2⟩:=hI;obtain⟨r,er,hr⟩:=cr bs hb b hp (F5 K (x:Int)/4);have hD:D'.length<=3:=by have:=congrArg List.length e';simp at this;lia
   refine Bv ?_;refine I9 (Al er (Ab rfl (Ab rfl (Ab (Ay (Al (dr K (x:Int)) rfl) rfl rfl) rfl)))) rfl (by rw[Aq];lia) ?_;refine As ⟨_,rfl,_,rs++[r],_,rfl,by rw[List.map_append];rfl,by simp[r1],fun y hy=>?_⟩;rcases oma hy with hy|hy
   .exact r2 y hy
   .rw[omg hy];rw[eb]at hr;exact hr
  .obtain⟨_,rs,d,rfl,rfl,r1,r2⟩:=hI;rw[Nc]at r1;refine w_nz ?_;refine An (js:=[8]) (t:=.tup (rs.map Rl.t)) (Ct (Gq (enc:=Rl.raw) (R:=rs) Rl.t rfl (Nz (by rw[Aq];lia)) fun r hr=>?_) rfl) ?_
   .cases r with
    |unl cs=>exact Ay (Cg (Ab rfl (Ab (Ct rfl rfl) rfl))) rfl (Mi (by simp[cut,Bg];lia))
    |chk t=>cases t<;>rfl
    |_=>rfl
   refine An (t:=.tup ((S++[(⟨b.nm,b.cs,b.key,rs⟩:Tb)]).map Tb.t)) (Ay rfl (Cg (Ab rfl rfl)) ((Mi (by simp;lia)).trans (by rw[List.map_append];rfl))) ?_;refine As ⟨_,rfl,_,_,_,_,_,_,_,rfl,by rw[Dx,Dx,h1];rfl,fun x hx=>?_⟩;rcases oma hx with hx|hx
   .exact h2 x hx
   .rw[omg hx];exact⟨⟨hb b hp,by show rs.length<=4;lia,fun r hr=>(r2 r hr).1⟩,fun r hr=>(r2 r hr).2⟩
 .obtain⟨S,s3,s6,s7,s8,s9,s10,rfl,h1,h2⟩:=hI;have hn:S.map (·.nm)=N:=by rw[h1,show(bs.zipIdx 0).map (·.1.nm)=((bs.zipIdx 0).map Prod.fst).map (·.nm) by rw[Bz];rfl,List.zipIdx_map_fst];exact eb
  have hS:S.length=c:=by rw[<-hl,<-hn,Aq]
  exact Ar rfl ⟨S,rfl,by lia,by lia,by rw[hn];exact hN,fun b hb=>(h2 b hb).1,fun b hb=>by rw[hn];exact(h2 b hb).2⟩
theorem lG{P:Pr}(hd:P.fn "_law_drawn"=some Ly)(ht:P.fn "_law_test"=some Mj)(hp:P.fn "_law_pairs"=some Rh)(hr:P.fn "_law_rule"=some Qs)(hb:P.fn "_law_bare"=some Nl)(h:P.fn "_law_schema"=some P4)(n:Nat)(k:Int):∃B:List Tb,run P (n+7) "_law_schema" [.int k]=some (.tup (B.map Tb.t))/\Sch B :=
 Fl (fun B:List Tb=>T.tup (B.map Tb.t)) h (j5 k (fun a k=>Mp hd (n+5) a k) (fun nm k=>Fl (fun p:List Col×List Str=>Nv nm p.1 p.2 []) hb (n9 (fun a k=>Mp hd (n+4) a k) nm k))
  fun bs hbs b hm k=>Fl Rl.raw hr (nK hbs hm k (fun ks hk=>Fl (fun ps:List (List Str)=>T.lst (ps.map Cf)) hp (nF (hbs b hm).cl (.str b.nm) (.tup (b.key.map .str)) (.tup (b.rs.map Rl.t)) ks hk)) fun d hd' k=>by have:=c9 hd ht (hbs b hm).cl (hbs b hm).cn (.str b.nm) (.tup (b.key.map .str)) (.tup (b.rs.map Rl.t)) d (n+3-d) k;rw[show n+3-d+d+2=n+5 by lia]at this;exact this))
structure Ord(n:Nat)(P:T->Prop):Prop where
 eq:∀{x y},P x->P y->(eqT x y=true↔x=y)
 tot:∀{x y b},P x->P y->x≠y->E1 x y=some b->E1 y x=some (!b)
 tr:∀{x y z},P x->P y->P z->E1 x y=some true->E1 y z=some true->E1 x z=some true
 dp:∀{x y},P x->P y->Bc x y<=n
section
variable {P:T->Prop}{n:Nat}(O:Ord n P)
include O
theorem Ord.eqs:∀{xs ys:List T},(∀x∈xs,P x)->(∀y∈ys,P y)->(eqTs xs ys=true↔xs=ys)
 |[],[],_,_=>by simp[eqTs]
 |[],_::_,_,_=>by simp[eqTs]
 |_::_,[],_,_=>by simp[eqTs]
 |x::xs,y::ys,h,k=>by rw[eqTs,Cy,O.eq (h x (.head _)) (k y (.head _)),Ord.eqs (fun z q=>h z (.tail _ q)) fun z q=>k z (.tail _ q),List.cons.injEq]
theorem Ord.tots:∀{xs ys:List T}{b:Bool},(∀x∈xs,P x)->(∀y∈ys,P y)->xs≠ys->Dc xs ys=some b->Dc ys xs=some (!b)
 |[],[],_,_,_,n,_=>absurd rfl n
 |[],_::_,b,_,_,_,e=>by rw[Dc]at e;cases e;rw[Dc];rfl
 |_::_,[],b,_,_,_,e=>by rw[Dc]at e;cases e;rw[Dc];rfl
 |x::xs,y::ys,b,h,k,n,e=>by
  rw[Dc]at e ⊢;change(if eqT x y=true then _ else _)=_ at e;show(if eqT y x=true then _ else _)=_;have hx:=h x (.head _);have hy:=k y (.head _);by_cases q:x=y
  .rw[if_pos ((O.eq hx hy).mpr q)]at e;rw[if_pos ((O.eq hy hx).mpr q.symm)];exact Ord.tots (fun z q=>h z (.tail _ q)) (fun z q=>k z (.tail _ q)) (fun w=>n (by rw[q,w])) e
  .rw[if_neg (mt (O.eq hx hy).mp q)]at e;rw[if_neg (mt (O.eq hy hx).mp (Ne.symm q))];exact O.tot hx hy q e
theorem Ord.trs:∀{xs ys zs:List T},(∀x∈xs,P x)->(∀x∈ys,P x)->(∀x∈zs,P x)->Dc xs ys=some true->Dc ys zs=some true->Dc xs zs=some true
 |[],[],_,_,_,_,e,_=>by rw[Dc]at e;cases e
 |_::_,[],_,_,_,_,e,_=>by rw[Dc]at e;cases e
 |_,_::_,[],_,_,_,_,e=>by rw[Dc]at e;cases e
 |[],_::_,_::_,_,_,_,_,_=>by rw[Dc];rfl
 |x::xs,y::ys,z::zs,h,k,l,e,f=>by
  rw[Dc]at e f ⊢;change(if eqT x y=true then _ else _)=_ at e;change(if eqT y z=true then _ else _)=_ at f;show(if eqT x z=true then _ else _)=_;have hx:=h x (.head _);have hy:=k y (.head _);have hz:=l z (.head _);by_cases q:x=y
  .rw[if_pos ((O.eq hx hy).mpr q)]at e;subst q;by_cases r:x=z
   .rw[if_pos ((O.eq hx hz).mpr r)]at f ⊢;exact Ord.trs (fun z q=>h z (.tail _ q)) (fun z q=>k z (.tail _ q)) (fun z q=>l z (.tail _ q)) e f
   .rw[if_neg (mt (O.eq hx hz).mp r)]at f ⊢;exact f
  .rw[if_neg (mt (O.eq hx hy).mp q)]at e;by_cases r:y=z
   .subst r;rw[if_neg (mt (O.eq hx hy).mp q)];exact e
   .rw[if_neg (mt (O.eq hy hz).mp r)]at f;rw[if_neg (mt (O.eq hx hz).mp fun s=>by subst s;rw[O.tot hx hy q e]at f;cases f)];exact O.tr hx hy hz e f
theorem Ord.dps:∀{xs ys:List T},(∀x∈xs,P x)->(∀y∈ys,P y)->Cz xs ys<=n
 |[],_,_,_=>by simp[Cz]
 |_::_,[],_,_=>by simp[Cz]
 |x::xs,y::ys,h,k=>by rw[Cz];exact Nat.max_le.mpr ⟨O.dp (h x (.head _)) (k y (.head _)),Ord.dps (fun z q=>h z (.tail _ q)) fun z q=>k z (.tail _ q)⟩
theorem V2{l:List T}(h20:n<=20)(hl:l.length<=60)(nd:l.Nodup)(hP:∀x∈l,P x)(lt:∀x∈l,∀y∈l,∃b,E1 x y=some b)(kd:(∃n,∀x∈l,∃a r,x=.tup (a::r)/\P5 a=some n)\/∀x∈l,Hc x=true):OkN l:=by
 refine⟨hl,fun x hx y hy=>Cr (O.dp (hP x hx) (hP y hy)) h20,lt,kd,?_,fun x hx y hy z hz e f=>?_⟩
 .refine List.Pairwise.imp_of_mem (fun{x y}hx hy n=>?_) nd;obtain⟨b,e⟩:=lt x hx y hy;unfold cD;rw[e,O.tot (hP x hx) (hP y hy) n e];cases b<;>rfl
 .unfold cD at *;rw[Ki]at *;exact O.tr (hP x hx) (hP y hy) (hP z hz) e f
end
theorem gi{a b:Str}(h:a.cps.toList=b.cps.toList):a=b:=by obtain⟨⟨a⟩⟩:=a;obtain⟨⟨b⟩⟩:=b;cases(show a=b from h);rfl
theorem aZ(h:Bm n x=true):(∃i,x=.int i)\/(∃s,x=.str s)\/∃m xs,n=m+1/\x=.tup xs/\∀z∈xs,Bm m z=true:=by
 cases x with
 |int i=>exact .inl ⟨i,rfl⟩
 |str s=>exact .inr (.inl ⟨s,rfl⟩)
 |tup xs=>cases n with
  |zero=>cases h
  |succ m=>exact .inr (.inr ⟨m,xs,rfl,rfl,fun z hz=>oml h z hz⟩)
 |_=>cases n<;>cases h
theorem U3{R:T->T->Prop}{n:Nat}(ii:∀i j,R (.int i) (.int j))(ss:∀a b,R (.str a) (.str b))(tt:∀m xs ys,n=m+1->(∀z∈xs,Bm m z=true)->(∀z∈ys,Bm m z=true)->R (.tup xs) (.tup ys))(mx:∀x y,x≠y->eqT x y=false->E1 x y=none->Bc x y=0->R x y):∀{x y},Bm n x=true->Bm n y=true->R x y:=fun{x y}hx hy=>by
 rcases aZ hx with⟨i,rfl⟩|⟨a,rfl⟩|⟨m,xs,e,rfl,h⟩<;>rcases aZ hy with⟨j,rfl⟩|⟨b,rfl⟩|⟨m',ys,e',rfl,h'⟩
 .exact ii i j
 .exact mx _ _ (fun h=>by cases h) rfl rfl rfl
 .exact mx _ _ (fun h=>by cases h) rfl rfl rfl
 .exact mx _ _ (fun h=>by cases h) rfl rfl rfl
 .exact ss a b
 .exact mx _ _ (fun h=>by cases h) rfl rfl rfl
 .exact mx _ _ (fun h=>by cases h) rfl rfl rfl
 .exact mx _ _ (fun h=>by cases h) rfl rfl rfl
 .have:m'=m:=by lia
  subst this;exact tt _ xs ys e h h'
theorem Sz(h:Bm n x=true)(k:Bm n y=true)(e:E1 x y=some b):(∃i j,x=.int i/\y=.int j/\b=decide (i<j))\/(∃u v,x=.str u/\y=.str v/\b=decide (u.cps.toList<v.cps.toList))\/∃m xs ys,n=m+1/\x=.tup xs/\y=.tup ys/\(∀z∈xs,Bm m z=true)/\(∀z∈ys,Bm m z=true)/\Dc xs ys=some b:=by
 revert e;refine U3 (n:=n) (R:=fun x y=>E1 x y=some b->(∃i j,x=.int i/\y=.int j/\b=decide (i<j))\/(∃u v,x=.str u/\y=.str v/\b=decide (u.cps.toList<v.cps.toList))\/∃m xs ys,n=m+1/\x=.tup xs/\y=.tup ys/\(∀z∈xs,Bm m z=true)/\(∀z∈ys,Bm m z=true)/\Dc xs ys=some b) (fun i j e=>?_) (fun u v e=>?_) (fun m xs ys e h h' e1=>.inr (.inr ⟨m,xs,ys,e,rfl,rfl,h,h',e1⟩)) (fun x y _ _ e _ z=>by rw[e]at z;cases z) h k
 .cases e;exact .inl ⟨_,_,rfl,rfl,rfl⟩
 .cases e;exact .inr (.inl ⟨_,_,rfl,rfl,rfl⟩)
theorem Jf(n:Nat):Ord n fun x=>Bm n x=true :=
 have O:∀m,n=m+1->Ord m fun x=>Bm m x=true:=fun m e=>Jf m
 {eq:=U3 (R:=fun x y=>eqT x y=true↔x=y) (fun i j=>by simp[eqT]) (fun a b=>by simp[eqT]) (fun m xs ys e h k=>by rw[eqT,T.tup.injEq];exact(O m e).eqs h k) fun x y n e _ _=>by rw[e];simp[n]
  tot:=fun{x y b}hx hy n e=>by
   rcases Sz hx hy e with⟨i,j,rfl,rfl,rfl⟩|⟨u,v,rfl,rfl,rfl⟩|⟨m,xs,ys,e1,rfl,rfl,h,k,e⟩
   .have:i≠j:=fun q=>n (by rw[q]);refine Av (fun b=>some b) ?_;by_cases q:i<j<;>simp[q]<;>lia
   .have hne:u.cps.toList≠v.cps.toList:=fun e=>n (by rw[gi e]);refine Av (fun b=>some b) ?_;by_cases q:u.cps.toList<v.cps.toList
    .rw[Cd q,Lp (List.lt_asymm q)];rfl
    .rw[Lp q,Cd (Classical.byContradiction fun r=>hne (List.le_antisymm (List.not_lt.mp r) (List.not_lt.mp q)))];rfl
   .exact(O m e1).tots h k (fun q=>n (by rw[q])) e
  tr:=fun{x y z}hx hy hz e f=>by
   rcases Sz hx hy e with⟨i,j,rfl,rfl,d⟩|⟨u,v,rfl,rfl,d⟩|⟨m,xs,ys,e1,rfl,rfl,h,k,d⟩<;>rcases Sz hy hz f with⟨j',l,q,rfl,g⟩|⟨v',w,q,rfl,g⟩|⟨m',ys',zs,e2,q,rfl,k',l,g⟩<;>cases q
   .exact Av some (Cd (Int.lt_trans (Ey d.symm) (Ey g.symm)))
   .exact Av some (Cd (List.lt_trans (Ey d.symm) (Ey g.symm)))
   .have:m'=m:=by lia
    subst this;exact(O _ e1).trs h k l d g
  dp:=U3 (R:=fun x y=>Bc x y<=n) (fun _ _=>E9 _) (fun _ _=>E9 _) (fun m xs ys e h k=>by have:=(O m e).dps h k;show Cz xs ys+1<=n;lia) fun x y _ _ _ e=>by rw[e];exact E9 _}
termination_by n
abbrev Kt:=Sum Int (a7 Str)
def Uq:T->a7 Kt
 |.int i=>some (.inl i)
 |.str x=>some (.inr (some x))
 |.non=>some (.inr none)
 |_=>none
def kT:Kt->T
 |.inl i=>.int i
 |.inr (some x)=>.str x
 |.inr none=>.non
def Ai(k:List Kt):T:=.tup (k.map kT)
def Cw(k:List Kt):Prop:=∀x∈k,x≠.inr none
theorem d7(a b:Kt):eqT (kT a) (kT b)=decide (a=b):=by rcases a with i|_|x<;>rcases b with j|_|y<;>simp only[kT,eqT]<;>first|rfl|(simp;done)|(by_cases e:i=j<;>simp[e])|(by_cases e:x=y<;>simp[e])
theorem bg:∀a b:List Kt,eqTs (a.map kT) (b.map kT)=decide (a=b)
 |[],[]=>rfl
 |[],b::bs=>by simp[eqTs]
 |a::as,[]=>by simp[eqTs]
 |a::as,b::bs=>by rw[Ba,Ba,eqTs,d7,bg as bs];simp
theorem Ge(a b:List Kt):eqT (Ai a) (Ai b)=decide (a=b):=by rw[Ai,Ai,eqT,bg]
theorem gB(a b:Kt):Bc (kT a) (kT b)=0:=by rcases a with _|_|_<;>rcases b with _|_|_<;>rfl
theorem bS:∀a b:List Kt,Cz (a.map kT) (b.map kT)=0
 |[],b=>by cases b<;>rfl
 |a::as,[]=>rfl
 |a::as,b::bs=>by rw[Ba,Ba,Cz,gB,bS as bs];rfl
theorem My(a b:List Kt):Bc (Ai a) (Ai b)=1:=by rw[Ai,Ai,Bc,bS]
theorem Km(h:Cw k):Em (Ai k)=true:=by
 show(k.map kT).all (Bm 3)=true;rw[En];intro t ht;obtain⟨x,hx,rfl⟩:=omm ht;rcases x with i|_|x
 .rfl
 .exact absurd rfl (h _ hx)
 .rfl
theorem I7{α:Type}(f:α->Str):∀{l:List α}{a:α},a∈l->(l.map f).Nodup->∃j:Nat,zb0 (.str (f a)) (l.map fun x=>T.str (f x))=some j/\l[j]?=some a/\l.filter (fun x=>f x==f a)=[a]
 |y::l,a,h,nd=>by
  rw[Ba]at nd;obtain⟨n1,n2⟩:=Er.mp nd;rw[Ba,zb0,Gr,show eqT (.str (f y)) (.str (f a))=(f y==f a)from rfl];by_cases e:f y=f a
  .have:a=y:=(omc h).resolve_right fun h=>n1 (Bw.mpr ⟨a,h,e.symm⟩);subst this;exact⟨0,by rw[if_pos (Gu _)],rfl,by rw[if_pos (Gu _),List.filter_eq_nil_iff.mpr fun z hz q=>n1 (Bw.mpr ⟨z,hz,Fh q⟩)]⟩
  .have hb:(f y==f a)=false:=beq_false_of_ne e;obtain⟨j,h1,h2,h3⟩:=I7 f ((omc h).resolve_left fun z=>e (by rw[z])) n2;rw[hb];exact⟨j+1,by rw[if_neg (by decide),h1];rfl,by simpa using h2,by rw[if_neg (by decide)];exact h3⟩
theorem Vm{α:Type}(f:α->Str){l:List α}{a:α}(h:a∈l)(nd:(l.map f).Nodup):∃j:Nat,Fx .index (.lst (l.map fun x=>T.str (f x))) (.str (f a))=some (.int (j:Int))/\l[j]?=some a:=by
 obtain⟨j,h1,h2,_⟩:=I7 f h nd;refine⟨j,?_,h2⟩;have fl:(l.map fun x=>T.str (f x)).all F6=true:=En.mpr fun t ht=>by obtain⟨a,_,rfl⟩:=omm ht;rfl
 simp only[Fx];rw[if_pos (by rw[fl];rfl),h1];rfl
abbrev Row:=List (Col×T)
noncomputable def Wok(c:Col)(w:T):Prop:=w=.non\/((c.k==("text":Str))=true/\∃x,w=.str x)\/((c.k==("text":Str))=false/\∃i,w=.int i)
structure RowOk(b:Tb)(ps:Row):Prop where
 cs:ps.map (·.1)=b.cs
 wk:∀p∈ps,Wok p.1 p.2
 ng:∀p∈ps,p.1.g=false->p.2≠.non
noncomputable def Ah(ps:Row):T:=.tup (ps.map (·.2))
def kk(t:T):Kt:=(Uq t).getD (.inl 0)
noncomputable def val(ps:Row)(x:Str):T:=match ps.filter (fun p=>p.1.n==x)with|p::_=>p.2|[]=>.non
def wK(qa:List Str)(ps:Row):List Kt:=qa.map fun x=>kk (val ps x)
noncomputable def Ca(k:List Kt):Bool:=k.any fun x=>decide (x=.inr none)
def Ag(b:Tb)(ps:Row):List Kt:=wK b.key ps
def Ao(b:Tb)(ps:Row):T:=Ai (Ag b ps)
def Ds(qa:List Str)(ps:Row):T:=if Ca (wK qa ps)=true then .non else Ai (wK qa ps)
theorem ju{c:Col}{w:T}(h:Wok c w):kT (kk w)=w:=by rcases h with rfl|⟨_,x,rfl⟩|⟨_,i,rfl⟩<;>rfl
section
variable {b:Tb}{ps qs:Row}{x:Str}{qa:List Str}
theorem RowOk.at(hb:b.ok)(hp:RowOk b ps)(h:∃c∈b.cs,c.n=x):∃(j:Nat)(p:Col×T),p∈ps/\p.1.n=x/\Fx .index (.lst (b.cs.map fun c=>T.str c.n)) (.str x)=some (.int (j:Int))/\(ps.map (·.2))[j]?=some p.2/\val ps x=p.2:=by
 obtain⟨c,hc,rfl⟩:=h;rw[<-hp.cs]at hc;obtain⟨p,hpm,rfl⟩:=omm hc;have nd:(ps.map (·.1.n)).Nodup:=by have:=hb.nd;rw[<-hp.cs,Bz]at this;exact this
 obtain⟨j,h1,h2⟩:=Vm (fun p:Col×T=>p.1.n) hpm nd;obtain⟨_,_,_,h3⟩:=I7 (fun p:Col×T=>p.1.n) hpm nd;refine⟨j,p,hpm,rfl,by rw[<-hp.cs,Bz];exact h1,by rw[Dm,h2];rfl,by unfold val;rw[h3]⟩
theorem X4(hb:b.ok)(hp:RowOk b ps)(hc:∀x∈qa,∃c∈b.cs,c.n=x):T.tup (qa.map (val ps))=Ai (wK qa ps):=by unfold Ai wK;rw[Bz];refine Av T.tup (L1 fun x hx=>?_);obtain⟨_,p,hpm,_,_,_,e⟩:=hp.at hb (hc x hx);show val ps x=kT (kk (val ps x));rw[e,ju (hp.wk p hpm)]
theorem Nt(hb:b.ok)(hp:RowOk b ps)(hq:RowOk b qs)(hx:x∈b.key):(∃i j:Int,val ps x=.int i/\val qs x=.int j)\/∃u v:Str,val ps x=.str u/\val qs x=.str v:=by
 obtain⟨c,hc,rfl,hg⟩:=hb.kg x hx;have one:∀{rs:Row},RowOk b rs->((c.k==("text":Str))=true/\∃y,val rs c.n=.str y)\/((c.k==("text":Str))=false/\∃i,val rs c.n=.int i):=fun{rs}hr=>by
  obtain⟨_,p,hpm,e1,_,_,e⟩:=hr.at hb ⟨c,hc,rfl⟩;have:p.1∈b.cs:=by rw[<-hr.cs];exact Bw.mpr ⟨p,hpm,rfl⟩
  have ep:p.1=c:=by have h1:=(I7 (·.n) this hb.nd).choose_spec.2.2;have h2:=(I7 (·.n) hc hb.nd).choose_spec.2.2;rw[e1,h2]at h1;exact(List.cons.inj h1).1.symm
  have w:=hr.wk p hpm;rw[e];rw[ep]at w;rcases w with z|z
  .exact absurd z (hr.ng p hpm (by rw[ep];exact hg))
  .exact z
 rcases one hp with⟨h1,u,e1⟩|⟨h1,u,e1⟩<;>rcases one hq with⟨h2,v,e2⟩|⟨h2,v,e2⟩
 .exact .inr ⟨u,v,e1,e2⟩
 .rw[h1]at h2;cases h2
 .rw[h1]at h2;cases h2
 .exact .inl ⟨u,v,e1,e2⟩
theorem La(hb:b.ok)(hp:RowOk b ps):Cw (Ag b ps):=fun y hy z=>by obtain⟨x,hx,rfl⟩:=omm hy;rcases Nt hb hp hp hx with⟨i,_,e,_⟩|⟨u,_,e,_⟩<;>rw[e]at z<;>cases z
theorem Ww(hb:b.ok)(hp:RowOk b ps):Ao b ps=.tup (b.key.map (val ps)):=(X4 hb hp hb.inn).symm
theorem V4(hb:b.ok)(hp:RowOk b ps)(hq:RowOk b qs):∃c,E1 (Ao b ps) (Ao b qs)=some c:=by
 rw[Ww hb hp,Ww hb hq];show ∃c,Dc (b.key.map (val ps)) (b.key.map (val qs))=some c;have:∀ks:List Str,(∀x∈ks,x∈b.key)->∃c,Dc (ks.map (val ps)) (ks.map (val qs))=some c:=by
  intro ks
  induction ks with
  |nil=>intro _;exact⟨_,rfl⟩
  |cons x ks ih=>intro h;obtain⟨c,e⟩:=ih fun y hy=>h y (.tail _ hy);rw[Ba,Ba,Dc];show ∃c,(if eqT (val ps x) (val qs x)=true then Dc (ks.map (val ps)) (ks.map (val qs))else E1 (val ps x) (val qs x))=some c;rw[e];rcases Nt hb hp hq (h x (.head _))with⟨i,j,e1,e2⟩|⟨u,v,e1,e2⟩<;>rw[e1,e2]<;>split<;>exact⟨_,rfl⟩
 exact this b.key fun _ h=>h
theorem lI(hb:b.ok){R:List Row}(hR:∀ps∈R,RowOk b ps)(nd:(R.map (Ag b)).Nodup)(hl:R.length<=60):∃R':List Row,R'.Perm R/\Eo (R.map (Ao b))=some (.lst (R'.map (Ao b))):=by
 have inj:∀{a c:List Kt},Ai a=Ai c->a=c:=fun{a c}e=>by have:=Ge a c;rw[e]at this;have r:=Ge c c;rw[this]at r;simpa using r
 have nd':(R.map (Ao b)).Nodup:=by rw[show R.map (Ao b)=(R.map (Ag b)).map Ai by rw[Bz];rfl];exact List.Pairwise.map _ (fun a c n e=>n (inj e)) nd
 obtain⟨y,r,ek⟩:∃y r,b.key=y::r:=by
  cases q:b.key with
  |nil=>exact absurd q hb.kn
  |cons y r=>exact⟨y,r,rfl⟩
 have ok:OkN (R.map (Ao b)):=V2 (Jf 4) (by lia) (by rw[Aq];exact hl) nd' (fun t ht=>by
  obtain⟨ps,hps,rfl⟩:=omm ht;exact Km (La hb (hR ps hps))) (fun t ht u hu=>by
  obtain⟨ps,hps,rfl⟩:=omm ht;obtain⟨qs,hqs,rfl⟩:=omm hu;exact V4 hb (hR ps hps) (hR qs hqs)) (.inl <|by
  cases R with
  |nil=>exact⟨0,fun t ht=>nomatch ht⟩
  |cons p R=>
   have hy:y∈b.key:=by rw[ek];exact .head _
   have k1:∀t∈(p::R).map (Ao b),∃ps∈p::R,t=.tup (val ps y::r.map (val ps)):=fun t ht=>by obtain⟨ps,hps,rfl⟩:=omm ht;exact⟨ps,hps,by rw[Ww hb (hR ps hps),ek];rfl⟩
   rcases Nt hb (hR p (.head _)) (hR p (.head _)) hy with⟨i,_,e,_⟩|⟨u,_,e,_⟩
   .refine⟨0,fun t ht=>?_⟩;obtain⟨ps,hps,rfl⟩:=k1 t ht;rcases Nt hb (hR p (.head _)) (hR ps hps) hy with⟨_,j,_,e2⟩|⟨_,_,e3,_⟩
    .exact⟨_,_,rfl,by rw[e2];rfl⟩
    .rw[e]at e3;cases e3
   .refine⟨1,fun t ht=>?_⟩;obtain⟨ps,hps,rfl⟩:=k1 t ht;rcases Nt hb (hR p (.head _)) (hR ps hps) hy with⟨_,_,e3,_⟩|⟨_,j,_,e2⟩
    .rw[e]at e3;cases e3
    .exact⟨_,_,rfl,by rw[e2];rfl⟩)
 have pm:=Iq (R.map (Ao b));obtain⟨R',h2,h1⟩:=Th pm rfl;exact⟨R',h1,by unfold Eo;rw[if_pos ok,h2]⟩
theorem Us{q:Row}(hb:b.ok){M:List Row}(h:∀ps∈M,RowOk b ps)(hq:RowOk b q):Bj (M.map (Ao b)) (Ao b q)=true:=by unfold Bj;rw[show Em (Ao b q)=true from Km (La hb hq),(En.mpr fun t ht=>by obtain⟨p,hp,rfl⟩:=omm ht;exact Km (La hb (h p hp)):(M.map (Ao b)).all Em=true)];simp
theorem cH(hb:b.ok):∀(R M:List Row),(∀ps∈M,RowOk b ps)->(∀ps∈R,RowOk b ps)->(M.map (Ag b)).Nodup->∃M':List Row,Hg (R.map fun ps=>.tup [Ao b ps,Ah ps]) (M.map (Ao b)) (M.map Ah)=some (.dic (M'.map (Ao b)) (M'.map Ah))/\(∀ps∈M',RowOk b ps)/\(M'.map (Ag b)).Nodup/\M'.length<=M.length+R.length
 |[],M,h,_,nd=>⟨M,rfl,h,nd,Dn _⟩
 |q::R,M,h,hR,nd=>by
  have hq:=hR q (.head _);have key:∀M:List Row,(M.map (Ag b)).Nodup->(∀ps∈M,RowOk b ps)->∃M':List Row,Ax (M.map (Ao b)) (Ao b q)=M'.map (Ao b)/\Bh (M.map (Ao b)) (M.map Ah) (Ao b q) (Ah q)=M'.map Ah/\(∀ps∈M',RowOk b ps)/\(M'.map (Ag b)).Nodup/\M'.length<=M.length+1/\∀ps∈M',Ag b ps=Ag b q\/∃p∈M,Ag b ps=Ag b p:=by
   intro M
   induction M with
   |nil=>intro _ _;exact⟨[q],rfl,rfl,fun p hp=>by rw[omg hp];exact hq,by simp,Nat.le_refl _,fun p hp=>by rw[omg hp];exact .inl rfl⟩
   |cons p M ih=>
    intro nd h;rw[Ba]at nd;obtain⟨n1,n2⟩:=Er.mp nd;have e:eqT (Ao b p) (Ao b q)=decide (Ag b p=Ag b q):=Ge _ _;rw[Ba,Ba,Bh,Ax,Bq,Ie,e];by_cases z:Ag b p=Ag b q
    .rw[Cd z,Bool.true_or,if_pos rfl,if_pos rfl];refine⟨q::M,by rw[Ba,Ao,Ao,z],rfl,fun x hx=>?_,by rw[Ba,<-z];exact nd,Nat.le_succ _,fun x hx=>?_⟩
     .rcases omc hx with rfl|hx
      .exact hq
      .exact h x (.tail _ hx)
     .rcases omc hx with rfl|hx
      .exact .inl rfl
      .exact .inr ⟨x,.tail _ hx,rfl⟩
    .obtain⟨M',m1,m2,m3,m4,m5,m6⟩:=ih n2 fun x hx=>h x (.tail _ hx);rw[Lp z,Bool.false_or,if_neg (show ¬(false=true)from Fg),m2];refine⟨p::M',?_,rfl,fun x hx=>?_,Er.mpr ⟨fun w=>?_,m4⟩,Nat.succ_le_succ m5,fun x hx=>?_⟩
     .rw[Ba,<-m1];unfold Ax Bq;by_cases w:((M.map (Ao b)).any fun k=>eqT k (Ao b q))=true
      .rw[if_pos w,if_pos w]
      .rw[if_neg w,if_neg w];rfl
     .rcases omc hx with rfl|hx
      .exact h _ (.head _)
      .exact m3 x hx
     .obtain⟨x,hx,ex⟩:=omm w;rcases m6 x hx with y|⟨y,hy,ey⟩
      .exact z (ex.symm.trans y)
      .exact n1 (Bw.mpr ⟨y,hy,by rw[<-ey,ex]⟩)
     .rcases omc hx with rfl|hx
      .exact .inr ⟨_,.head _,rfl⟩
      .rcases m6 x hx with y|⟨y,hy,ey⟩
       .exact .inl y
       .exact .inr ⟨y,.tail _ hy,ey⟩
  obtain⟨M',m1,m2,m3,m4,m5,_⟩:=key M nd h;obtain⟨M2,r1,r2,r3,r4⟩:=cH hb R M' m3 (fun x hx=>hR x (.tail _ hx)) m4;refine⟨M2,?_,r2,r3,by rw[Eb];lia⟩;show(if Bj (M.map (Ao b)) (Ao b q)=true then Hg _ (Ax (M.map (Ao b)) (Ao b q)) (Bh (M.map (Ao b)) (M.map Ah) (Ao b q) (Ah q))else none)=_;rw[if_pos (Us hb h hq),m1,m2];exact r1
theorem bU:∀{M:List Row},(M.map (Ag b)).Nodup->∀q∈M,Aw (M.map (Ao b)) (M.map Ah) (Ao b q)=some (Ah q)
 |p::M,nd,q,hq=>by
  rw[Ba]at nd;obtain⟨n1,n2⟩:=Er.mp nd;rw[Ba,Ba,Aw,show eqT (Ao b p) (Ao b q)=decide (Ag b p=Ag b q)from Ge _ _];rcases omc hq with rfl|hq
  .rw[if_pos (Cd rfl)]
  .rw[if_neg (by simpa using fun e=>n1 (Bw.mpr ⟨q,hq,Eq.symm e⟩))];exact bU n2 q hq
end
theorem eF(h:P.fn "_law_worth"=some Ra)(n:Nat)(c:Col)(k:Int):∃w,run P (n+1) "_law_worth" [c.t,.int k]=some w/\Wok c w/\(c.g=false->w≠.non):=by
 refine O5 (i:=0) (Q:=fun o=>∃w,o=.rt w/\Wok c w/\(c.g=false->w≠.non)) h ?_ fun o ⟨w,e,q⟩=>⟨w,e,q⟩;obtain⟨x,_,ex⟩:=Hh T.str ["a", "b", "", "ab", "a", "x9"] (by simp) (k/4) (m:=6) rfl;obtain⟨i,_,ei⟩:=Hh T.int [0,1,2,3,1,2,4,-5] (by simp) (k/4) (m:=8) rfl;refine Br (q:=c.g&&(k%4==0)) (Dj rfl fun _=>rfl) (fun q=>Ar rfl ⟨.non,rfl,.inl rfl,fun z=>by rw[z]at q;cases q⟩) fun _=>?_;refine Br (q:=c.k==("text":Str)) (Ap rfl rfl (sw rfl)) (fun q=>?_) fun q=>?_
 .exact Ar (Ak rfl (Ay rfl rfl (Dz (by decide))) ex) ⟨_,rfl,.inr (.inl ⟨q,x,rfl⟩),fun _ z=>nomatch z⟩
 .exact Ar (Ak rfl (Ay rfl rfl (Dz (by decide))) ei) ⟨_,rfl,.inr (.inr ⟨q,i,rfl⟩),fun _ z=>nomatch z⟩
section
variable {P:Pr}{G:Glo}{b:Tb}{ps:Row}{qa:List Str}
theorem gQ(hd:P.fn "_law_drawn"=some Ly)(hw:P.fn "_law_worth"=some Ra)(h:P.fn "_law_row"=some W3)(n:Nat)(hb:b.ok)(k:Int):∃ps,run P (n+2) "_law_row" [b.t,.int k]=some (Ah ps)/\RowOk b ps:=by
 refine Fl (i:=0) Ah h (n:=n+1) ?_;obtain⟨M,e1,e2,hM⟩:=M5 (G:=glo P (n+1)) (e:=.call "_law_worth" [.var 1,.bin .fdiv (.call "_law_drawn" [.var 3,.var 0]) (.cst (.int 4))]) (n:=2) (k:=.enum) (es:=[.idx (.var 0) (.cst (.int 1))]) (ρ:=fv (st0 [b.t,T.int k] 0)) (enc:=fun p:Col×Nat=>T.tup [.int (p.2:Int),p.1.t]) (dec:=fun w=>w) (R:=b.cs.zipIdx 0) (fun p w=>Wok p.1 w/\(p.1.g=false->w≠.non)) (Ab (Ak rfl rfl (t1 b)) rfl) (aB (by have:=hb.cl;lia) (.inr rfl)) fun p _=>by obtain⟨w,e,q⟩:=eF hw n p.1 (F5 k p.2/4);exact⟨w,_,rfl,Al e (Ab rfl (Ab (Ay (Al (Mp hd n k p.2) (Ab rfl (Ab rfl rfl))) rfl rfl) rfl)),q⟩
 refine Ar (t:=Ah (M.map fun p=>(p.1.1,p.2))) (Ct e1 (by rw[Ah,Bz];rfl)) ⟨_,rfl,?_,fun q hq=>?_,fun q hq=>?_⟩
 .rw[Bz,show((·.1)∘fun p:(Col×Nat)×T=>(p.1.1,p.2))=(·.1)∘(·.1)from rfl,<-Bz,e2];exact List.zipIdx_map_fst ..
 .obtain⟨p,hp,rfl⟩:=omm hq;exact(hM p hp).1
 .obtain⟨p,hp,rfl⟩:=omm hq;exact(hM p hp).2
theorem R3(h:P.fn "_law_names"=some Md)(n:Nat)(hb:b.ok):run P (n+1) "_law_names" [b.t]=some (.lst (b.cs.map fun c=>T.str c.n)) :=
 have:=Ci
 Du (i:=0) h (Ar (Gq (enc:=Col.t) (R:=b.cs) (fun c=>T.str c.n) (Ab (Ak rfl rfl (t1 b)) rfl) (Fv (by have:=hb.cl;rw[Aq];lia)) fun c _=>rfl) rfl)
theorem Rv{x:E}{ρ:Env}{e:E}(hb:b.ok)(hp:RowOk b ps)(hc:∀x∈qa,∃c∈b.cs,c.n=x)(h4:qa.length<=4)(hx:Ac G x ρ=some (Cf qa))(he:∀y(i:Nat)v,Fx .index (.lst (b.cs.map fun c=>T.str c.n)) (.str y)=some (.int (i:Int))->Cm (Ah ps) (.int (i:Int))=some v->Ac G e (some (.str y)::ρ)=some v):Ac G (.blt .toTuple (.comp e 1 .plain [x] none)) ρ=some (Ai (wK qa ps)):=by have:=Ci;rw[<-X4 hb hp hc];refine Ct (Gq (enc:=T.str) (R:=qa) (val ps) (Ab hx rfl) (Fv (by rw[Aq];lia)) fun y hy=>?_) rfl;obtain⟨j,p,_,_,h1,h2,h3⟩:=hp.at hb (hc y hy);exact he y j _ h1 (by rw[h3];exact Hw h2)
theorem jN(hn:P.fn "_law_names"=some Md)(h:P.fn "_law_key"=some Ul)(n:Nat)(hb:b.ok)(hp:RowOk b ps):run P (n+2) "_law_key" [b.t,Ah ps]=some (Ao b ps) :=
 Du (i:=0) (n:=n+1) h (Ar (Rv hb hp hb.inn (by have:=hb.k1;lia) (Ak rfl rfl (t2 b)) fun _ _ _ h1 h2=>Ak rfl (Kg (Al (R3 hn n hb) rfl) rfl h1) h2) rfl)
theorem S7(k:List Kt):Gy .non (Ai k)=some (Ca k):=by
 have h1:Do .non (k.map kT)=true:=En.mpr fun t ht=>by obtain⟨x,_,rfl⟩:=omm ht;rcases x with _|_|_<;>rfl
 show(if Do .non (k.map kT)=true then some ((k.map kT).any fun z=>eqT z .non)else none)=_;rw[if_pos h1,List.any_map,Ca];congr;funext x;exact d7 x (.inr none)
theorem qb(hn:P.fn "_law_names"=some Md)(h:P.fn "_law_worths"=some W4)(n:Nat)(hb:b.ok)(hp:RowOk b ps)(hc:∀x∈qa,∃c∈b.cs,c.n=x)(h4:qa.length<=4):run P (n+2) "_law_worths" [b.t,Ah ps,Cf qa]=some (Ds qa ps):=by refine Du (i:=1) (n:=n+1) h (An (Rv hb hp hc h4 rfl fun _ _ _ h1 h2=>Ak rfl (Kg (Al (R3 hn n hb) rfl) rfl h1) h2) ?_);refine Ar (Ak (Kb rfl) (Ct (Ap rfl rfl (by rw[Bt,S7];rfl)) rfl) (t:=Ds qa ps) ?_) rfl;unfold Ds;cases Ca (wK qa ps)<;>rfl
theorem bu(h:P.fn "worths_of"=some Ud)(n:Nat)(hb:b.ok)(hp:RowOk b ps)(hc:∀x∈qa,∃c∈b.cs,c.n=x)(h4:qa.length<=4):run P (n+1) "worths_of" [b.t,Ah ps,Cf qa]=some (Ai (wK qa ps)):=by have:=Ci;refine Du (i:=1) h (An (Gq (enc:=Col.t) (R:=b.cs) (fun c=>T.str c.n) (Ab (Ak rfl rfl (t1 b)) rfl) (Fv (by have:=hb.cl;rw[Aq];lia)) fun c _=>rfl) ?_);exact Ar (Rv hb hp hc h4 rfl fun _ _ _ h1 h2=>Ak rfl (Kg rfl rfl h1) h2) rfl
abbrev Zt:=Tb×List Row
noncomputable def Am(Z:List Zt):T:=.tup (Z.map fun z=>z.1.t)
def Cs(z:Zt):T:=.tup (z.2.map Ah)
def Aj(Z:List Zt):T:=.tup (Z.map Cs)
theorem Kr:∀Z:List Zt,Ce (Z.map fun z=>z.1.t) (Z.map Cs)=Z.map fun z=>.tup [z.1.t,Cs z]
 |[]=>rfl
 |z::Z=>by rw[Ba,Ba,Ba,Ce,Kr Z]
theorem Vw{Z:List Zt}{g:Zt}(h:g∈Z)(nd:(Z.map (·.1.nm)).Nodup):(Z.filter fun z=>z.1.nm==g.1.nm)=[g]:=(I7 (fun z:Zt=>z.1.nm) h nd).choose_spec.2.2
theorem nY{Z:List Zt}{z:Zt}(h:P.fn "_law_rows"=some Vq)(n:Nat)(h4:Z.length<=4)(hz:z∈Z)(nd:(Z.map (·.1.nm)).Nodup):run P (n+1) "_law_rows" [Am Z,Aj Z,.str z.1.nm]=some (Cs z):=by have:=Ci;obtain⟨i,h1,h2⟩:=Vm (fun z:Zt=>z.1.nm) hz nd;exact Du (i:=0) h (Ar (Ak rfl (Kg (Gq (enc:=fun z:Zt=>z.1.t) (R:=Z) (fun z=>T.str z.1.nm) rfl (Fv (by rw[Aq];lia)) fun z _=>Ak rfl rfl (t0 _)) rfl h1) (Hw (xs:=Z.map Cs) (by rw[Dm,h2];rfl))) rfl)
theorem oW(h:P.fn "_law_table"=some Ub)(n:Nat){Z:List Zt}(l4:Z.length<=4)(nd:(Z.map (·.1.nm)).Nodup){g:Zt}(hg:g∈Z):run P (n+1) "_law_table" [Am Z,.str g.1.nm]=some g.1.t:=by have:=Ci;refine Du (i:=0) h (Ar (Ak (Fy (enc:=fun z:Zt=>z.1.t) (R:=Z) (fun z=>z.1.nm==g.1.nm) (fun z=>z.1.t) rfl (Fv (by rw[Aq];lia)) fun z _=>⟨_,rfl,Ap (Ak rfl rfl (t0 _)) rfl (sw rfl),fun _=>rfl⟩) rfl ?_) rfl);rw[Vw hg nd];rfl
theorem ip(hb:b.ok)(hp:RowOk b ps)(cn:G.call "_law_names" [b.t]=some (.lst (b.cs.map fun c=>T.str c.n)))(d:Nat)(t:Tst)(ht:t.ok b.cs (d+1))(sub:∀t:Tst,t.ok b.cs d->∃i:Int,G.call "_law_level" [b.t,t.t,Ah ps]=some (.int i)):W G Od.body (st0 [b.t,t.t,Ah ps] 3) fun o=>∃i:Int,o=.rt (.int i):=by
 have two:∀{x:E}{ρ:Env}{v:Bool},Ac G x ρ=some (.bl v)->Ac G (.bin .mul (.cst (.int 2)) (.blt .toInt x)) ρ=some (.int (2*if v then 1 else 0)):=fun h=>Ay rfl (Ct h rfl) (Ku (by decide));have at':∀{x:Str}{e y:E}{ρ:Env},(∃c∈b.cs,c.n=x)->Ac G e ρ=some (.str x)->ρ[0]?=some (some b.t)->ρ[2]?=some (some (Ah ps))->∃(p:Col×T),p∈ps/\p.1.n=x/\Ac G (.idx (.var 2) (.mth .index (.call "_law_names" [.var 0]) e)) ρ=some p.2:=fun hc he h0 h2=>by obtain⟨j,p,h1,h3,h4,h5,_⟩:=hp.at hb hc;exact⟨p,h1,h3,Ak (u:=Ah ps) (by rw[Ac,h2];rfl) (Kg (Al cn (Ab (by rw[Ac,h0];rfl) rfl)) he h4) (Hw h5)⟩
 have isn:∀v:T,∃c,Bt .isN v .non=some (.bl c):=fun v=>by cases v<;>exact⟨_,rfl⟩
 have pair:∀{a c:Tst}{w:Str},a.ok b.cs d->c.ok b.cs d->∃i j:Int,Ac G (.comp (.call "_law_level" [.var 1,.var 0,.var 3]) 1 .plain [.sli (.var 1) (some (.cst (.int 1))) none] none) (fv [.val b.t,T.tup [.str w,a.t,c.t],.val (Ah ps),T.str w,.no,.no])=some (.lst [.int i,.int j]):=fun{a c w}ha hc=>by
  obtain⟨i,ei⟩:=sub a ha;obtain⟨j,ej⟩:=sub c hc;obtain⟨M,e1,e2,hM⟩:=M5 (G:=G) (e:=.call "_law_level" [.var 1,.var 0,.var 3]) (n:=1) (k:=.plain) (es:=[.sli (.var 1) (some (.cst (.int 1))) none]) (ρ:=fv [.val b.t,T.tup [.str w,a.t,c.t],.val (Ah ps),T.str w,.no,.no]) (ts:=[.tup [a.t,c.t]]) (enc:=Tst.t) (dec:=T.int) (R:=[a,c]) (fun _ _=>True) rfl rfl fun t h=>by
   rcases omc h with rfl|h
   .exact⟨i,_,rfl,Al ei rfl,trivial⟩
   .rw[omg h];exact⟨j,_,rfl,Al ej rfl,trivial⟩
  rcases M with _|⟨⟨_,i⟩,_|⟨⟨_,j⟩,_|_⟩⟩<;>first|(simp at e2;done)|exact⟨i,j,e1⟩
 have fin:∀{tt a v:T}{w:Str}{q:Bool},(∀c1 c2,Bt .isN a .non=some (.bl c1)->Bt .isN v .non=some (.bl c2)->(c1||c2)=false->Ac G (.lor (.land (.cmp .eq (.var 3) (.cst (.str "is"))) (.cmp .eq (.var 4) (.var 5))) (.land (.cmp .eq (.var 3) (.cst (.str "below"))) (.cmp .lt (.var 4) (.var 5)))) (fv [.val b.t,.val tt,.val (Ah ps),T.str w,.val a,.val v])=some (.bl q))->W G (Od.body.drop 8) [.val b.t,.val tt,.val (Ah ps),T.str w,.val a,.val v] fun o=>∃i:Int,o=.rt (.int i):=fun{tt a v w q}h=>by obtain⟨c1,e1⟩:=isn a;obtain⟨c2,e2⟩:=isn v;exact Br (Lc (Ap rfl rfl e1) fun _=>Ap rfl rfl e2) (fun _=>Ar rfl ⟨_,rfl⟩) fun z=>Ar (two (h c1 c2 e1 e2 z)) ⟨_,rfl⟩
 cases t with
 |neg t=>obtain⟨i,e⟩:=sub t ht;refine An rfl ?_;exact El rfl (Ar (Ay rfl (Al e rfl) rfl) ⟨_,rfl⟩)
 |cnj a c=>obtain⟨i,j,e⟩:=pair (w:="and") ht.1 ht.2;refine An rfl ?_;refine Bu rfl ?_;exact El rfl (Ar (Ct e rfl) ⟨_,rfl⟩)
 |dsj a c=>obtain⟨i,j,e⟩:=pair (w:="or") ht.1 ht.2;refine An rfl ?_;refine Bu rfl ?_;refine Bu rfl ?_;exact El rfl (Ar (Ct e rfl) ⟨_,rfl⟩)
 |emp x=>refine An rfl ?_;refine Bu rfl ?_;refine Bu rfl ?_;refine Bu rfl ?_;obtain⟨p,_,_,e⟩:=at' (e:=.idx (.var 1) (.cst (.int 1))) (y:=.var 0) ht rfl rfl rfl (ρ:=fv [.val b.t,.val (Tst.emp x).t,.val (Ah ps),T.str "empty",.no,.no]);refine An e ?_;obtain⟨c1,e1⟩:=isn p.2;exact El rfl (Ar (two (Ap rfl rfl e1)) ⟨_,rfl⟩)
 |isV x v=>
  refine An rfl ?_;refine Bu rfl ?_;refine Bu rfl ?_;refine Bu rfl ?_;obtain⟨p,hpm,_,e⟩:=at' (e:=.idx (.var 1) (.cst (.int 1))) (y:=.var 0) ht.1 rfl rfl rfl (ρ:=fv [.val b.t,.val (Tst.isV x v).t,.val (Ah ps),T.str "is",.no,.no]);refine An e ?_;refine Bu rfl ?_;refine An rfl ?_;refine Bu rfl ?_;have hd:Bc p.2 v=0:=by have hv:=ht.2;rcases hp.wk p hpm with z|⟨_,y,z⟩|⟨_,y,z⟩<;>rw[z]<;>cases v<;>first|rfl|cases hv
  exact fin (q:=(true&&eqT p.2 v)||(false&&true)) fun _ _ _ _ _=>Lc (Dj rfl fun _=>Ap rfl rfl (by show(if Bc p.2 v<=30 then _ else none)=_;rw[hd];rfl)) fun _=>Dj rfl fun z=>by cases z
 |bel x y=>
  obtain⟨o,ho,o',ho',rfl,rfl,hk⟩:=ht;refine An rfl ?_;refine Bu rfl ?_;refine Bu rfl ?_;refine Bu rfl ?_;obtain⟨p,hpm,pn,e⟩:=at' (e:=.idx (.var 1) (.cst (.int 1))) (y:=.var 0) ⟨o,ho,rfl⟩ rfl rfl rfl (ρ:=fv [.val b.t,.val (Tst.bel o.n o'.n).t,.val (Ah ps),T.str "below",.no,.no]);refine An e ?_;refine Bu rfl ?_;refine An rfl ?_;obtain⟨q,hqm,qn,e'⟩:=at' (e:=.idx (.var 1) (.cst (.int 2))) (y:=.var 0) ⟨o',ho',rfl⟩ rfl rfl rfl (ρ:=fv [.val b.t,.val (Tst.bel o.n o'.n).t,.val (Ah ps),T.str "below",.val p.2,T.str o'.n]);refine El rfl (An e' (As ?_));have kd:∀{p:Col×T}{o:Col},p∈ps->o∈b.cs->p.1.n=o.n->p.1=o:=fun{p o}h1 h2 h3=>by
   have h0:p.1∈b.cs:=by rw[<-hp.cs];exact Bw.mpr ⟨p,h1,rfl⟩
   have a1:=(I7 (·.n) h0 hb.nd).choose_spec.2.2;have a2:=(I7 (·.n) h2 hb.nd).choose_spec.2.2;rw[h3,a2]at a1;exact(List.cons.inj a1).1.symm
  have w1:=hp.wk p hpm;have w2:=hp.wk q hqm;rw[kd hpm ho pn]at w1;rw[kd hqm ho' qn]at w2;unfold Wok at w1 w2;rw[<-hk]at w2;obtain⟨l,hl⟩:∃l,∀c1 c2,Bt .isN p.2 .non=some (.bl c1)->Bt .isN q.2 .non=some (.bl c2)->(c1||c2)=false->Pi p.2 q.2=some (.bl l):=by
   rcases w1 with z|⟨k1,a,z⟩|⟨k1,a,z⟩<;>rcases w2 with y|⟨k2,c,y⟩|⟨k2,c,y⟩<;>rw[z,y]<;>first
    |(rw[k1]at k2;cases k2;done)
    |exact⟨_,fun _ _ _ _ _=>rfl⟩
    |exact⟨true,fun c1 c2 h1 h2 h3=>by cases h2;rw[Bool.or_true]at h3;cases h3⟩
    |exact⟨true,fun c1 c2 h1 h2 h3=>by cases h1;cases h3⟩
  exact fin (q:=(false&&true)||(true&&l)) fun c1 c2 h1 h2 h3=>Lc (Dj rfl fun z=>by cases z) fun _=>Dj rfl fun _=>Ap rfl rfl (hl c1 c2 h1 h2 h3)
theorem bj(hn:P.fn "_law_names"=some Md)(h:P.fn "_law_level"=some Od)(hb:b.ok)(hp:RowOk b ps):∀(d n:Nat)(t:Tst),t.ok b.cs d->∃i:Int,run P (n+d+1) "_law_level" [b.t,t.t,Ah ps]=some (.int i)
 |d+1,n,t,ht=>w_1 .int h (n:=n+d+1) (ip hb hp (R3 hn (n+d) hb) d t ht fun t ht=>bj hn h hb hp d n t ht)
end
noncomputable def Sa:Fd:=⟨4,11,[.asg 4 (.call "_law_rows" [A4,A5,.idx A6 A2]),
  .ite (.cmp .eq (.idx A7 A2) C6) [.ret (.comp (.call "_law_key" [A7,A4]) 1 .plain [A9] (some (.cmp .eq (.call "_law_level" [A7,.idx A9 A3,A4]) A2)))] [],
  .asg 6 (.comp (.call "_law_worths" [A7,A4,.idx A9 A3]) 1 .plain [A9] none),
  .asg 7 (.lst []),
  .loop [5,8] .zip [A9,B3] [.asg 9 (.land (.cmp .notN B7 B4) (.cmp .gt (.mth .count B3 B7) A3)),
  .ite (.land (.cmp .eq (.idx A7 A2) B8) (.cmp .notN B7 B4)) [.asg 10 (.call "_law_table" [A4,.idx A7 A8]),
  .asg 9 (.cmp .notin B7 (.comp (.call "_law_key" [.var 11,A4]) 1 .plain [.call "_law_rows" [A4,A5,.idx A7 A8]] none))] [],
  .ite (.tru C8) [.app 7 (.call "_law_key" [A6,B0])] []],
  .ret B6]⟩
noncomputable def Vb:Fd:=⟨3,8,[.asg 3 (.lst []),
  .loop [4] .plain [A4] [.loop [5] .plain [.idx A9 B1] [.ite (.land (.cmp .eq (.idx B0 A2) B8) (.cmp .eq (.idx B0 B1) A6)) [.loop [6] .plain [.call "_law_rows" [A4,A5,.idx A9 A2]] [.asg 7 (.call "_law_worths" [A9,B3,.idx B0 A3]),
  .app 3 (.tup [.tup [.idx A9 A2,.call "_law_key" [A9,B3]],.idx B0 A3,.tup [.idx B0 A8,B6]])]] []]],
  .ret A7]⟩
noncomputable def Sv:Fd:=⟨4,12,[.asg 4 (.call "_law_table" [A4,A6]),
  .ite (.cmp .notin A7 (.comp (.call "_law_key" [B0,A4]) 1 .plain [.call "_law_rows" [A4,A5,A6]] none)) [.ret A3] [],
  .asg 5 (.lst [.tup [A6,A7]]),
  .asg 6 (.lst [.tup [A6,A7]]),
  .wloop (.cmp .ne B3 (.lst [])) [.lpop 7 6,
  .loop [8,9,10] .plain [.call "_law_links" [A4,A5,D6]] [.ite (.land (.cmp .eq H2 B6) (.cmp .notin B7 B0)) [.app 5 B7,
  .app 6 B7] []]],
  .loop [8,9,10] .plain [.call "_law_links" [A4,A5,H6]] [.ite (.land (.cmp .isin H2 B0) (.cmp .notin B7 B0)) [.ret C2] []],
  .asg 11 (.comp A4 1 .plain [.call "_law_links" [A4,A5,C9]] (some (.land (.cmp .isin (.idx A4 A8) B3) (.cmp .notin (.idx A4 A2) B3)))),
  .ret (.tup [B0,.var 11])]⟩
noncomputable def U2:Fd:=⟨4,7,[.asg 4 (.call "_law_table" [A4,A6]),
  .asg 5 (.blt .dict (.comp (.tup [.call "_law_key" [B0,A4],A4]) 1 .plain [A7] none)),
  .asg 6 (.blt .toTuple (.comp (.idx B3 A4) 1 .plain [.blt .sorted B0] none)),
  .ret (.blt .toTuple (.comp (.idx (.lst [A5,B7]) (.blt .toInt (.cmp .eq (.idx A4 A2) A9))) 2 .zip [A4,A5] none))]⟩
noncomputable def W1:Fd:=⟨3,6,[.nw 3 (.blt .toList A5),
  .loop [4,5] .plain [A6] [.put 3 (.mth .index (.call "_law_names" [A4]) A9) B0],
  .ret (.blt .toTuple A7)]⟩
noncomputable def Uu:Fd:=⟨4,11,[.loop [4] .plain [A4] [.asg 5 (.lst []),
  .loop [6] .plain [.call "_law_rows" [A4,A5,.idx A9 A2]] [.asg 7 (.tup [.idx A9 A2,.call "_law_key" [A9,B3]]),
  .loop [8,9,10] .plain [A7] [.ite (.cmp .eq B7 B6) [.asg 6 (.call "_law_with" [A9,B3,.comp (.tup [A4,.cst .non]) 1 .plain [C8] none])] []],
  .asg 5 (.bin .add B0 (.bin .mul (.lst [B3]) (.blt .toInt (.cmp .notin B6 A6))))],
  .asg 1 (.call "_law_put" [A4,A5,.idx A9 A2,B0])],
  .ret A5]⟩
noncomputable def X3:Fd:=⟨3,9,[.asg 3 (.idx A6 A3),
  .asg 4 (.call "_law_table" [A4,A7]),
  .asg 5 (.call "_law_rows" [A4,A5,A7]),
  .asg 6 (.comp (.call "_law_key" [B0,A4]) 1 .plain [B0] none),
  .ite (.cmp .eq (.idx A6 A2) H9) [.ite (.cmp .isin (.call "_law_key" [A9,.idx A6 A8]) B3) [.ret A8] [],
  .ret (.call "_law_put" [A4,A5,A7,.bin .add (.blt .toList B0) (.lst [.idx A6 A8])])] [],
  .ite (.cmp .eq (.idx A6 A2) D9) [.asg 7 (.call "_law_going" [A4,A5,A7,.idx A6 A8]),
  .ite (.tru (.isi B6 .tint)) [.ret B6] [],
  .ret (.call "_law_dropped" [A4,A5,.idx B6 A2,.idx B6 A3])] [],
  .ite (.cmp .notin (.idx A6 A8) B3) [.ret A3] [],
  .asg 8 (.mth .index B3 (.idx A6 A8)),
  .ret (.call "_law_put" [A4,A5,A7,.bin .add (.bin .add (.sli B0 none (some B7)) (.tup [.call "_law_with" [A9,.idx B0 B7,.idx A6 B1]])) (.sli B0 (some (.bin .add B7 A3)) none)])]⟩
noncomputable def V1:Fd:=⟨3,9,[.asg 3 (.call "_law_raw" [A4,A5,A6]),
  .ite (.tru (.isi A7 .tint)) [.ret A7] [],
  .dnew 4,
  .loop [5] .plain [A4] [.loop [6] .plain [.idx B0 B1] [.ite (.land (.cmp .ne (.idx B3 (.neg A3)) C7) (.cmp .ne (.call "_law_broken" [A4,A7,B0,B3]) (.lst []))) [.put 4 (.idx B3 A2) C0] []]],
  .loop [7,8] .plain [.tup [.tup [A8,D5],.tup [B1,C6],.tup [B2,B8]]] [.ite (.cmp .isin B7 A9) [.ret B6] []],
  .ret A7]⟩
noncomputable def Uz:Fd:=⟨2,4,[.loop [2] .plain [A4] [.loop [3] .plain [.idx A6 B1] [.ite (.cmp .ne (.call "_law_broken" [A4,A5,A6,A7]) (.lst [])) [.ret C0] []]],
  .ret B5]⟩
noncomputable def Wl:Fd:=⟨3,14,[.asg 3 (.idx A4 (.bin .mod A6 (.blt .len A4))),
  .asg 4 (.call "_law_rows" [A4,A5,.idx A7 A2]),
  .asg 5 (.bin .add (.comp (.call "_law_key" [A9,A4]) 1 .plain [A9] none) (.lst [.call "_law_key" [A7,.call "_law_row" [A7,.bin .fdiv A6 C4]]])),
  .asg 6 (.bin .sub (.blt .len B0) (.blt .toInt (.land (.cmp .gt (.blt .len B0) A3) (.cmp .gt (.bin .mod (.bin .fdiv A6 (.cst (.int 4096))) B9) A2)))),
  .asg 7 (.idx B0 (.bin .mod (.bin .fdiv A6 B2) B3)),
  .asg 8 (.bin .mod (.bin .fdiv A6 (.cst (.int 65536))) B9),
  .asg 10 (.comp A4 1 .plain [.idx A7 A3] (some (.cmp .notin (.idx A4 A2) (.idx A9 A8)))),
  .ite (.lor (.cmp .lt B7 B2) (.land (.cmp .eq B7 I6) (.cmp .eq H2 (.lst [])))) [.ret (.tup [H9,.idx A7 A2,.call "_law_row" [A7,.bin .fdiv (.call "_law_drawn" [A6,I6]) B2]])] [],
  .ite (.lor (.cmp .lt B7 C5) (.cmp .eq H2 (.lst []))) [.ret (.tup [D9,.idx A7 A2,B6])] [],
  .asg 11 (.lst []),
  .loop [12,9] .enum [.sli H2 none (some B1)] [.asg 13 (.bin .fdiv (.call "_law_drawn" [A6,.bin .add (.cst (.int 30)) (.var 12)]) B2),
  .ite (.lor (.cmp .eq (.bin .mod (.var 13) A8) A2) (.cmp .eq (.var 12) A2)) [.app 11 (.tup [.idx C8 A2,.call "_law_worth" [C8,.bin .fdiv (.var 13) B2]])] []],
  .ret (.tup [.cst (.str "set"),.idx A7 A2,B6,.blt .toTuple (.var 11)])]⟩
noncomputable def Vf:Fd:=⟨3,6,[.asg 3 (.blt .toTuple (.comp (.tup []) 1 .plain [A4] none)),
  .loop [4] .range [A6] [.asg 5 (.call "_law_done" [A4,A7,.call "_law_deed" [A4,A7,.bin .fdiv (.call "_law_drawn" [A5,.bin .add (.cst (.int 100)) A9]) B2]]),
  .ite (.land (.lnot (.tru (.isi B0 .tint))) (.lnot (.tru (.call "_law_late" [A4,B0])))) [.asg 3 B0] []],
  .ret A7]⟩
def Rws(b:Tb)(R:List Row):Prop:=(∀ps∈R,RowOk b ps)/\(R.map (Ag b)).Nodup
structure Stn(B:List Tb)(m:Nat)(Z:List Zt):Prop where
 tb:Z.map (·.1)=B
 rw:∀z∈Z,z.2.length<=m/\Rws z.1 z.2
 tot:(Z.map fun z=>z.2.length).sum<=m
theorem Stn.len(h:Stn B m Z):Z.length=B.length:=by rw[<-h.tb,Aq]
theorem Stn.nms(h:Stn B m Z):Z.map (·.1.nm)=B.map (·.nm):=by rw[<-h.tb,Bz];rfl
theorem Stn.mem(h:Stn B m Z)(hz:z∈Z):z.1∈B:=by rw[<-h.tb];exact Bw.mpr ⟨z,hz,rfl⟩
theorem Stn.of(h:Stn B m Z)(hb:b∈B):∃R,(b,R)∈Z:=by rw[<-h.tb]at hb;obtain⟨z,hz,rfl⟩:=omm hb;exact⟨z.2,hz⟩
theorem Stn.sch(h:Stn B m Z):Am Z=.tup (B.map Tb.t):=by rw[Am,<-h.tb,Bz];rfl
theorem Stn.up(h:Stn B m Z)(hk:m<=k):Stn B k Z:=⟨h.tb,fun z hz=>⟨Cr (h.rw z hz).1 hk,(h.rw z hz).2⟩,Cr h.tot hk⟩
theorem O8:∀{B:List Tb},(B.map (·.nm)).Nodup->∀{a b:Tb},a∈B->b∈B->a.nm=b.nm->a=b
 |[],_,_,_,h,_,_=>by cases h
 |c::B,nd,a,b,ha,hb,e=>by
  rw[Ba]at nd;obtain⟨n1,n2⟩:=Er.mp nd;rcases omc ha with e1|ha1
  .rcases omc hb with e2|hb1
   .exact e1.trans e2.symm
   .exact(n1 (Bw.mpr ⟨b,hb1,by rw[<-e,e1]⟩)).elim
  .rcases omc hb with e2|hb1
   .exact(n1 (Bw.mpr ⟨a,ha1,by rw[e,e2]⟩)).elim
   .exact O8 n2 ha1 hb1 e
theorem Pt{Z:List Zt}(nd:(Z.map (·.1.nm)).Nodup){a b:Zt}(ha:a∈Z)(hb:b∈Z)(e:a.1.nm=b.1.nm):a=b:=by have h1:=Vw ha nd;have h2:=Vw hb nd;rw[e,h2]at h1;exact(List.cons.inj h1).1.symm
noncomputable def Gc(Z:List Zt)(x:Str)(R:List Row):List Zt:=Z.map fun z=>if z.1.nm==x then(z.1,R)else z
theorem nA(Z:List Zt)(x:Str)(R:List Row):(Gc Z x R).map (·.1)=Z.map (·.1):=by unfold Gc;rw[Bz];exact L1 fun z _=>by show(if z.1.nm==x then(z.1,R)else z).1=z.1;split<;>rfl
theorem dj{b:Tb}{R R0:List Row}:∀{Z:List Zt},(Z.map (·.1.nm)).Nodup->(b,R0)∈Z->((Gc Z b.nm R).map fun z=>z.2.length).sum+R0.length=(Z.map fun z=>z.2.length).sum+R.length
 |y::Z,nd,hz=>by
  rw[Ba]at nd;obtain⟨n1,n2⟩:=Er.mp nd;rw[Gc,Ba,Ba,Ba,Lz,Lz];rcases omc hz with e|hz
  .subst e;have:(Z.map fun z=>if z.1.nm==b.nm then(z.1,R)else z)=Z:=(L1 fun z hz=>if_neg (by rw[Ki];exact fun e=>n1 (Bw.mpr ⟨z,hz,e⟩))).trans (List.map_id'' (fun _=>rfl) Z);rw[this,if_pos (by simp)];show R.length+_+R0.length=R0.length+_+R.length;lia
  .have ih:=dj (R:=R) n2 hz;rw[Gc]at ih;rw[if_neg (by simpa using fun e=>n1 (Bw.mpr ⟨_,hz,e.symm⟩))];lia
theorem Yi{R0:List Row}(h:Stn B m Z)(nd:(B.map (·.nm)).Nodup)(hb:b∈B)(hk:m<=k)(hl:R.length<=k)(hR:Rws b R)(hz:(b,R0)∈Z)(hR0:R.length+m<=R0.length+k):Stn B k (Gc Z b.nm R):=by
 refine⟨(nA Z b.nm R).trans h.tb,fun z hz=>?_,by have:=dj (R:=R) (by rw[h.nms];exact nd) hz;have:=h.tot;lia⟩;obtain⟨y,hy,rfl⟩:=omm hz;by_cases e:y.1.nm=b.nm
 .rw[if_pos (Ki.mpr e)];have:y.1=b:=O8 nd (h.mem hy) hb e;exact⟨hl,by rw[this];exact hR⟩
 .rw[if_neg (by simpa using e)];exact⟨Cr (h.rw y hy).1 hk,(h.rw y hy).2⟩
theorem fA(Z:List Zt)(x:Str)(R:List Row):(Z.map fun z=>if z.1.nm==x then T.tup (R.map Ah)else Cs z)=(Gc Z x R).map Cs:=by unfold Gc;rw[Bz];exact L1 fun z _=>by show _=Cs (if z.1.nm==x then(z.1,R)else z);split<;>rfl
def Prs(b:Tb)(L:List (Str×T)):Prop:=∀p∈L,∃c∈b.cs,c.n=p.1/\Wok c p.2/\(c.g=false->p.2≠.non)
noncomputable def Jz(p:Str×T):T:=.tup [.str p.1,p.2]
theorem Rq(h:j<n):Gf n (j:Int)=some j:=by unfold Gf;rw[if_pos (by lia),if_pos (by lia)];simp
theorem RowOk.set(h:RowOk b qs)(hj:b.cs[j]?=some c)(h1:Wok c w)(h2:c.g=false->w≠.non):RowOk b (qs.set j (c,w))/\(qs.set j (c,w)).map (·.2)=(qs.map (·.2)).set j w:=by
 refine⟨⟨?_,fun p hp=>?_,fun p hp=>?_⟩,by rw[List.map_set]⟩
 .rw[List.map_set,h.cs];exact List.ext_getElem? fun i=>by
   rw[List.getElem?_set];split
   .rename_i e;subst e;rw[hj];split
    .rfl
    .rename_i hn;exact absurd (ome hj).1 hn
   .rfl
 .rcases List.mem_or_eq_of_mem_set hp with hp|rfl
  .exact h.wk p hp
  .exact h1
 .rcases List.mem_or_eq_of_mem_set hp with hp|rfl
  .exact h.ng p hp
  .exact h2
def lR(b:Tb)(qa:List Str)(g:Str)(ps:Row):T:=.tup [.tup [.str b.nm,Ao b ps],Cf qa,.tup [.str g,Ds qa ps]]
structure Lk where
 b:Tb
 lc:List Str
 g:Str
 ps:Row
def Lk.t(l:Lk):T:=lR l.b l.lc l.g l.ps
noncomputable def Gv(way:Str)(z:Zt):Rl->List Lk
 |.ref qa g w=>if w==way then z.2.map fun ps=>⟨z.1,qa,g,ps⟩else[]
 |_=>[]
def lks(way:Str)(Z:List Zt):List Lk:=Z.flatMap fun z=>z.1.rs.flatMap (Gv way z)
structure Lk.ok(B:List Tb)(way:Str)(l:Lk):Prop where
 b:l.b∈B
 r:Rl.ref l.lc l.g way∈l.b.rs
 p:RowOk l.b l.ps
theorem cJ(h:Stn B m Z)(hl:l∈lks way Z):l.ok B way/\∃z∈Z,z.1=l.b/\l.ps∈z.2:=by
 obtain⟨z,hz,hl⟩:=Eg.mp hl;obtain⟨r,hr,hl⟩:=Eg.mp hl;cases r with
 |ref qa g w=>
  have hl':l∈(if w==way then z.2.map (fun ps=>(⟨z.1,qa,g,ps⟩:Lk))else[]):=hl;clear hl;split at hl'
  .rename_i hw;obtain⟨ps,hps,rfl⟩:=omm hl';have hw:=Fh hw;subst hw;exact⟨⟨h.mem hz,hr,(h.rw z hz).2.1 ps hps⟩,z,hz,rfl,hps⟩
  .cases hl'
 |unl _=>cases hl
 |chk _=>cases hl
theorem L6{α β:Type}{f:α->List β}:∀{l:List α},(∀a∈l,(f a).length<=k)->(l.flatMap f).length<=l.length*k
 |[],_=>by simp
 |a::l,h=>by rw[J0,By,Eb,Nat.add_mul,Nat.one_mul];have h1:=h a J8;have h2:=L6 (l:=l) fun x hx=>h x (G8 _ hx);lia
theorem oh(h:z.2.length<=m)(r:Rl):(Gv way z r).length<=m:=by
 cases r with
 |ref qa g w=>
  show(if w==way then z.2.map (fun ps=>(⟨z.1,qa,g,ps⟩:Lk))else[]).length<=m;split
  .rw[Aq];exact h
  .exact E9 _
 |_=>simp[Gv]
theorem nX{way:Str}{z:Zt}{m:Nat}(hb:z.1.ok)(h:z.2.length<=m):(z.1.rs.flatMap (Gv way z)).length<=4*m :=
 Cr (L6 fun r _=>oh h r) (Nat.mul_le_mul_right _ hb.rl)
theorem bL(H:Sch B)(h:Stn B m Z)(way:Str):(lks way Z).length<=16*m:=by
 have h1:=L6 (l:=Z) (f:=fun z=>z.1.rs.flatMap (Gv way z)) (k:=4*m) fun z hz=>nX (H.ok _ (h.mem hz)) (h.rw z hz).1;have h2:=Nat.mul_le_mul_right (4*m) (show Z.length<=4 by rw[h.len];exact H.l4);have:4*(4*m)=16*m:=by lia
 unfold lks;lia
structure Cls(G:Glo)(B:List Tb)(Z:List Zt):Prop where
 tb:∀b∈B,G.call "_law_table" [Am Z,.str b.nm]=some b.t
 ky:∀b∈B,∀ps,RowOk b ps->G.call "_law_key" [b.t,Ah ps]=some (Ao b ps)
 nm:∀b∈B,G.call "_law_names" [b.t]=some (.lst (b.cs.map fun c=>T.str c.n))
 rw:∀z∈Z,G.call "_law_rows" [Am Z,Aj Z,.str z.1.nm]=some (Cs z)
 wo:∀b∈B,∀ps,RowOk b ps->∀qa:List Str,(∀x∈qa,∃c∈b.cs,c.n=x)->qa.length<=4->G.call "_law_worths" [b.t,Ah ps,Cf qa]=some (Ds qa ps)
noncomputable def Se:Rl->Bool
 |.ref _ _ _=>true
 |_=>false
theorem r0(r:Rl):∃w:Str,Cm r.t (.int 0)=some (.str w)/\(w==("refers":Str))=Se r:=by
 cases r with
 |ref cs t w=>exact⟨"refers",by rw[Rl.t,Cm,Hu],show(("refers":Str)=="refers")=true by decide +kernel⟩
 |unl cs=>exact⟨"unlike",by rw[Rl.t,Cm,Hu],show(("unlike":Str)=="refers")=false by decide +kernel⟩
 |chk t=>exact⟨"check",by rw[Rl.t,Cm,Hu],show(("check":Str)=="refers")=false by decide +kernel⟩
theorem rf1(cs:List Str)(t w:Str):Cm (Rl.ref cs t w).t (.int 1)=some (Cf cs):=by rw[Rl.t,Cm,W7]
theorem rf2(cs:List Str)(t w:Str):Cm (Rl.ref cs t w).t (.int 2)=some (.str t):=by rw[Rl.t,Cm,hH]
theorem rf3(cs:List Str)(t w:Str):Cm (Rl.ref cs t w).t (.int 3)=some (.str w):=by rw[Rl.t,Cm,mU]
theorem Qu(h:(Rl.ref ks t w).fits ns cs):∀x∈ks,∃c∈cs,c.n=x:=fun x hx=>by obtain⟨c,hc,e,_⟩:=h.1 x hx;exact⟨c,hc,e⟩
abbrev Pl:=Str×List Kt
noncomputable def Ad(p:Pl):T:=.tup [.str p.1,Ai p.2]
def Lk.pl(l:Lk):Pl:=(l.b.nm,Ag l.b l.ps)
def Lk.gl(l:Lk):T:=.tup [.str l.g,Ds l.lc l.ps]
theorem N3(a b:Pl):eqT (Ad a) (Ad b)=decide (a=b):=by show(eqT (.str a.1) (.str b.1)&&(eqT (Ai a.2) (Ai b.2)&&true))=_;rw[Ge,Bool.and_true];show((a.1==b.1)&&_)=_;rcases a with⟨a1,a2⟩;rcases b with⟨b1,b2⟩;by_cases e1:a1=b1<;>by_cases e2:a2=b2<;>simp[e1,e2]
theorem Zs(a b:Pl):Bc (Ad a) (Ad b)=2:=by show max 0 (max (Bc (Ai a.2) (Ai b.2)) 0)+1=2;rw[My];rfl
theorem Qy(a:Pl)(g:List Pl):Gy (Ad a) (.lst (g.map Ad))=some (g.any fun x=>decide (x=a)):=by
 show(if Do (Ad a) (g.map Ad)=true then some ((g.map Ad).any fun z=>eqT z (Ad a))else none)=_;rw[if_pos,List.any_map]
 .congr 2;funext x;exact N3 x a
 .unfold Do;rw[List.all_map];exact En.mpr fun x _=>Cd (by show Bc (Ad x) (Ad a)<=30;rw[Zs];decide)
theorem Qi(b:Tb)(R:List Row)(k:List Kt):Gy (Ai k) (.lst (R.map (Ao b)))=some (R.any fun ps=>decide (Ag b ps=k)):=by
 show(if Do (Ai k) (R.map (Ao b))then some ((R.map (Ao b)).any fun z=>eqT z (Ai k))else none)=_;rw[if_pos,List.any_map]
 .congr 2;funext ps;exact Ge _ _
 .unfold Do;rw[List.all_map];exact En.mpr fun ps _=>Cd (by show Bc (Ai _) (Ai k)<=30;rw[My];decide)
def pls(Z:List Zt):List Pl:=Z.flatMap fun z=>z.2.map fun ps=>(z.1.nm,Ag z.1 ps)
theorem Lq(H:Sch B)(h:Stn B m Z):(pls Z).length<=4*m:=by
 have h1:=L6 (l:=Z) (f:=fun z=>z.2.map fun ps=>(z.1.nm,Ag z.1 ps)) (k:=m) fun z hz=>by rw[Aq];exact(h.rw z hz).1
 exact Cr h1 (Nat.mul_le_mul_right _ (by rw[h.len];exact H.l4))
theorem Zf(h:Stn B m Z)(hl:l∈lks way Z):l.pl∈pls Z:=by obtain⟨_,z,hz,e,hp⟩:=cJ h hl;exact Eg.mpr ⟨z,hz,Bw.mpr ⟨l.ps,hp,by rw[e];rfl⟩⟩
theorem Jb{α:Type}[DecidableEq α]:∀{l u:List α},l.Nodup->(∀x∈l,x∈u)->l.length<=u.length
 |[],_,_,_=>E9 _
 |x::l,u,nd,h=>by obtain⟨n1,n2⟩:=Er.mp nd;have hx:=h x J8;have:=Jb (u:=u.erase x) n2 fun y hy=>(List.mem_erase_of_ne fun e=>n1 (by rw[<-e];exact hy)).mpr (h y (G8 _ hy));rw[List.length_erase_of_mem hx]at this;have:=List.length_pos_of_mem hx;rw[Eb];lia
structure Gst{α:Type}(U gone todo:List α):Prop where
 nd:gone.Nodup
 su:∀p∈gone,p∈U
 le:todo.length<=gone.length
theorem Zn(a b:Pl):Bt .eq (Ad a) (Ad b)=some (.bl (decide (a=b))):=by show Gz _ _=_;unfold Gz;rw[if_pos (by rw[Zs];decide),N3]
theorem Sp{way qa g w}{z:Zt}:Gv way z (.ref qa g w)=if w==way then z.2.map fun ps=>⟨z.1,qa,g,ps⟩else[]:=rfl
section
variable {G:Glo}{B:List Tb}{m:Nat}{Z:List Zt}(H:Sch B)(h:Stn B m Z)(C:Cls G B Z)(hm:m<=60)(way:Str)
include H h C hm
theorem kA:W G Vb.body (st0 [Am Z,Aj Z,T.str way] 5) fun o=>o=.rt (.lst ((lks way Z).map Lk.t)):=by
 have hsz:=Ci;have hL:=bL H h way;refine An (t:=.lst []) rfl ?_;refine Da [3,4,5,6,7] (enc:=fun z:Zt=>z.1.t) Z (fun D zs=>∃(L:List T)(a b c d:Sl),zs=[.own L,a,b,c,d]/\L=(lks way D).map Lk.t) [.own [],.no,.no,.no,.no] rfl (Dv _) rfl ⟨_,_,_,_,_,rfl,rfl⟩ (fun D z D2 e zs hI=>?_) fun zs hI=>?_
 .obtain⟨_,a,b,c,d,rfl,rfl⟩:=hI;have hz:z∈Z:=by rw[e];simp
  refine Bv ?_;refine Da [3,5,6,7] (enc:=Rl.t) z.1.rs (fun D' zs=>∃(L:List T)(b c d:Sl),zs=[.own L,b,c,d]/\L=(lks way D++D'.flatMap (Gv way z)).map Lk.t) [.own ((lks way D).map Lk.t),b,c,d] (Ab (Ak rfl rfl (t3 _)) rfl) (Dv _) rfl ⟨_,b,c,d,rfl,by simp⟩ (fun D' r D2' e' zs hI=>?_) fun zs hI=>?_
  .obtain⟨_,b,c,d,rfl,rfl⟩:=hI;obtain⟨w0,i0,hw⟩:=r0 r;have hr:r∈z.1.rs:=by rw[e'];simp
   refine Bv ?_;have no:Gv way z r=[]->(lks way D++D'.flatMap (Gv way z)).map Lk.t=(lks way D++(D'++[r]).flatMap (Gv way z)).map Lk.t:=fun q=>by simp[q]
   cases r with
   |ref qa g w=>
    refine Br (q:=true&&(w==way)) (Dj (Ap (Ak rfl rfl i0) rfl (sw hw)) fun _=>Ap (Ak rfl rfl (rf3 _ _ _)) rfl rfl) (fun q=>?_) fun q=>As ⟨_,rfl,_,_,_,_,rfl,no (by rw[Sp,if_neg (by rw[show(w==way)=false from q];decide)])⟩;have q:(w==way)=true:=q;have hlk:Gv way z (.ref qa g w)=z.2.map fun ps=>⟨z.1,qa,g,ps⟩:=by rw[Sp,if_pos q]
    have hfit:=H.fit _ (h.mem hz) _ hr;have hc4:qa.length<=4:=((H.ok _ (h.mem hz)).rs _ hr);rw[e,lks,List.flatMap_append,J0,e',List.flatMap_append,J0,hlk]at hL;refine Da [3,6,7] (enc:=Ah) z.2 (fun E zs=>∃(L:List T)(c d:Sl),zs=[.own L,c,d]/\L=(lks way D++D'.flatMap (Gv way z)++E.map fun ps=>(⟨z.1,qa,g,ps⟩:Lk)).map Lk.t) [.own ((lks way D++D'.flatMap (Gv way z)).map Lk.t),c,d] (Ab (Al (C.rw z hz) (Ab rfl (Ab rfl (Ab (Ak rfl rfl (t0 _)) rfl)))) rfl) (Dv _) rfl ⟨_,c,d,rfl,by simp⟩ (fun E ps E2 e2 zs hI=>?_) fun zs hI=>?_
    .obtain⟨_,c,d,rfl,rfl⟩:=hI;have hp:=(h.rw z hz).2.1 ps (by rw[e2];simp);refine Bv ?_;refine An (Al (C.wo _ (h.mem hz) ps hp qa (Qu hfit) hc4) (Ab rfl (Ab rfl (Ab (Ak rfl rfl (rf1 _ _ _)) rfl)))) ?_;refine I9 (t:=Lk.t ⟨z.1,qa,g,ps⟩) (Cg (Ab (Cg (Ab (Ak rfl rfl (t0 _)) (Ab (Al (C.ky _ (h.mem hz) ps hp) rfl) rfl))) (Ab (Ak rfl rfl (rf1 _ _ _)) (Ab (Cg (Ab (Ak rfl rfl (rf2 _ _ _)) (Ab rfl rfl))) rfl)))) rfl (by rw[e2]at hL;simp[lks]at hL ⊢;lia) ?_;exact As ⟨_,rfl,_,_,_,rfl,by simp⟩
    .obtain⟨_,c,d,rfl,rfl⟩:=hI;exact As (As ⟨_,rfl,_,_,_,_,rfl,by simp[hlk]⟩)
   |_=>exact Bu (Dj (p:=false) (q:=false) (Ap (Ak rfl rfl i0) rfl (sw hw)) fun h=>by cases h) (As ⟨_,rfl,_,_,_,_,rfl,no rfl⟩)
  .obtain⟨_,b,c,d,rfl,rfl⟩:=hI;exact As ⟨_,rfl,_,_,_,_,_,rfl,by simp[lks]⟩
 .obtain⟨_,a,b,c,d,rfl,rfl⟩:=hI;exact Ar rfl rfl
end
structure Cal(G:Glo)(B:List Tb)(m:Nat):Prop where
 cl:∀Z,Stn B m Z->Cls G B Z
 wi:∀b∈B,∀ps,RowOk b ps->∀(L:List (Str×T))(A:T),Prs b L->items .plain [A]=some (L.map Jz)->∃qs,G.call "_law_with" [b.t,Ah ps,A]=some (Ah qs)/\RowOk b qs
 pu:∀Z,Stn B m Z->∀z∈Z,∀(R:List Row)(A:T),(∀ps∈R,RowOk z.1 ps)->R.length<=60->items .plain [A]=some (R.map Ah)->∃R',G.call "_law_put" [Am Z,Aj Z,.str z.1.nm,A]=some (Aj (Gc Z z.1.nm R'))/\R'.length<=R.length/\Rws z.1 R'
theorem iW{j:Nat}(h:j<ts.length):Ms (some (.own ts)) (.int (j:Int)) w=some (.own (ts.set j w)):=by show Option.map _ (Gf ts.length (j:Int))=_;rw[Rq h];rfl
theorem lK{G:Glo}{b:Tb}(hb:b.ok){ps:Row}(hp:RowOk b ps){L:List (Str×T)}(hL:Prs b L){A:T}(hA:items .plain [A]=some (L.map Jz))(cn:G.call "_law_names" [b.t]=some (.lst (b.cs.map fun c=>T.str c.n))):W G W1.body (st0 [b.t,Ah ps,A] 3) fun o=>∃qs,o=.rt (Ah qs)/\RowOk b qs:=by
 refine w_nw (ts:=ps.map (·.2)) rfl ?_;refine Da [3,4,5] (enc:=Jz) L (fun _ zs=>∃(qs:Row)(x y:Sl),zs=[.own (qs.map (·.2)),x,y]/\RowOk b qs) [.own (ps.map (·.2)),.no,.no] rfl hA rfl ⟨ps,_,_,rfl,hp⟩ (fun D p D2 e zs hI=>?_) fun zs hI=>?_
 .obtain⟨qs,x,y,rfl,hq⟩:=hI;obtain⟨c,hc,e1,h1,h2⟩:=hL p (by rw[e];simp);obtain⟨j,g1,g2⟩:=Vm (·.n) hc hb.nd;obtain⟨q1,q2⟩:=hq.set g2 h1 h2;refine Bv ?_;refine Oq (u:=p.2) rfl (Kg (Al cn rfl) rfl (by rw[<-e1];exact g1)) (iW (by rw[Aq,<-Aq (f:=(·.1)),hq.cs];exact(ome g2).1)) ?_;exact As ⟨_,rfl,qs.set j (c,p.2),_,_,Av (fun l=>[Sl.own l,_,_]) q2.symm,q1⟩
 .obtain⟨qs,x,y,rfl,hq⟩:=hI;exact Ar rfl ⟨qs,rfl,hq⟩
theorem mY{G:Glo}{Z:List Zt}{z:Zt}{R:List Row}{A:T}(hb:z.1.ok)(l4:Z.length<=4)(hR:∀ps∈R,RowOk z.1 ps)(hl:R.length<=60)(hA:items .plain [A]=some (R.map Ah))(ct:G.call "_law_table" [Am Z,.str z.1.nm]=some z.1.t)(ck:∀ps∈R,G.call "_law_key" [z.1.t,Ah ps]=some (Ao z.1 ps)):W G U2.body (st0 [Am Z,Aj Z,T.str z.1.nm,A] 3) fun o=>∃R',o=.rt (Aj (Gc Z z.1.nm R'))/\R'.length<=R.length/\Rws z.1 R':=by
 have hsz:=Ci;obtain⟨M,e5,hM,nd,hl'⟩:=cH hb R [] (fun _ h=>nomatch h) hR .nil;rw[List.length_nil,Nat.zero_add]at hl';obtain⟨R',pm,es⟩:=lI hb hM nd (by lia);have pl:=pm.length_eq;refine An (Al ct rfl) ?_;refine An (t:=.dic (M.map (Ao z.1)) (M.map Ah)) (Ct (Gq (enc:=Ah) (R:=R) (fun ps=>T.tup [Ao z.1 ps,Ah ps]) rfl (by unfold Ed;rw[hA,Bi,if_pos (by rw[Aq];lia)]) fun ps hp=>Cg (Ab (Al (ck ps hp) rfl) rfl)) (by show(if _<=1000 then _ else none)=_;rw[if_pos (by rw[Aq];lia)];exact e5)) ?_;refine An (t:=.tup (R'.map Ah)) (Ct (Gq (enc:=Ao z.1) (R:=R') Ah (Ab (Ct rfl es) rfl) (Nz (by rw[Aq];lia)) fun ps hp=>Ak rfl rfl (by have hp:=pm.mem_iff.mp hp;show(if Bj (M.map (Ao z.1)) (Ao z.1 ps)=true then Aw (M.map (Ao z.1)) (M.map Ah) (Ao z.1 ps)else none)=_;rw[if_pos (Us hb hM (hM ps hp))];exact bU nd ps hp)) rfl) ?_;refine Ar (t:=Aj (Gc Z z.1.nm R')) (Ct (t:=Aj (Gc Z z.1.nm R')) (Qm (enc:=fun z:Zt=>T.tup [z.1.t,Cs z]) (R:=Z) (fun y=>if y.1.nm==z.1.nm then T.tup (R'.map Ah)else Cs y) (ts:=[Am Z,Aj Z]) rfl (by show(some (Ce (Z.map fun z=>z.1.t) (Z.map Cs))).bind _=_;rw[Kr,Bi,if_pos (by rw[Aq];lia)]) fun y _=>⟨_,rfl,?_⟩) (by rw[fA];rfl)) ⟨R',rfl,by lia,fun ps hp=>hM ps (pm.mem_iff.mp hp),(pm.map _).nodup_iff.mpr nd⟩;refine Ak (Kb rfl) (Ct (Ap (Ak rfl rfl (t0 _)) rfl (sw rfl)) rfl) ?_;cases y.1.nm==z.1.nm<;>rfl
section
variable {G:Glo}{B:List Tb}{m:Nat}(H:Sch B)(C:Cal G B m)(hm:m<=60){gone:List Pl}{gaps:List Lk}(hg:∀l∈gaps,l.ok B "gap"){Z:List Zt}(h:Stn B m Z)
include H C hm hg h
theorem gu:W G Uu.body (st0 [Am Z,Aj Z,T.lst (gone.map Ad),T.lst (gaps.map Lk.t)] 7) fun o=>∃Z',o=.rt (Aj Z')/\Stn B m Z':=by
 have hsz:=Ci;refine Da [1,4,5,6,7,8,9,10] (enc:=Tb.t) B (fun _ zs=>∃(Y:List Zt)(a b c d e f g:Sl),zs=[.val (Aj Y),a,b,c,d,e,f,g]/\Stn B m Y) [.val (Aj Z),.no,.no,.no,.no,.no,.no,.no] rfl (by rw[h.sch];rfl) rfl ⟨Z,_,_,_,_,_,_,_,rfl,h⟩ (fun D b D2 e zs hI=>?_) fun zs hI=>?_
 .obtain⟨Y,s4,s5,s6,s7,s8,s9,s10,rfl,hY⟩:=hI;have hb:b∈B:=by rw[e];simp
  have hs:Am Z=Am Y:=h.sch.trans hY.sch.symm;obtain⟨R0,hz⟩:=hY.of hb;have cl:=C.cl Y hY;have hlen:=(hY.rw _ hz).1;refine Bv ?_;refine An (t:=.lst []) rfl ?_;rw[hs];refine Da [5,6,7,8,9,10] (enc:=Ah) R0 (fun D zs=>∃(R:List Row)(b1 c d e f:Sl),zs=[.own (R.map Ah),b1,c,d,e,f]/\R.length<=D.length/\∀ps∈R,RowOk b ps) [.own [],s6,s7,s8,s9,s10] (Ab (Al (cl.rw _ hz) (Ab rfl (Ab rfl (Ab (Ak rfl rfl (t0 _)) rfl)))) rfl) (Dv _) rfl ⟨[],_,_,_,_,_,rfl,Nat.le_refl _,fun _ h=>absurd h (by simp)⟩ (fun D ps D2 e1 zs hI=>?_) fun zs hI=>?_
  .obtain⟨R,s6,s7,s8,s9,s10,rfl,h1,h2⟩:=hI;have hp:=(hY.rw _ hz).2.1 ps (by rw[e1];simp);have hl1:D.length<=60:=by have hlen:R0.length<=m:=hlen;rw[e1,By]at hlen;lia
   refine Bv ?_;refine An (js:=[]) (t:=Ad (b.nm,Ag b ps)) (Cg (Ab (Ak rfl rfl (t0 _)) (Ab (Al (cl.ky _ hb ps hp) rfl) rfl))) ?_;refine Da [6,8,9,10] (enc:=Lk.t) gaps (fun _ zs=>∃(qs:Row)(a b1 c:Sl),zs=[.val (Ah qs),a,b1,c]/\RowOk b qs) [.val (Ah ps),s8,s9,s10] rfl (Hf _) rfl ⟨ps,_,_,_,rfl,hp⟩ (fun E l E2 e2 zs hI=>?_) fun zs hI=>?_
   .obtain⟨qs,a,b1,c,rfl,hq⟩:=hI;have hl:=hg l (by rw[e2];simp);refine Bv ?_;refine Br (q:=decide (l.pl=(b.nm,Ag b ps))) (Ap rfl rfl (Zn l.pl _)) (fun q=>?_) fun _=>As ⟨_,rfl,qs,_,_,_,rfl,hq⟩;have eb:l.b=b:=O8 H.nd hl.b hb (Av Prod.fst (Ey q));have hr:=hl.r;rw[eb]at hr;have hf:=(H.fit b hb _ hr).1;have hc4:l.lc.length<=4:=((H.ok b hb).rs _ hr);obtain⟨qs',cw,hq'⟩:=C.wi b hb qs hq (l.lc.map fun x=>(x,.non)) (.lst ((l.lc.map fun x=>(x,T.non)).map Jz)) (fun p hp=>by obtain⟨x,hx,rfl⟩:=omm hp;obtain⟨c,hc,e1,e2⟩:=hf x hx;exact⟨c,hc,e1,.inl rfl,fun z=>by rw[e2 rfl]at z;cases z⟩) rfl;rw[Bz]at cw;refine An (Al cw (Ab rfl (Ab rfl (Ab (Gq (enc:=T.str) (R:=l.lc) (fun x=>Jz (x,.non)) rfl (Fv (by rw[Aq];lia)) fun _ _=>rfl) rfl)))) ?_;exact As (As ⟨_,rfl,qs',_,_,_,rfl,hq'⟩)
   .obtain⟨qs,a,b1,c,rfl,hq⟩:=hI;refine w_nz ?_;have em:Ip .mul (.lst [Ah qs]) (.int (if(!gone.any fun x=>decide (x=(b.nm,Ag b ps)))=true then 1 else 0))=some (.lst ((if(gone.any fun x=>decide (x=(b.nm,Ag b ps)))=true then[]else[qs]:List Row).map Ah)):=by cases(gone.any fun x=>decide (x=(b.nm,Ag b ps)))<;>rfl
    refine An (t:=.lst ((R++if(gone.any fun x=>decide (x=(b.nm,Ag b ps)))=true then[]else[qs]).map Ah)) (js:=[5]) (Ay rfl (Ay (Kb (Ab rfl rfl)) (Ct (Ap rfl rfl (by rw[Bt,Qy];rfl)) rfl) em) ((N2 (by rw[List.length_map,List.length_map];split<;>simp<;>lia)).trans (by rw[List.map_append]))) ?_;refine As ⟨_,rfl,_,_,_,_,_,_,rfl,?_,fun q hq'=>?_⟩
    .rw[By,By,Ii];split<;>simp<;>lia
    .rcases oma hq' with hq'|hq'
     .exact h2 q hq'
     .split at hq'
      .cases hq'
      .rw[omg hq'];exact hq
  .obtain⟨R,s6,s7,s8,s9,s10,rfl,h1,h2⟩:=hI;have hlen:R0.length<=m:=hlen;obtain⟨R',cp,h3,h4⟩:=C.pu Y hY _ hz R (.lst (R.map Ah)) h2 (by lia) (Hf _);refine w_nz ?_;refine An (js:=[5]) (t:=Aj (Gc Y b.nm R')) (Al cp (Ab rfl (Ab rfl (Ab (Ak rfl rfl (t0 _)) rfl)))) ?_;exact As ⟨_,rfl,_,_,_,_,_,_,_,_,rfl,Yi hY H.nd hb (Dn _) (by show R'.length<=m;lia) h4 hz (by lia)⟩
 .obtain⟨Y,s4,s5,s6,s7,s8,s9,s10,rfl,hY⟩:=hI;exact Ar rfl ⟨Y,rfl,hY⟩
end
section
def Lk.go(l:Lk):a7 Pl:=if Ca (wK l.lc l.ps)=true then none else some (l.g,wK l.lc l.ps)
theorem Zu(l:Lk):(∃q,l.go=some q/\l.gl=Ad q)\/l.go=none/\l.gl=.tup [.str l.g,.non]:=by
 unfold Lk.go Lk.gl Ds;cases Ca (wK l.lc l.ps)with
 |true=>exact .inr ⟨rfl,rfl⟩
 |false=>exact .inl ⟨_,rfl,rfl⟩
theorem oo(l:Lk)(p:Pl):Bt .eq l.gl (Ad p)=some (.bl (decide (l.go=some p))):=by
 rcases Zu l with⟨q,e1,e2⟩|⟨e1,e2⟩<;>rw[e1,e2]
 .rw[Zn];simp
 .show Gz _ _=_;unfold Gz;rw[if_pos (show Bc _ (Ad p)<=30 from by simp[Ad,Ai,Bc,Cz]),show eqT _ (Ad p)=((l.g==p.1)&&false)from rfl];simp
theorem gT(l:Lk)(g:List Pl):Gy l.gl (.lst (g.map Ad))=some (g.any fun x=>decide (l.go=some x)):=by
 rcases Zu l with⟨q,e1,e2⟩|⟨e1,e2⟩<;>rw[e1,e2]
 .rw[Qy];simp[eq_comm]
 .show(if Do _ _=true then some ((g.map Ad).any fun z=>eqT z _)else none)=_;rw[if_pos (by unfold Do;rw[List.all_map];exact En.mpr fun x _=>decide_eq_true (show Bc (Ad x) (.tup [.str l.g,.non])<=30 from by simp[Ad,Ai,Bc,Cz])),List.any_map];refine Av some ?_;rw[List.any_eq_false.mpr fun x _=>by show ¬((x.1==l.g)&&(false&&true))=true;simp];simp
section
variable {α:Type}[DecidableEq α]
def vis(fs g t:List α):List α×List α:=fs.foldl (fun a x=>if(a.1.any fun y=>decide (y=x))=true then a else(a.1++[x],a.2++[x])) (g,t)
inductive Wk(f:α->List α):List α->List α->List α->Prop
 |nil {g t}:t=[]->Wk f g t g
 |step {g t t1 p r}:t=t1++[p]->Wk f (vis (f p) g t1).1 (vis (f p) g t1).2 r->Wk f g t r
theorem Wk.det{f:α->List α}{g t r:List α}(h:Wk f g t r):∀{r'},Wk f g t r'->r=r':=by
 induction h with
 |nil e=>intro r' h';cases h' with
  |nil=>rfl
  |step e'=>rw[e]at e';simp at e'
 |step e _ ih=>intro r' h';cases h' with
  |nil e'=>rw[e]at e';simp at e'
  |step e' h2=>rw[e]at e';obtain⟨e1,e2⟩:=List.append_inj' e' rfl;cases e2;subst e1;exact ih h2
theorem Mx(a b g t:List α):vis (a++b) g t=vis b (vis a g t).1 (vis a g t).2:=by unfold vis;rw[List.foldl_append]
theorem O7(x:α)(g t:List α):vis [x] g t=if(g.any fun y=>decide (y=x))=true then(g,t)else(g++[x],t++[x]):=rfl
theorem Qc:∀(fs g t:List α),(∀x,x∈(vis fs g t).1↔x∈g\/x∈fs)/\(∀x∈(vis fs g t).2,x∈t\/x∈fs)/\(∀x∈t,x∈(vis fs g t).2)/\∀x∈fs,x∈g\/x∈(vis fs g t).2
 |[],g,t=>⟨fun x=>by simp[vis],fun x h=>.inl h,fun x h=>h,fun x h=>nomatch h⟩
 |a::fs,g,t=>by
  rw[show a::fs=[a]++fs from rfl,Mx,O7];by_cases e:a∈g
  .rw[if_pos (List.any_eq_true.mpr ⟨a,e,Cd rfl⟩)];obtain⟨h1,h2,h3,h4⟩:=Qc fs g t;refine⟨fun x=>?_,fun x h=>(h2 x h).imp id (.tail _),h3,fun x h=>(omc h).elim (fun q=>.inl (q▸e)) (h4 x)⟩;rw[h1,Oc,Me];exact⟨fun w=>w.imp id .inr,fun w=>w.elim .inl fun w=>w.elim (fun w=>.inl (w▸e)) .inr⟩
  .rw[if_neg (by simpa using e)];obtain⟨h1,h2,h3,h4⟩:=Qc fs (g++[a]) (t++[a]);refine⟨fun x=>?_,fun x h=>?_,fun x h=>h3 x (List.mem_append_left _ h),fun x h=>?_⟩
   .rw[h1,Oc,Oc,or_assoc]
   .rcases h2 x h with h|h
    .exact(oma h).imp id fun h=>by rw[omg h];exact .head _
    .exact .inr (.tail _ h)
   .rcases omc h with rfl|h
    .exact .inr (h3 _ (by simp))
    .rcases h4 x h with h|h
     .exact(oma h).imp id fun h=>h3 x (by simpa using .inr (omg h))
     .exact .inr h
section
variable {f:α->List α}{g t r:List α}(h:Wk f g t r)
include h
theorem Wk.up:∀x∈g,x∈r:=by
 induction h with
 |nil _=>exact fun _ h=>h
 |step e _ ih=>exact fun x hx=>ih x (((Qc _ _ _).1 x).mpr (.inl hx))
theorem Wk.shut:(∀x∈g,x∈t\/∀y∈f x,y∈g)->∀x∈r,∀y∈f x,y∈r:=by
 induction h with
 |nil e=>subst e;exact fun h x hx=>(h x hx).resolve_left (fun h=>nomatch h)
 | @step g t t1 p r e _ ih=>
  subst e;intro hI;refine ih fun x hx=>?_;obtain⟨h1,_,h3,h4⟩:=Qc (f p) g t1;have hg:x∈g->x∈(vis (f p) g t1).2\/∀y∈f x,y∈(vis (f p) g t1).1:=fun hx=>by
   rcases hI x hx with q|q
   .rcases oma q with q|q
    .exact .inl (h3 x q)
    .rw[omg q];exact .inr fun y hy=>(h1 y).mpr (.inr hy)
   .exact .inr fun y hy=>(h1 y).mpr (.inl (q y hy))
  exact((h1 x).mp hx).elim hg fun hx=>(h4 x hx).elim hg .inl
end
end
noncomputable def Jc(es:List Lk)(p:Pl):List Pl:=(es.filter fun l=>decide (l.go=some p)).map Lk.pl
theorem bO(es:List Lk)(l:Lk)(p:Pl):Jc (es++[l]) p=Jc es p++if l.go=some p then[l.pl]else[]:=by unfold Jc;rw[List.filter_append,Dx,Gr];by_cases e:l.go=some p<;>simp[e]
noncomputable def hit(gone:List Pl)(l:Lk):Bool:=(gone.any fun x=>decide (l.go=some x))&&!(gone.any fun x=>decide (x=l.pl))
structure Gone(Z:List Zt)(p:Pl)(gone:List Pl):Prop where
 wk:Wk (Jc (lks "along" Z)) [p] [p] gone
 nd:gone.Nodup
 su:∀q∈gone,q∈pls Z
def Ov(Z:List Zt)(gone:List Pl):T:=if(lks "stop" Z).any (hit gone)=true then .int 5 else .tup [.lst (gone.map Ad),.lst (((lks "gap" Z).filter (hit gone)).map Lk.t)]
variable {G:Glo}{B:List Tb}{m:Nat}{Z:List Zt}(H:Sch B)(h:Stn B m Z)(hm:m<=60)(cl:∀way:Str,G.call "_law_links" [Am Z,Aj Z,.str way]=some (.lst ((lks way Z).map Lk.t)))
include H h hm in
theorem Ri{e:E}{ρ:Env}(C:Cls G B Z)(hz:(b,R)∈Z)(i:Nat)(he:Az G [e] ρ=some [Cs (b,R)])(hi:((ρ)[i]?).join=some b.t):Ac G (.comp (.call "_law_key" [.var (i+1),.var 0]) 1 .plain [e] none) ρ=some (.lst (R.map (Ao b))):=by have hR:=h.rw _ hz;have hsz:=Ci;exact Gq (enc:=Ah) (Ao b) he (Fv (by rw[Aq];show R.length<=SZ;have h1:R.length<=m:=hR.1;lia)) fun ps hp=>Al (C.ky _ (h.mem hz) ps (hR.2.1 ps hp)) (Ab hi rfl)
include H h hm cl
theorem qU(C:Cls G B Z)(hz:(b,R)∈Z)(k:List Kt):W G Sv.body (st0 [Am Z,Aj Z,.str b.nm,Ai k] 8) fun o=>
  ((R.any fun ps=>decide (Ag b ps=k))=false/\o=.rt (.int 1))\/(R.any fun ps=>decide (Ag b ps=k))=true/\∃gone,Gone Z (b.nm,k) gone/\o=.rt (Ov Z gone):=by
 have hU:=Lq H h;have hsz:=Ci;have np:∀(l:Lk)(g:List Pl),Bt .notin (Ad l.pl) (.lst (g.map Ad))=some (.bl (!(g.any fun x=>decide (x=l.pl)))):=fun l g=>by rw[Bt,Qy];rfl
 have ng:∀(l:Lk)(g:List Pl),Bt .isin l.gl (.lst (g.map Ad))=some (.bl (g.any fun x=>decide (l.go=some x))):=fun l g=>by rw[Bt,gT];rfl
 refine An (Al (C.tb _ (h.mem hz)) rfl) ?_;refine Br (q:=!(R.any fun ps=>decide (Ag b ps=k))) (Ap rfl (Ri H h hm C hz 4 (Ab (Al (C.rw _ hz) rfl) rfl) rfl) (by rw[Bt,Qi];rfl)) (fun q=>Ar rfl (.inl ⟨by simpa using q,rfl⟩)) fun q=>?_;have q:(R.any fun ps=>decide (Ag b ps=k))=true:=by simpa using q
 have hmem:(b.nm,k)∈pls Z:=by obtain⟨ps,hps,e⟩:=List.any_eq_true.mp q;exact Eg.mpr ⟨_,hz,Bw.mpr ⟨ps,hps,by rw[Ey e]⟩⟩
 refine An (t:=.lst [Ad (b.nm,k)]) rfl ?_;refine An (t:=.lst [Ad (b.nm,k)]) rfl ?_;refine aT [5,6,7,8,9,10] (fun n zs=>∃(gone todo:List Pl)(x y z w:Sl),zs=[.own (gone.map Ad),.own (todo.map Ad),x,y,z,w]/\Gst (pls Z) gone todo/\(pls Z).length+todo.length=gone.length+n/\∀r,Wk (Jc (lks "along" Z)) gone todo r->Wk (Jc (lks "along" Z)) [(b.nm,k)] [(b.nm,k)] r) (pls Z).length [.own [Ad (b.nm,k)],.own [Ad (b.nm,k)],.no,.no,.no,.no] (by lia) rfl ⟨[_],[_],_,_,_,_,rfl,⟨by simp,fun p hp=>by rw[omg hp];exact hmem,Nat.le_refl _⟩,by simp;lia,fun _ h=>h⟩ fun n zs hI=>?_;obtain⟨gone,todo,x,y,z,w,rfl,g,e,hW⟩:=hI;have hgl:=Jb g.nd g.su;refine⟨!todo.isEmpty,Ap rfl rfl ((Oh (todo.map Ad)).trans (by rw[List.isEmpty_map])),fun q=>?_,fun q=>?_⟩
 .rcases List.eq_nil_or_concat todo with rfl|⟨t1,p,rfl⟩
  .cases q
  rw[List.concat_eq_append]at *;have hle:=g.le;rw[By,Ii]at e hle;refine w_nz ?_;refine bV (ts:=t1.map Ad) (t:=Ad p) (Av (fun l=>some (Sl.own l)) Dx) (by decide) ?_;refine Da [5,6,8,9,10] (enc:=Lk.t) (lks "along" Z) (fun D zs=>∃(go to:List Pl)(x y z:Sl),zs=[.own (go.map Ad),.own (to.map Ad),x,y,z]/\Gst (pls Z) go to/\go.length+t1.length=gone.length+to.length/\vis (Jc D p) gone t1=(go,to)) [.own (gone.map Ad),.own (t1.map Ad),y,z,w] (Ab (Al (cl "along") rfl) rfl) (Hf _) rfl ⟨gone,t1,_,_,_,rfl,⟨g.nd,g.su,by lia⟩,rfl,rfl⟩ (fun D l D2 e zs hI=>?_) fun zs hI=>?_
  .obtain⟨go,to,x,y,z,rfl,g',e',ev⟩:=hI;have hl:l∈lks "along" Z:=by rw[e];simp
   have hgl:=Jb g'.nd g'.su;have hle:=g'.le;refine Bv ?_;refine Br (q:=decide (l.go=some p)&&!(go.any fun x=>decide (x=l.pl))) (Dj (Ap rfl rfl (oo l p)) fun _=>Ap rfl rfl (np l go)) (fun q=>?_) fun q=>As ⟨_,rfl,go,to,_,_,_,rfl,g',e',?_⟩
   .rw[Cy,K8,Bool.not_eq_true']at q;refine I9 (t:=Ad l.pl) rfl rfl (by rw[Aq];lia) ?_;refine I9 (t:=Ad l.pl) rfl rfl (by rw[Aq];lia) ?_;refine As (As ⟨_,rfl,go++[l.pl],to++[l.pl],_,_,_,by rw[Dx,Dx],⟨?_,fun p hp=>?_,?_⟩,?_,?_⟩)
    .rw[List.nodup_append];exact⟨g'.nd,by simp,fun a ha b hb e=>List.any_eq_false.mp q.2 a ha (decide_eq_true (e.trans (omg hb)))⟩
    .rcases oma hp with hp|hp
     .exact g'.su p hp
     .rw[omg hp];exact Zf h hl
    .simp;lia
    .simp;lia
    .rw[bO,if_pos q.1,Mx,ev,O7,if_neg (by rw[q.2];decide)]
   .rw[bO];by_cases e1:l.go=some p
    .rw[if_pos e1,Mx,ev,O7,if_pos (by simpa[e1]using q)]
    .rw[if_neg e1,Jv,ev]
  .obtain⟨go,to,x,y,z,rfl,g',e',ev⟩:=hI;have:=Jb g'.nd g'.su;exact As ⟨n-1,_,rfl,by lia,go,to,_,_,_,_,rfl,g',by lia,fun r hr=>hW r (.step rfl (by rw[ev];exact hr))⟩
 have q:todo=[]:=by simpa using q
 have hG:Gone Z (b.nm,k) gone:=⟨hW gone (.nil q),g.nd,g.su⟩;refine w_nz ?_;refine Hp [8,9,10] (enc:=Lk.t) (lks "stop" Z) (fun D zs=>∃x y z:Sl,zs=[x,y,z]/\D.any (hit gone)=false) [y,z,w] (Ab (Al (cl "stop") rfl) rfl) (Hf _) rfl ⟨_,_,_,rfl,rfl⟩ (fun D l D2 e zs hI=>?_) fun zs hI=>?_
 .obtain⟨x,y,z,rfl,hD⟩:=hI;refine Bv ?_;exact Br (q:=hit gone l) (Dj (Ap rfl rfl (ng l gone)) fun _=>Ap rfl rfl (np l gone)) (fun q=>Ar rfl (.inl ⟨_,rfl,.inr ⟨‹_›,gone,hG,by rw[Ov,if_pos (by rw[e];simp[q])]⟩⟩)) fun q=>As (.inr ⟨_,rfl,_,_,_,rfl,by rw[List.any_append,hD];simp[q]⟩)
 .obtain⟨x,y,z,rfl,hD⟩:=hI;refine An (js:=[5]) (Fy (enc:=Lk.t) (R:=lks "gap" Z) (hit gone) Lk.t (Ab (Al (cl "gap") rfl) rfl) (Nz (by rw[Aq];have:=bL H h "gap";lia)) fun l hl=>⟨_,rfl,Dj (Ap rfl rfl (ng l gone)) fun _=>Ap rfl rfl (np l gone),fun _=>rfl⟩) ?_;exact Ar rfl (.inr ⟨‹_›,gone,hG,by rw[Ov,if_neg (by rw[hD];decide)]⟩)
end
def Gng(Z:List Zt)(t:T):Prop:=(∃i:Int,t=.int i)\/∃(gone:List Pl)(gaps:List Lk),t=.tup [.lst (gone.map Ad),.lst (gaps.map Lk.t)]/\∀l∈gaps,l∈lks "gap" Z
inductive Dd where
 |add (b:Tb) (ps:Row)|drp (b:Tb) (k:List Kt)|set (b:Tb) (k:List Kt) (L:List (Str×T))
noncomputable def Dd.b:Dd->Tb
 |.add b _=>b
 |.drp b _=>b
 |.set b _ _=>b
def Dd.t:Dd->T
 |.add b ps=>.tup [.str "add",.str b.nm,Ah ps]
 |.drp b k=>.tup [.str "drop",.str b.nm,Ai k]
 |.set b k L=>.tup [.str "set",.str b.nm,Ai k,.tup (L.map Jz)]
noncomputable def kS(k:List Kt):Prop:=k.length<=2
theorem gY(hb:b.ok)(hp:RowOk b ps):kS (Ag b ps):=by unfold Ag wK kS;rw[Aq];exact hb.k1
structure Dd.ok(B:List Tb)(d:Dd):Prop where
 b:d.b∈B
 p:match d with
  |.add b ps=>RowOk b ps
  |.drp _ k=>kS k
  |.set b k L=>kS k/\Prs b L/\L.length<=4
theorem dB(k:List Kt):∀{b:Tb}{R:List Row},(R.any fun ps=>decide (Ag b ps=k))=true->∃j:Nat,zb0 (Ai k) (R.map (Ao b))=some j/\j<R.length
 |b,[],h=>by cases h
 |b,ps::R,h=>by
  rw[Ba,zb0];by_cases e:Ag b ps=k
  .exact⟨0,by rw[if_pos (by show eqT (Ai _) (Ai k)=true;rw[Ge];exact decide_eq_true e)],by simp⟩
  .rw[Ie,Lp e,Bool.false_or]at h;obtain⟨j,h1,h2⟩:=dB k h;refine⟨j+1,?_,by simpa using h2⟩;rw[if_neg (by show ¬eqT (Ai _) (Ai k)=true;rw[Ge];simpa using e),h1];rfl
theorem pQ(b:Tb)(R:List Row)(k:List Kt)(h:zb0 (Ai k) (R.map (Ao b))=some j):Fx .index (.lst (R.map (Ao b))) (Ai k)=some (.int (j:Int)):=by
 simp only[Fx];rw[if_pos,h]
 .rfl
 .rw[Bool.or_eq_true];right;unfold Do;rw[List.all_map];exact En.mpr fun ps _=>Cd (by show Bc (Ai _) (Ai k)<=30;rw[My];decide)
def Tld(B:List Tb)(m:Nat)(t:T):Prop:=(∃i:Int,t=.int i)\/∃Z,t=Aj Z/\Stn B m Z
structure Cal2(G:Glo)(B:List Tb)(m:Nat):Prop extends Cal G B m where
 go:∀Z,Stn B m Z->∀z∈Z,∀k:List Kt,∃t,G.call "_law_going" [Am Z,Aj Z,.str z.1.nm,Ai k]=some t/\Gng Z t
 dr:∀Z,Stn B m Z->∀(gone:List Pl)(gaps:List Lk),(∀l∈gaps,l.ok B "gap")->∃Z',G.call "_law_dropped" [Am Z,Aj Z,.lst (gone.map Ad),.lst (gaps.map Lk.t)]=some (Aj Z')/\Stn B m Z'
theorem dd_1(d:Dd):Cm d.t (.int 1)=some (.str d.b.nm):=by cases d<;>rw[Dd.t,Cm,W7]<;>rfl
theorem gr:(("add":Str)=="add")=true/\(("drop":Str)=="add")=false/\(("set":Str)=="add")=false/\(("drop":Str)=="drop")=true/\(("set":Str)=="drop")=false:=by decide +kernel
theorem aQ(qa:List Str):∀R:List Row,Ce (R.map Ah) (R.map (Ds qa))=R.map fun ps=>.tup [Ah ps,Ds qa ps]
 |[]=>rfl
 |ps::R=>by rw[Ba,Ba,Ba,Ce,aQ qa R]
theorem bt(qa:List Str)(ps:Row):Bt .notN (Ds qa ps) .non=some (.bl (!Ca (wK qa ps))):=by unfold Ds;cases Ca (wK qa ps)<;>rfl
theorem iD(qa:List Str)(R:List Row)(ps:Row):Do (Ds qa ps) (R.map (Ds qa))=true:=by unfold Do;rw[List.all_map];refine En.mpr fun q _=>Cd ?_;show Bc (Ds qa q) (Ds qa ps)<=30;unfold Ds;split<;>split<;>first|(rw[My];decide)|exact E9 _
theorem n6(r:Rl)(h:∀t,r≠.chk t):∃qa,Cm r.t (.int 1)=some (Cf qa)/\(r=.unl qa\/∃g w,r=.ref qa g w):=by
 cases r with
 |ref cs t w=>exact⟨cs,rf1 cs t w,.inr ⟨t,w,rfl⟩⟩
 |unl cs=>exact⟨cs,by rw[Rl.t,Cm,W7],.inl rfl⟩
 |chk t=>exact absurd rfl (h t)
noncomputable def X6:Rl->Bool
 |.chk _=>true
 |_=>false
theorem r0c(r:Rl):∃w:Str,Cm r.t (.int 0)=some (.str w)/\(w==("check":Str))=X6 r/\(w==("refers":Str))=Se r:=by
 cases r with
 |ref cs t w=>exact⟨"refers",by rw[Rl.t,Cm,Hu],show(("refers":Str)=="check")=false by decide +kernel,show(("refers":Str)=="refers")=true by decide +kernel⟩
 |unl cs=>exact⟨"unlike",by rw[Rl.t,Cm,Hu],show(("unlike":Str)=="check")=false by decide +kernel,show(("unlike":Str)=="refers")=false by decide +kernel⟩
 |chk t=>exact⟨"check",by rw[Rl.t,Cm,Hu],show(("check":Str)=="check")=true by decide +kernel,show(("check":Str)=="refers")=false by decide +kernel⟩
theorem qW(r:Rl):∃x,Cm r.t (.int (-1))=some x/\Bc x (.str "late")<=30:=by
 cases r with
 |ref cs t w=>exact⟨.str w,rfl,E9 _⟩
 |unl cs=>exact⟨Cf cs,rfl,E9 _⟩
 |chk t=>exact⟨t.t,rfl,by cases t<;>exact E9 _⟩
structure Dk where
 ks:List T
 vs:List T
 ok:ks.all Hc=true
abbrev Dk.s(d:Dk):Sl:=.dic d.ks d.vs
noncomputable def Dk.nil:Dk:=⟨[],[],rfl⟩
def Dk.put(d:Dk)(x:Str)(w:T):Dk:=⟨Ax d.ks (.str x),Bh d.ks d.vs (.str x) w,by
 unfold Ax;split
 .exact d.ok
 .rw[List.all_append,d.ok];rfl⟩
theorem Dk.kd(d:Dk)(x:Str):Bj d.ks (.str x)=true:=by unfold Bj;rw[d.ok];rfl
theorem Dk.len{d:Dk}{x:Str}{w:T}:(d.put x w).ks.length<=d.ks.length+1:=by
 show(Ax d.ks (.str x)).length<=_;unfold Ax;split
 .lia
 .rw[By];exact Dn _
noncomputable def mT:List (Int×Str):=[(2, "unlike"),(3, "check"),(4, "refers")]
noncomputable def qA(p:Int×Str):T:=.tup [.int p.1,.str p.2]
section
variable {G:Glo}{B:List Tb}{m:Nat}(H:Sch B)(C:Cal2 G B m)(hm:m<=50){Z:List Zt}(h:Stn B m Z)
include H C hm h
theorem pE{d:Dd}(hd:d.ok B):W G X3.body (st0 [Am Z,Aj Z,d.t] 6) fun o=>∃t,o=.rt t/\Tld B (m+1) t:=by
 obtain⟨R,hz⟩:=h.of hd.b;have hb:=hd.b;have c:=C.cl Z h;obtain⟨hl,hR,_⟩:R.length<=m/\(∀ps∈R,RowOk d.b ps)/\_:=h.rw _ hz;have hsz:=Ci;refine An (Ak rfl rfl (dd_1 d)) ?_;refine An (Al (c.tb _ hb) rfl) ?_;refine An (Al (c.rw _ hz) rfl) ?_;refine An (Ri H h (by lia) c hz 4 rfl rfl) ?_;have put:∀(R1:List Row)(A:T),(∀ps∈R1,RowOk d.b ps)->R1.length<=R.length+1->items .plain [A]=some (R1.map Ah)->∃t,G.call "_law_put" [Am Z,Aj Z,.str d.b.nm,A]=some t/\Tld B (m+1) t:=fun R1 A h1 h2 h3=>by obtain⟨R',e,h4,h5⟩:=C.pu Z h _ hz R1 A h1 (by lia) h3;exact⟨_,e,.inr ⟨_,rfl,Yi h H.nd hb (by lia) (by lia) h5 hz (by lia)⟩⟩
 obtain⟨n1,n2,n3,n4,n5⟩:=gr;cases d with
 |add b ps=>
  have hp:RowOk b ps:=hd.p;refine El (Ap rfl rfl (sw n1)) (Br (q:=R.any fun q=>decide (Ag b q=Ag b ps)) (Ap (Al (c.ky b hb ps hp) rfl) rfl (by rw[Bt,Ao,Qi];rfl)) (fun _=>Ar rfl ⟨_,rfl,.inl ⟨2,rfl⟩⟩) fun _=>?_);obtain⟨t,e,ht⟩:=put (R++[ps]) (.lst ((R++[ps]).map Ah)) (fun q hq=>by
   rcases oma hq with hq|hq
   .exact hR q hq
   .rw[omg hq];exact hp) (by simp) (Hf _)
  rw[Dx]at e;exact Ar (Al e (Ab rfl (Ab rfl (Ab rfl (Ab (Ay rfl rfl (N2 (by rw[Aq];show R.length+1<=SZ;lia))) rfl))))) ⟨t,rfl,ht⟩
 |drp b k=>
  obtain⟨t,eg,hg⟩:=C.go Z h _ hz k;refine Bu (Ap rfl rfl (sw n2)) (El (Ap rfl rfl (sw n4)) (An (Al eg rfl) ?_));rcases hg with⟨i,rfl⟩|⟨gone,gaps,rfl,hgp⟩
  .exact El rfl (Ar rfl ⟨_,rfl,.inl ⟨i,rfl⟩⟩)
  .obtain⟨Z',ed,hZ'⟩:=C.dr Z h gone gaps fun l hl=>(cJ h (hgp l hl)).1;exact Bu rfl (Ar (Al ed rfl) ⟨_,rfl,.inr ⟨Z',rfl,hZ'.up (by lia)⟩⟩)
 |set b k L=>
  refine Bu (Ap rfl rfl (sw n3)) (Bu (Ap rfl rfl (sw n5)) (Br (q:=!(R.any fun q=>decide (Ag b q=k))) (Ap rfl rfl (by rw[Bt,Qi];rfl)) (fun _=>Ar rfl ⟨_,rfl,.inl ⟨1,rfl⟩⟩) fun q=>?_));obtain⟨j,hj,hjl⟩:=dB k (by simpa using q);obtain⟨qs,ew,hq⟩:=C.wi b hb R[j] (hR _ (Jy hjl)) L (.tup (L.map Jz)) hd.p.2.1 (Dv _);obtain⟨t,e,ht⟩:=put (R.take j++[qs]++R.drop (j+1)) (.tup ((R.take j++[qs]++R.drop (j+1)).map Ah)) (fun p hp=>by
   rcases oma hp with hp|hp
   .rcases oma hp with hp|hp
    .exact hR p (W5 hp)
    .rw[omg hp];exact hq
   .exact hR p (List.mem_of_mem_drop hp)) (by simp;lia) (Dv _)
  have x1:=Nw (R.map Ah) j;have x2:=Zp (R.map Ah) (j+1) (by rw[Aq];lia);rw[Dx,Dx,List.map_take,List.map_drop]at e;refine An (Kg rfl rfl (pQ b R k hj)) ?_;exact Ar (Al e (Ab rfl (Ab rfl (Ab rfl (Ab (Ay (Ay (congrArg (fun l=>some (T.tup l)) x1) (Cg (Ab (Al ew (Ab rfl (Ab (Ak rfl rfl (Hw (by rw[List.getElem?_map,List.getElem?_eq_getElem hjl];rfl))) (Ab rfl rfl)))) rfl)) (Mi (by simp;lia))) (congrArg (fun l=>some (T.tup l)) x2) (Mi (by simp;lia))) rfl))))) ⟨t,rfl,ht⟩
end
def Aim(Z:List Zt)(qa:List Str)(g:Str)(ps:Row):Prop:=∃z∈Z,z.1.nm=g/\(z.2.any fun qs=>decide (Ag z.1 qs=wK qa ps))=true
def Kpt(Z:List Zt)(r:Rl)(R:List Row):Prop:=∀qa g w,r=.ref qa g w->∀ps∈R,Ca (wK qa ps)=false->Aim Z qa g ps
def J6(Z:List Zt):Prop:=∀z∈Z,∀r∈z.1.rs,Kpt Z r z.2
section
variable {G:Glo}{B:List Tb}{m:Nat}(H:Sch B){Z:List Zt}(h:Stn B m Z)(C:Cls G B Z)(hm:m<=60)
include H h C hm
theorem j9(hz:(b,R)∈Z)(hr:r∈b.rs)(lv:∀t:Tst,r=.chk t->∀ps,RowOk b ps->∃i:Int,G.call "_law_level" [b.t,t.t,Ah ps]=some (.int i)):W G Sa.body (st0 [Am Z,Aj Z,b.t,r.t] 7) fun o=>∃L,o=.rt (.lst L)/\(L=[]->Kpt Z r R):=by
 have hb:=h.mem hz;obtain⟨hl,hR,_⟩:R.length<=m/\(∀ps∈R,RowOk b ps)/\_:=h.rw _ hz;have hsz:=Ci;have hfit:=H.fit b hb r hr;have hok:=(H.ok _ hb).rs r hr;obtain⟨w0,i0,hw1,hw2⟩:=r0c r;have iR:Ed .plain [Cs (b,R)]=some (R.map Ah):=by unfold Ed;rw[Cs,Dv,Bi,if_pos (by rw[Aq];show R.length<=SZ;lia)]
 refine An (Al (C.rw _ hz) rfl) ?_;refine Br (Ap (Ak rfl rfl i0) rfl (sw hw1)) (fun q=>?_) fun q=>?_
 .obtain⟨t,rfl⟩:∃t,r=.chk t:=by cases r<;>first|exact⟨_,rfl⟩|cases q
  obtain⟨f,hf⟩:=Classical.axiomOfChoice (r:=fun ps(i:Int)=>RowOk b ps->G.call "_law_level" [b.t,t.t,Ah ps]=some (.int i)) fun ps=>by
   by_cases hp:RowOk b ps
   .obtain⟨i,e⟩:=lv t rfl ps hp;exact⟨i,fun _=>e⟩
   .exact⟨0,fun z=>absurd z hp⟩
  exact Ar (Fy (enc:=Ah) (R:=R) (fun ps=>f ps==0) (Ao b) rfl iR fun ps hp=>⟨_,rfl,Ap (Al (hf ps (hR ps hp)) rfl) rfl rfl,fun _=>Al (C.ky b hb ps (hR ps hp)) rfl⟩) ⟨_,rfl,fun _ _ _ _ e=>nomatch e⟩
 obtain⟨qa,i1,hcase⟩:=n6 r fun t e=>by rw[e]at q;cases q
 obtain⟨hcols,hc4⟩:(∀x∈qa,∃c∈b.cs,c.n=x)/\qa.length<=4:=by
  rcases hcase with rfl|⟨g,w,rfl⟩
  .exact⟨hfit,hok⟩
  .exact⟨Qu hfit,hok⟩
 refine An (Gq (enc:=Ah) (Ds qa) rfl iR fun ps hp=>Al (C.wo b hb ps (hR ps hp) qa hcols hc4) (Ab rfl (Ab rfl (Ab (Ak rfl rfl i1) rfl)))) ?_;refine An (t:=.lst []) rfl ?_;refine Da [5,7,8,9,10] (enc:=fun ps:Row=>T.tup [Ah ps,Ds qa ps]) R (fun D zs=>∃L x y z w,zs=[x,.own L,y,z,w]/\L.length<=D.length/\(L=[]->Kpt Z r D)) [.no,.own [],.no,.no,.no] rfl (by show some (Ce (R.map Ah) (R.map (Ds qa)))=_;rw[aQ]) rfl ⟨[],_,_,_,_,rfl,Dn _,fun _ _ _ _ _ ps hp=>nomatch hp⟩ (fun D ps D2 e zs hI=>?_) fun zs hI=>?_
 .obtain⟨L,x,y,z,w,rfl,hLl,hK⟩:=hI;have hp:=hR ps (by rw[e];simp);have hl1:D.length<=60:=by rw[e,By]at hl;lia
  have cN:=bt qa ps;refine Bv ?_;refine An (Dj (Ap rfl rfl cN) fun _=>Ap (Kg rfl rfl (by simp only[Fx];exact if_pos (iD qa R ps))) rfl rfl) ?_;refine nC [9,10] (fun zs=>∃(q:Bool)(w:Sl),zs=[.val (.bl q),w]/\(q=false->Kpt Z r [ps])) ?_ fun zs hI=>?_
  .refine Br (Dj (Ap (Ak rfl rfl i0) rfl (sw hw2)) fun _=>Ap rfl rfl cN) (fun q=>?_) fun q=>As ⟨_,rfl,_,_,rfl,fun _ cols' g w e ps' hp' hN=>?_⟩
   rotate_left
   .rcases hcase with rfl|⟨g',w',rfl⟩
    .cases e
    .cases e;rw[omg hp']at hN;rw[hN]at q;cases q
   rcases hcase with rfl|⟨g,w,rfl⟩
   .cases q
   .have hN:Ca (wK qa ps)=false:=by simpa using(Bool.and_eq_true_iff.mp q).2
    obtain⟨b',hb',hg⟩:=omm hfit.2.1;obtain⟨R',hz'⟩:=h.of hb';have ew:Ds qa ps=Ai (wK qa ps):=by unfold Ds;rw[hN];rfl
    subst hg;refine An (Al (C.tb b' hb') rfl) ?_;refine An (Ap rfl (Ri H h hm C hz' 10 (Ab (Al (C.rw _ hz') rfl) rfl) rfl) (by rw[Bt,ew,Qi];rfl)) ?_;refine As (As ⟨_,rfl,_,_,rfl,fun q cols' g w e ps' hp' _=>?_⟩);cases e;rw[omg hp'];exact⟨_,hz',rfl,by simpa using q⟩
  .obtain⟨q,w,rfl,hq⟩:=hI;refine Br (q:=q) rfl (fun _=>?_) fun qf=>As ⟨_,rfl,_,_,_,_,_,rfl,by rw[By];lia,fun hL cols' g w e ps' hp' hN=>(oma hp').elim (fun hp'=>hK hL cols' g w e ps' hp' hN) fun hp'=>hq qf cols' g w e ps' hp' hN⟩;refine I9 (Al (C.ky b hb ps hp) rfl) rfl (by lia) ?_;exact As (As ⟨_,rfl,L++[_],_,_,_,_,rfl,by rw[Ju,Ju];exact Nat.add_le_add_right hLl 1,fun z=>absurd z (by simp)⟩)
 .obtain⟨L,x,y,z,w,rfl,_,hK⟩:=hI;exact Ar rfl ⟨_,rfl,hK⟩
end
section
theorem bY(d:Dk)(h:d.ks.length<SZ):Ms (some d.s) (.str x) w=some (d.put x w).s:=if_pos ⟨d.kd x,h⟩
variable {G:Glo}{B:List Tb}{m:Nat}(H:Sch B){Z:List Zt}(h:Stn B m Z)(cb:∀b R,(b,R)∈Z->∀r∈b.rs,∃L,G.call "_law_broken" [Am Z,Aj Z,b.t,r.t]=some (.lst L)/\(L=[]->Kpt Z r R))
include H h cb
theorem oA:W G Uz.body (st0 [Am Z,Aj Z] 2) fun o=>∃q,o=.rt (.bl q)/\(q=false->J6 Z):=by
 refine Hp [2,3] (enc:=fun z:Zt=>z.1.t) Z (fun D zs=>∃x y,zs=[x,y]/\∀z∈D,∀r∈z.1.rs,Kpt Z r z.2) [.no,.no] rfl (Dv _) rfl ⟨_,_,rfl,fun _ h=>nomatch h⟩ (fun D z D2 e zs hI=>?_) fun zs hI=>?_
 .obtain⟨x,y,rfl,hD⟩:=hI;obtain⟨b,R⟩:=z;refine Bv ?_;refine Hp [3] (enc:=Rl.t) b.rs (fun D' zs=>∃y,zs=[y]/\∀r∈D',Kpt Z r R) [y] (Ab (Ak rfl rfl (t3 b)) rfl) (Dv _) rfl ⟨_,rfl,fun _ h=>nomatch h⟩ (fun D' r D2' e' zs hI=>?_) fun zs hI=>?_
  .obtain⟨y,rfl,hD'⟩:=hI;obtain⟨L,eL,hL⟩:=cb b R (by rw[e];simp) r (by rw[e'];simp);refine Bv ?_;refine Br (Ap (Al eL rfl) rfl (Oh L)) (fun _=>Ar rfl (.inl ⟨_,rfl,.inl ⟨_,rfl,_,rfl,fun z=>nomatch z⟩⟩)) fun q=>As (.inr ⟨_,rfl,_,rfl,fun r' hr'=>(oma hr').elim (hD' r') fun hr'=>?_⟩);rw[omg hr'];exact hL (by simpa using q)
  .obtain⟨y,rfl,hD'⟩:=hI;exact As (.inr ⟨_,rfl,_,_,rfl,fun z hz=>(oma hz).elim (hD z) fun hz=>by rw[omg hz];exact hD'⟩)
 .obtain⟨x,y,rfl,hD⟩:=hI;exact Ar rfl ⟨_,rfl,fun _=>hD⟩
theorem pB(X1 X2 t:T)(er:G.call "_law_raw" [Am Z,X1,X2]=some (Aj Z)):W G V1.body (st0 [Am Z,X1,X2] 6) fun o=>∃t,o=.rt t/\((∃i:Int,t=.int i)\/t=Aj Z):=by
 have hsz:=Ci;have h4:Z.length<=4:=by rw[h.len];exact H.l4
 refine An (Al er rfl) ?_;refine Bu rfl (Mc ?_);refine Da [4,5,6] (enc:=fun z:Zt=>z.1.t) Z (fun D zs=>∃(d:Dk)(x y:Sl),zs=[d.s,x,y]/\d.ks.length<=4*D.length) [Dk.nil.s,.no,.no] rfl (Dv _) rfl ⟨_,_,_,rfl,Dn _⟩ (fun D z D2 e zs hI=>?_) fun zs hI=>?_
 .obtain⟨d0,x,y,rfl,hd0⟩:=hI;obtain⟨b,R⟩:=z;have hz:(b,R)∈Z:=by rw[e];simp
  have hrl:=(H.ok b (h.mem hz)).rl;have hD:D.length<=4:=by rw[e,By]at h4;lia
  refine Bv ?_;refine Da [4,6] (enc:=Rl.t) b.rs (fun D' zs=>∃(d:Dk)(y:Sl),zs=[d.s,y]/\d.ks.length<=d0.ks.length+D'.length) [d0.s,y] (Ab (Ak rfl rfl (t3 b)) rfl) (Dv _) rfl ⟨_,_,rfl,Dn _⟩ (fun D' r D2' e' zs hI=>?_) fun zs hI=>?_
  .obtain⟨d,y,rfl,hd⟩:=hI;have hD':D'.length<=4:=by rw[e',By]at hrl;lia
   obtain⟨L,eL,_⟩:=cb b R hz r (by rw[e'];simp);obtain⟨x,ex,dx⟩:=qW r;obtain⟨w0,i0,_⟩:=r0 r;refine Bv ?_;refine Br (Dj (Ap (Ak rfl rfl ex) rfl (if_pos dx)) fun _=>Ap (Al eL rfl) rfl (Oh L)) (fun _=>?_) fun _=>As ⟨_,rfl,d,_,rfl,by rw[By];lia⟩;refine Oq (u:=.bl true) rfl (Ak rfl rfl i0) (bY d (by lia)) ?_;have:=Dk.len (d:=d) (x:=w0) (w:=T.bl true);exact As (As ⟨_,rfl,d.put w0 (.bl true),_,rfl,by rw[By,Ii];lia⟩)
  .obtain⟨d,y,rfl,hd⟩:=hI;exact As ⟨_,rfl,d,_,_,rfl,by rw[By,Ii];lia⟩
 .obtain⟨d,x,y,rfl,_⟩:=hI;refine w_nz ?_;refine Hp [7,8] (enc:=qA) mT (fun _ zs=>∃x y,zs=[x,y]) [.no,.no] rfl (Dv _) rfl ⟨_,_,rfl⟩ (fun D p D2 e zs hI=>?_) fun zs hI=>?_
  .obtain⟨x,y,rfl⟩:=hI;refine Bv ?_;exact Br (q:=Bq d.ks (.str p.2)) (Ap rfl rfl (by show(if Bj d.ks (.str p.2)=true then some (Bq d.ks (.str p.2))else none).map T.bl=_;rw[if_pos (d.kd p.2)];rfl)) (fun _=>Ar rfl (.inl ⟨_,rfl,_,rfl,.inl ⟨_,rfl⟩⟩)) fun _=>As (.inr ⟨_,rfl,_,_,rfl⟩)
  .obtain⟨x,y,rfl⟩:=hI;exact Ar rfl ⟨_,rfl,.inr rfl⟩
end
section
structure Cal3(G:Glo)(B:List Tb)(Z:List Zt):Prop extends Cls G B Z where
 dr:∀a k:Int,G.call "_law_drawn" [.int a,.int k]=some (.int (F5 a k))
 ro:∀b∈B,∀k:Int,∃ps,G.call "_law_row" [b.t,.int k]=some (Ah ps)/\RowOk b ps
 wt:∀(c:Col)(k:Int),∃w,G.call "_law_worth" [c.t,.int k]=some w/\Wok c w/\(c.g=false->w≠.non)
def Lo(b:Tb):List Col:=b.cs.filter fun c=>!(b.key.any fun y=>y==c.n)
theorem c0(c:Col):Cm c.t (.int 0)=some (.str c.n):=by rw[Col.t,Cm,Hu]
theorem pN(h:0<m/\m<=xs.length)(i:Int):∃t∈xs,Fo xs (i%(m:Nat))=some t:=by
 have b1:0<=i%(m:Int):=Oe _ (by lia);have b2:i%(m:Int)<(m:Int):=Np _ (by lia);obtain⟨j,hj⟩:∃j:Nat,i%(m:Int)=(j:Int):=⟨(i%(m:Int)).toNat,by lia⟩;have hlt:j<xs.length:=by lia
 exact⟨xs[j],Jy hlt,by rw[hj];exact Hw (Dw hlt)⟩
variable {G:Glo}{B:List Tb}{m:Nat}(H:Sch B){Z:List Zt}(h:Stn B m Z)(C:Cal3 G B Z)(hm:m<=60)
include H h C hm
theorem qL(N:Int):W G Wl.body (st0 [Am Z,Aj Z,.int N] 11) fun o=>∃d:Dd,o=.rt d.t/\d.ok B:=by
 have hsz:=Ci;have hZ:Z≠[]:=by intro e;have h1:=h.len;have:=H.ps;rw[e]at h1;simp at h1;lia
 obtain⟨⟨b,R⟩,hz,ez⟩:=cA (enc:=fun z:Zt=>z.1.t) hZ N;have hb:=h.mem hz;have hbo:=H.ok _ hb;obtain⟨hl,hR,_⟩:R.length<=m/\_:=h.rw _ hz;have hl0:=List.length_pos_iff.mpr hZ;obtain⟨p0,cp0,hp0⟩:=C.ro b hb (N/64);refine An (Ak rfl (Ay rfl (Ct (t:=.int Z.length) rfl (Av (fun n:Nat=>some (T.int n)) (Aq _))) (Dz (by lia))) ez) ?_;refine An (Al (C.rw _ hz) rfl) ?_;refine An (Ay (Ri H h hm C.toCls hz 3 rfl rfl) (Kb (Ab (Al (C.ky b hb p0 hp0) (Ab rfl (Ab (Al cp0 rfl) rfl))) rfl)) (N2 (by rw[Aq];show R.length+1<=SZ;lia))) ?_;have hK:∀t∈R.map (Ao b)++[Ao b p0],∃k,t=Ai k/\kS k:=fun t ht=>by
  have:∃ps,RowOk b ps/\Ao b ps=t:=by
   rcases oma ht with ht|ht
   .obtain⟨ps,hp,e⟩:=omm ht;exact⟨ps,hR ps hp,e⟩
   .exact⟨p0,hp0,(omg ht).symm⟩
  obtain⟨ps,hp,rfl⟩:=this;exact⟨Ag b ps,rfl,gY hbo hp⟩
 have hKl:0<(R.map (Ao b)++[Ao b p0]).length:=by simp
 generalize R.map (Ao b)++[Ao b p0]=KS at *;obtain⟨sm,em,hs⟩:∃sm:Nat,(KS.length:Int)-(if(decide ((1:Int)<KS.length)&&decide ((0:Int)<N/4096%8))=true then 1 else 0)=sm/\0<sm/\sm<=KS.length:=by
  split
  .rename_i q;have:=Ey (Bool.and_eq_true_iff.mp q).1;exact⟨KS.length-1,by lia,by lia,by lia⟩
  .exact⟨KS.length,by lia,hKl,Dn _⟩
 refine An (js:=[5]) (t:=.int sm) (Ay rfl (Ct (Dj rfl fun _=>rfl) rfl) (Av (fun i=>some (T.int i)) em)) ?_;obtain⟨kt,hkt,e7⟩:=pN hs (N/4);obtain⟨k,rfl,hk⟩:=hK kt hkt;refine An (Ak rfl (Ay rfl rfl (Dz (by lia))) e7) ?_;refine An (t:=.int (N/65536%8)) rfl ?_;have hcl:b.cs.length<=4:=hbo.cl;refine An (Fy (enc:=Col.t) (R:=b.cs) (fun c=>!(b.key.any fun y=>y==c.n)) Col.t (xs:=[.tup (b.cs.map Col.t)]) rfl (by unfold Ed;rw[Dv,Bi,if_pos (by rw[Aq];lia)]) fun c _=>⟨_,rfl,Ap (Ak rfl rfl (c0 c)) (Ak rfl rfl (t2 b)) (by rw[Bt,Cf,Wx];rfl),fun _=>rfl⟩) ?_;have cE:Bt .eq (.lst ((Lo b).map Col.t)) (.lst [])=some (.bl (Lo b).isEmpty):=by cases Lo b<;>rfl
 refine Br (Lc (p:=decide (N/65536%8<4)) rfl fun _=>Dj (p:=N/65536%8==7) rfl fun _=>Ap rfl rfl cE) (fun _=>?_) fun _=>Br (Lc (p:=decide (N/65536%8<6)) rfl fun _=>Ap rfl rfl cE) (fun _=>Ar (t:=(Dd.drp b k).t) rfl ⟨.drp b k,rfl,hb,hk⟩) fun _=>An (t:=.lst []) rfl ?_
 .obtain⟨p1,cp1,hp1⟩:=C.ro b hb (F5 N 7/4);exact Ar (Cg (Ab rfl (Ab (Ak rfl rfl (t0 b)) (Ab (Al cp1 (Ab rfl (Ab (Ay (Al (C.dr N 7) rfl) rfl rfl) rfl))) rfl)))) ⟨.add b p1,rfl,hb,hp1⟩
 .refine Da [9,11,12,13] (enc:=fun p:Col×Nat=>T.tup [.int (p.2:Int),p.1.t]) (((Lo b).take 3).zipIdx 0) (fun D zs=>∃(L:List (Str×T))(x y z:Sl),zs=[x,.own (L.map Jz),y,z]/\Prs b L/\L.length<=D.length) [.no,.own [],.no,.no] (ts:=[.lst (((Lo b).take 3).map Col.t)])
   (by show some [T.lst (cut ((Lo b).map Col.t) none (some ((3:Nat):Int)))]=_;rw[Nw,List.map_take]) (by show some (Fu _ 0)=_;rw[Nx]) rfl ⟨[],_,_,_,rfl,fun _ h=>absurd h (by simp),Nat.le_refl _⟩ (fun D p D2 e zs hI=>?_) fun zs hI=>?_
  .obtain⟨L,x9,x12,x13,rfl,h1,h2⟩:=hI;obtain⟨c,i⟩:=p;have hc:c∈b.cs:=by have:=List.mem_map_of_mem (f:=Prod.fst) (show(c,i)∈((Lo b).take 3).zipIdx 0 by rw[e];simp);rw[List.zipIdx_map_fst]at this;exact(De.mp (W5 this)).1
   have hl1:D.length<=3:=by have:=Av List.length e;rw[List.length_zipIdx,By,Kf]at this;lia
   obtain⟨w,cw,hw⟩:=C.wt c (F5 N (30+(i:Int))/4/4);refine Bv ?_;refine An (t:=.int (F5 N (30+(i:Int))/4)) (Ay (Al (C.dr N (30+(i:Int))) rfl) rfl rfl) ?_;generalize F5 N (30+(i:Int))/4=K at *;refine Br (Lc (p:=K%2==0) rfl fun _=>rfl) (fun _=>?_) fun _=>As ⟨_,rfl,L,_,_,_,rfl,h1,by rw[By];lia⟩;refine I9 (Cg (Ab (Ak rfl rfl (c0 c)) (Ab (Al cw rfl) rfl))) rfl (by rw[Aq];lia) (As (As ?_));refine⟨_,rfl,L++[(c.n,w)],_,_,_,Av (fun l=>[_,Sl.own l,_,_]) Dx.symm,fun x hx=>?_,by rw[By,By];exact Nat.add_le_add_right h2 1⟩;rcases oma hx with hx|hx
   .exact h1 x hx
   .rw[omg hx];exact⟨c,hc,rfl,hw⟩
  .obtain⟨L,x9,x12,x13,rfl,h1,h2⟩:=hI;rw[List.length_zipIdx,Kf]at h2;exact Ar (t:=(Dd.set b k L).t) (Cg (Ab rfl (Ab (Ak rfl rfl (t0 b)) (Ab rfl (Ab rfl rfl))))) ⟨.set b k L,rfl,hb,hk,h1,by lia⟩
end
structure Cal4(G:Glo)(B:List Tb):Prop where
 dn:∀m,m<=50->∀Z,Stn B m Z->∀d:Dd,d.ok B->∃t,G.call "_law_done" [Am Z,Aj Z,d.t]=some t/\Tld B (m+1) t
 dd:∀m,m<=50->∀Z,Stn B m Z->∀N:Int,∃d:Dd,G.call "_law_deed" [Am Z,Aj Z,.int N]=some d.t/\d.ok B
 lt:∀m,m<=60->∀Z,Stn B m Z->∃b,G.call "_law_late" [Am Z,Aj Z]=some (.bl b)/\(b=false->J6 Z)
 dr:∀a k:Int,G.call "_law_drawn" [.int a,.int k]=some (.int (F5 a k))
theorem pK(q:Nat)(h:q<=1000):items .range [.int (q:Int)]=some ((List.range q).map fun(i:Nat)=>T.int (i:Int)) :=
 by
 show(if -4611686018427387904<=(q:Int)/\(q:Int)<4611686018427387904 then some (rangeT (q:Int).toNat)else none)=_;rw[if_pos (by lia)];rfl
theorem iY{G:Glo}(H:Sch B)(C:Cal4 G B)(N:Int)(M:Nat)(hM:M<=20):W G Vf.body (st0 [.tup (B.map Tb.t),.int N,.int (M:Int)] 3) fun o=>∃Z,o=.rt (Aj Z)/\Stn B M Z/\J6 Z:=by
 have h4:=H.l4;have hsz:=Ci;refine An (Ct (Gq (enc:=Tb.t) (R:=B) (fun _=>T.tup []) rfl (by unfold Ed;rw[Dv,Bi,if_pos (by rw[Aq];lia)]) fun _ _=>rfl) rfl) ?_;refine Da [3,4,5] (enc:=fun i:Nat=>T.int (i:Int)) (List.range M) (fun D zs=>∃(Z:List Zt)(x y:Sl),zs=[.val (Aj Z),x,y]/\Stn B D.length Z/\J6 Z) [.val (.tup (B.map fun _=>T.tup [])),.no,.no] rfl (pK M (by lia)) rfl ⟨B.map fun b=>(b,[]),_,_,by rw[Aj,Bz];rfl,⟨by rw[Bz];exact List.map_id'' (fun _=>rfl) _,fun z hz=>by
  obtain⟨b,_,rfl⟩:=omm hz;exact⟨Nat.le_refl _,fun _ h=>absurd h (by simp),R7⟩,by
  rw[Bz];have:∀B:List Tb,(B.map ((fun z:Zt=>z.2.length)∘fun b=>(b,[]))).sum=0:=fun B=>by induction B with
   |nil=>rfl
   |cons b B ih=>rw[Ba,Lz,ih];rfl
  exact Nat.le_of_eq (this B)⟩,fun z hz r _ qa g w _ ps hps=>by
  obtain⟨b,_,rfl⟩:=omm hz;cases hps⟩ (fun D i D2 e zs hI=>?_) fun zs hI=>?_
 .obtain⟨Z,x,y,rfl,hZ,hG⟩:=hI;have hl1:D.length<=20:=by have:=Av List.length e;rw[Nc,By]at this;lia
  obtain⟨d,ed,hd⟩:=C.dd D.length (by lia) Z hZ (F5 N (100+(i:Int))/4);obtain⟨t,et,ht⟩:=C.dn D.length (by lia) Z hZ d hd;have up:Stn B (D++[i]).length Z:=hZ.up (by rw[By];lia);rw[hZ.sch]at ed et;refine Bv ?_;refine An (Al et (Ab rfl (Ab rfl (Ab (Al ed (Ab rfl (Ab rfl (Ab (Ay (Al (C.dr N (100+(i:Int))) rfl) rfl rfl) rfl)))) rfl)))) ?_;rcases ht with⟨j,rfl⟩|⟨Z',rfl,h'⟩
  .exact Bu (Dj (p:=false) (q:=false) rfl fun h=>by cases h) (As ⟨_,rfl,Z,_,_,rfl,up,hG⟩)
  .obtain⟨b,eb,hb⟩:=C.lt _ (by lia) Z' h';rw[h'.sch]at eb;refine Br (q:=true&&!b) (Dj rfl fun _=>by rw[Ac,Ac,Al eb rfl];rfl) (fun q=>?_) fun _=>As ⟨_,rfl,Z,_,_,rfl,up,hG⟩;refine An (t:=Aj Z') rfl ?_;exact As (As ⟨_,rfl,Z',_,_,rfl,by rw[Ju];exact h',hb (by simpa using q)⟩)
 .obtain⟨Z,x,y,rfl,hZ,hG⟩:=hI;rw[Nc]at hZ;exact Ar rfl ⟨_,rfl,hZ,hG⟩
structure Mk(P:Pr):Prop where
 dr:P.fn "_law_drawn"=some Ly
 nm:P.fn "_law_names"=some Md
 tb:P.fn "_law_table"=some Ub
 ky:P.fn "_law_key"=some Ul
 wo:P.fn "_law_worths"=some W4
 rw:P.fn "_law_rows"=some Vq
 wt:P.fn "_law_worth"=some Ra
 ro:P.fn "_law_row"=some W3
 br:P.fn "_law_broken"=some Sa
 ln:P.fn "_law_links"=some Vb
 go:P.fn "_law_going"=some Sv
 pu:P.fn "_law_put"=some U2
 wi:P.fn "_law_with"=some W1
 dp:P.fn "_law_dropped"=some Uu
 ra:P.fn "_law_raw"=some X3
 dn:P.fn "_law_done"=some V1
 lt:P.fn "_law_late"=some Uz
 dd:P.fn "_law_deed"=some Wl
 st:P.fn "_law_store"=some Vf
 lv:P.fn "_law_level"=some Od
section
variable {P:Pr}(p:Mk P){B:List Tb}(H:Sch B)
include p
theorem Xp(n:Nat){b:Tb}(hb:b.ok):run P (n+1) "_law_names" [b.t]=some (.lst (b.cs.map fun c=>T.str c.n)):=R3 p.nm n hb
include H
theorem J4(n:Nat)(h:Stn B m Z):Cls (glo P (n+2)) B Z where
 tb b hb:=by obtain⟨R,hz⟩:=h.of hb;exact oW p.tb (n+1) (by rw[h.len];exact H.l4) (by rw[h.nms];exact H.nd) hz
 ky b hb ps hp:=jN p.nm p.ky n (H.ok b hb) hp
 nm b hb:=Xp p (n+1) (H.ok b hb)
 rw z hz:=nY p.rw (n+1) (by rw[h.len];exact H.l4) hz (by rw[h.nms];exact H.nd)
 wo b hb ps hp qa hc h4:=qb p.nm p.wo n (H.ok b hb) hp hc h4
theorem pM(n:Nat)(h:Stn B m Z)(hm:m<=60)(way:Str):run P (n+3) "_law_links" [Am Z,Aj Z,.str way]=some (.lst ((lks way Z).map Lk.t)):=Du p.ln (kA H h (J4 p H n h) hm way)
theorem m7(n:Nat)(h:Stn B m Z)(hm:m<=60)(hz:(b,R)∈Z)(k:List Kt):∃t,run P (n+4) "_law_going" [Am Z,Aj Z,.str b.nm,Ai k]=some t/\(((R.any fun ps=>decide (Ag b ps=k))=false/\t=.int 1)\/(R.any fun ps=>decide (Ag b ps=k))=true/\∃gone,Gone Z (b.nm,k) gone/\t=Ov Z gone) :=
 O5 p.go (qU H h hm (fun way=>pM p H n h hm way) (J4 p H (n+1) h) hz k) fun o h=>by
  rcases h with⟨h,rfl⟩|⟨h,g,hg,rfl⟩
  .exact⟨_,rfl,.inl ⟨h,rfl⟩⟩
  .exact⟨_,rfl,.inr ⟨h,g,hg,rfl⟩⟩
theorem Yh(n m:Nat):Cal (glo P (n+3)) B m where
 cl Z h:=J4 p H (n+1) h
 wi b hb ps hp L A hL hA:=Fl Ah p.wi (n:=n+2) (lK (H.ok b hb) hp hL hA (Xp p (n+1) (H.ok b hb)))
 pu Z h z hz R A hR hl hA :=
  have c:=J4 p H n h
  Fl (fun R'=>Aj (Gc Z z.1.nm R')) p.pu (n:=n+2) (mY (H.ok _ (h.mem hz)) (by rw[h.len];exact H.l4) hR hl hA (c.tb _ (h.mem hz)) fun ps hp=>c.ky _ (h.mem hz) ps (hR ps hp))
theorem ji(n:Nat)(hm:m<=60):Cal2 (glo P (n+4)) B m where
 toCal:=Yh p H (n+1) m
 go Z h z hz k:=by
  obtain⟨t,e,ht⟩:=m7 p H n h hm hz k;refine⟨t,e,?_⟩;rcases ht with⟨_,rfl⟩|⟨_,g,_,rfl⟩
  .exact .inl ⟨_,rfl⟩
  .unfold Ov;split
   .exact .inl ⟨_,rfl⟩
   .exact .inr ⟨g,_,rfl,fun l hl=>(De.mp hl).1⟩
 dr Z h gone gaps hg:=Fl Aj p.dp (n:=n+3) (gu (gone:=gone) H (Yh p H n m) hm hg h)
theorem jc(n:Nat){m:Nat}(hm:m<=50){Z:List Zt}(h:Stn B m Z){d:Dd}(hd:d.ok B):∃t,run P (n+5) "_law_raw" [Am Z,Aj Z,d.t]=some t/\Tld B (m+1) t :=
 O5 p.ra (pE H (ji p H n (by lia)) hm h hd) fun o h=>h
theorem dJ(n:Nat)(hm:m<=60)(h:Stn B m Z)(b:Tb)(R:List Row)(hz:(b,R)∈Z)(r:Rl)(hr:r∈b.rs):∃L,run P (n+5) "_law_broken" [Am Z,Aj Z,b.t,r.t]=some (.lst L)/\(L=[]->Kpt Z r R) :=
 have hb:=h.mem hz
 Fl T.lst p.br (n:=n+4) (j9 H h (J4 p H (n+2) h) hm hz hr fun t et ps hp=>by subst et;exact bj p.nm p.lv (H.ok _ hb) hp 3 n t (H.fit b hb _ hr))
theorem kE(n:Nat){m:Nat}(hm:m<=50){Z:List Zt}(h:Stn B m Z){d:Dd}(hd:d.ok B):∃t,run P (n+6) "_law_done" [Am Z,Aj Z,d.t]=some t/\Tld B (m+1) t:=by
 obtain⟨t,e,ht⟩:=jc p H n hm h hd;rcases ht with⟨i,rfl⟩|⟨Z',rfl,h'⟩
 .exact O5 p.dn (Q:=fun o=>o=.rt (.int i)) (An (Al e rfl) (El rfl (Ar rfl rfl))) fun o e=>⟨_,e,.inl ⟨i,rfl⟩⟩
 .rw[h.sch.trans h'.sch.symm]at e ⊢;refine O5 p.dn (pB H h' (fun b R hz r hr=>dJ p H n (by lia) h' b R hz r hr) (Aj Z) d.t (Aj Z') e) fun o ⟨t,e,ht⟩=>⟨t,e,?_⟩;rcases ht with⟨i,rfl⟩|rfl
  .exact .inl ⟨i,rfl⟩
  .exact .inr ⟨Z',rfl,h'⟩
theorem jQ(n:Nat)(hm:m<=60)(h:Stn B m Z):∃b,run P (n+6) "_law_late" [Am Z,Aj Z]=some (.bl b)/\(b=false->J6 Z):=Fl T.bl p.lt (n:=n+5) (oA H h fun b R hz r hr=>dJ p H n hm h b R hz r hr)
theorem gX(n:Nat)(hm:m<=60)(h:Stn B m Z)(N:Int):∃d:Dd,run P (n+3) "_law_deed" [Am Z,Aj Z,.int N]=some d.t/\d.ok B :=
 Fl Dd.t p.dd (n:=n+2) (qL H h {toCls:=J4 p H n h,dr:=fun a k=>Mp p.dr (n+1) a k,ro:=fun b hb k=>gQ p.dr p.wt p.ro n (H.ok b hb) k,wt:=fun c k=>eF p.wt (n+1) c k} hm N)
theorem pf(n:Nat)(N:Int)(M:Nat)(hM:M<=20):∃Z,run P (n+7) "_law_store" [.tup (B.map Tb.t),.int N,.int (M:Int)]=some (Aj Z)/\Stn B M Z/\J6 Z :=
 Fl Aj p.st (n:=n+6) (iY H ⟨fun m hm Z h d hd=>kE p H n hm h hd,fun m hm Z h N=>gX p H (n+3) (by lia) h N,fun m hm Z h=>jQ p H n hm h,fun a k=>Mp p.dr (n+5) a k⟩ N M hM)
end
abbrev e0(x:Str):a7 (Str×Int):=some (x,0)
section
variable {G:Glo}{ss a b:List S}{τ τ':List Sl}{Q:Out->Prop}{t u v:T}{ts us:List T}{i j n:Nat}{e c x y z:E}{es:List E}{ρ:Env}{p q:Bool}{f:Str}
theorem Nf(h:Az G es (fv τ)=some ts)(h2:O9 ts=some m)(k:Q (.rs f m)):W G (.fail f es::ss) τ Q:=w_s (o:=.rs f m) (by rw[Cp,Lm h,Bi,h2];rfl) k
theorem O1(h:Az G es (fv τ)=some ts)(h1:G.call f ts=some t)(k:W G ss τ' Q)(js:List Nat:=[])(h0:autoParam (frzAt (Bx es) τ=frzAt js τ) rf_a._auto_1)(h2:autoParam ((frzAt js τ).set i (.val t)=τ') w_nz._auto_1):W G (.asgx i f es::ss) τ Q :=
 w_s (o:=.nx τ') (by rw[Cp,Lm h,Bi,Iv,h1,<-h2,<-h0]) k
theorem Nq(h:Az G es (fv τ)=some ts)(h1:G.call f ts=none)(h2:G.exc f ts=some (x',m))(k:Q (.rs x' m)):W G (.asgx i f es::ss) τ Q :=
 w_s (o:=.rs x' m) (by rw[Cp,Lm h,Option.bind_some,Iv,h1];dsimp only;rw[h2];rfl) k
theorem Y2(h:Ac G e (fv τ)=some (.lst us))(h2:τ[i]?=some (.own ts))(h3:ts.length+us.length<=SZ)(k:W G ss τ' Q)(js:List Nat:=[])(h0:autoParam (frzAt (Ae e) τ=frzAt js τ) rf_a._auto_1)(h1:autoParam ((frzAt js τ)[i]?=τ[i]?) rf_a._auto_1)(h4:autoParam ((frzAt js τ).set i (.own (ts++us))=τ') w_nz._auto_1):W G (.ext i e::ss) τ Q :=
 w_s (o:=.nx τ') (by rw[Cp,Ke h,Option.bind_some,h0,h1,h2];dsimp only;rw[if_pos h3,h4]) k
theorem Yv{s':Sl}(h:Ac G x (fv τ)=some t)(h':Ac G y (fv τ)=some u)(h3:Oj τ[i]? t u=some s')(k:W G ss τ' Q)(js:List Nat:=[])(h0:autoParam (frzAt (Ae x++Ae y) τ=frzAt js τ) rf_a._auto_1)(h1:autoParam ((frzAt js τ)[i]?=τ[i]?) rf_a._auto_1)(h4:autoParam ((frzAt js τ).set i s'=τ') w_nz._auto_1):W G (.dapp i x y::ss) τ Q :=
 w_s (o:=.nx τ') (by rw[Cp,(Ck G x (Jh _ τ).l).trans h,Bi,(Ck G y (Jh _ τ).r).trans h',Bi,h0,h1,h3,<-h4];rfl) k
theorem jF(h:Ac G x (fv τ)=some t)(h':Ac G y (fv τ)=some u)(h3:Bj [] t=true)(k:W G ss τ' Q)(js:List Nat:=[])(h0:autoParam (frzAt (Ae x++Ae y) τ=frzAt js τ) rf_a._auto_1)(h4:autoParam ((frzAt js τ).set i (.dic [t] [u])=τ') w_nz._auto_1):W G (.dnew1 i x y::ss) τ Q :=
 w_s (o:=.nx τ') (by rw[Cp,(Ck G x (Jh _ τ).l).trans h,Bi,(Ck G y (Jh _ τ).r).trans h',Bi,if_pos h3,h0,h4]) k
theorem nk{s:Sl}(h:Ac G x (fv τ)=some t)(h1:Ac G e (fv (τ.set j .no))=some u)(h2:items .plain [u]=some us)(h3:τ[i]?=some s)(h4:L9 (some s)=some (ks,ds))(h5:Bj ks t=true/\ks.length<1000/\i≠j/\i≠n/\j≠n)(h6:Ia us ((Aw ks ds t).getD ([],[]))=some d)(k:W G ss τ' Q)(js:List Nat:=[])(h0:autoParam (frzAt (Ae x++Ae e) τ=frzAt js τ) rf_a._auto_1)(h7:autoParam ((frzAt js τ)[i]?=τ[i]?) rf_a._auto_1)(h8:autoParam (Ac G e (Au ((frzAt js τ).set j .no))=Ac G e (fv (τ.set j .no))) rf_a._auto_1)(h9:autoParam (((((frzAt js τ).set i (.dd (Ax ks t) (Bh ks ds t d))).set j .no).set n .no)=τ') w_nz._auto_1):W G (.dfill j i x n e::ss) τ Q :=
 w_s (o:=.nx τ') (by rw[Cp,(Ck G x (Jh _ τ).l).trans h,Bi,h0,h8,h1,Bi,h2,Bi,h7,h3,h4,Bi,if_pos h5,h6,<-h9];rfl) k
theorem oj{α:Type}{enc:α->T}{is:List Nat}{k:Ik}{τ0:List Sl}(ix:List Nat)(l:List α)(I:List α->List Sl->Prop)(zs:List Sl)(h:Az G es (fv τ)=some ts)(h2:items k ts=some (l.map enc))(h0:Dt ix zs τ0=τ0)(h1:I [] zs)(hs:∀l1 x l2,l=l1++x::l2->∀zs,I l1 zs->∃τ',G6 is (enc x) (Dt ix zs τ0)=some τ'/\W G b τ' fun o=>(∃x n,o=.rs x n/\Q o)\/∃zs,o=.nx (Dt ix zs τ0)/\I (l1++[x]) zs)(hk:∀zs,I l zs->W G ss (Dt ix zs τ0) Q)(js:List Nat:=[])(h4:autoParam (frzAt (Bx es) τ=frzAt js τ) rf_a._auto_1)(h3:autoParam (frzAt js τ=τ0) w_nz._auto_1):W G (.loop is k es b::ss) τ Q:=by
 rw[<-h4]at h3;subst h3;have aux:∀l2 l1,l=l1++l2->∀zs,I l1 zs->∃o,Ho (fun x τ=>(G6 is x τ).bind fun τ'=>Bp G b τ') (l2.map enc) (Dt ix zs (frzAt (Bx es) τ))=some o/\Kn G ss Q o:=by
  intro l2
  induction l2 with
  |nil=>intro l1 e zs hI;exact⟨_,rfl,hk zs (by rw[e,Jv];exact hI)⟩
  |cons x l2 ih=>
   intro l1 e zs hI;obtain⟨τ1,b1,o,b2,b3⟩:=hs l1 x l2 e zs hI;rw[Ba,Ho,b1,Bi,b2,Bi];rcases b3 with⟨x,n,rfl,hq⟩|⟨zs',rfl,hI'⟩
   .exact⟨_,rfl,hq⟩
   .exact ih (l1++[x]) (by rw[e,K9];rfl) zs' hI'
 obtain⟨o,e,k⟩:=aux l [] rfl zs h1;rw[h0]at e;exact w_s (by rw[Cp,Lm h,Bi,h2];exact e) k
theorem Pa(h:Ac G x ρ=some (.dic ts us))(h1:Ac G y ρ=some u)(h2:Ac G z ρ=some v)(h3:Bj ts u=true):Ac G (.dget x y z) ρ=some ((Aw ts us u).getD v):=by rw[Ac,h,h1,h2];exact if_pos h3
theorem L3{P:Pr}{D:Fd}(hf:P.fn f=some D)(h:W (glo P n) D.body (st0 ts i) Q)(hl:autoParam (ts.length=D.np) rf_a._auto_1)(hk:autoParam (D.ns-ts.length=i) rf_a._auto_1):∃o,Q o/\(∀t,o=.rt t->run P (n+1) f ts=some t)/\∀x m,o=.rs x m->run P (n+1) f ts=none/\Cq P (n+1) f ts=some (x,m):=by
 obtain⟨o,h1,h2⟩:=h;subst hk;refine⟨o,h2,fun t e=>?_,fun x m e=>?_⟩
 .rw[run,hf,Bi,if_pos hl];exact Av Hq (h1.trans (Av some e))
 .rw[run,Cq,hf,Bi,Bi,if_pos hl,if_pos hl];exact⟨Av Hq (h1.trans (Av some e)),Av Mn (h1.trans (Av some e))⟩
end
theorem Xq{p:Pl}(h:Cw p.2):Em (Ad p)=true:=by
 show([T.str p.1,Ai p.2].all (Bm 3))=true;rw[List.all_cons,List.all_cons];have:Bm 3 (Ai p.2)=true:=by
  refine En.mpr fun x hx=>?_;obtain⟨k,hk,rfl⟩:=omm hx;rcases k with _|_|_
  .rfl
  .exact absurd rfl (h _ hk)
  .rfl
 rw[this];rfl
theorem Iy{K:List Pl}{p:Pl}(h:∀q∈K,Cw q.2)(hp:Cw p.2):Bj (K.map Ad) (Ad p)=true:=by
 have:(K.map Ad).all Em=true:=by rw[List.all_map];exact En.mpr fun q hq=>Xq (h q hq)
 show(_||(Em (Ad p)&&(K.map Ad).all Em))=true;rw[Xq hp,this];simp
structure Plc{α:Type}[DecidableEq α](enc:α->T)(ok:α->Prop):Prop where
 eq:∀a b,eqT (enc a) (enc b)=decide (a=b)
 kd:∀{K:List α}{p:α},(∀q∈K,ok q)->ok p->Bj (K.map enc) (enc p)=true
theorem Hn:Plc Ad fun p=>Cw p.2:=⟨N3,Iy⟩
section
variable {α:Type}[DecidableEq α]{enc:α->T}{ok:α->Prop}(P:Plc enc ok)
include P in
theorem Lf(K:List α)(p:α):Bq (K.map enc) (enc p)=K.any fun x=>decide (x=p):=by unfold Bq;rw[List.any_map];congr;funext x;exact P.eq x p
noncomputable def pk(K:List α)(p:α):List α:=if(K.any fun x=>decide (x=p))=true then K else K++[p]
include P in
theorem Lb(K:List α)(p:α):Ax (K.map enc) (enc p)=(pk K p).map enc:=by
 unfold Ax pk;rw[Lf P];split
 .rfl
 .rw[Dx];rfl
include P in
theorem Tr{β:Type}(p q:α)(v:β):∀(K:List α)(V:List β),K.length=V.length->Aw (Ax (K.map enc) (enc p)) (Bh (K.map enc) V (enc p) v) (enc q)=if p=q then some v else Aw (K.map enc) V (enc q)
 |[],[],_=>by show(if eqT (enc p) (enc q)=true then some v else none)=_;rw[P.eq];by_cases e:p=q<;>simp[e,Aw]
 |a::K,w::V,h=>by
  have ih:=Tr p q v K V (by simpa using h);rw[Lb P]at ih ⊢;rw[Ba,Bh,P.eq];by_cases e:a=p
  .subst e;rw[if_pos (decide_eq_true rfl),pk,if_pos (by simp),List.map_cons,Aw,Aw,P.eq];by_cases f:a=q<;>simp[f]
  .rw[if_neg (by simpa using e)];have:pk (a::K) p=a::pk K p:=by unfold pk;rw[Ie,Lp e,Bool.false_or];split<;>rfl
   rw[this,Ba,Aw,ih,Aw,P.eq];by_cases f:a=q
   .subst f;rw[if_pos (Cd rfl),if_neg (Ne.symm e),if_pos (Cd rfl)]
   .simp[f]
include P in
theorem Vz{β:Type}(p:α)(v:β):∀(K:List α)(V:List β),K.length=V.length->(pk K p).length=(Bh (K.map enc) V (enc p) v).length
 |[],[],_=>rfl
 |a::K,w::V,h=>by
  have ih:=Vz p v K V (by simpa using h);rw[Ba,Bh,P.eq];by_cases e:a=p
  .subst e;rw[if_pos (decide_eq_true rfl),pk,if_pos (by simp)];simpa using h
  .rw[if_neg (by simpa using e)];have:pk (a::K) p=a::pk K p:=by unfold pk;rw[Ie,Lp e,Bool.false_or];split<;>rfl
   rw[this,Eb,Eb,ih]
theorem N6{β γ:Type}(f:β->γ)(t:T):∀(ks:List T)(V:List β),Aw ks (V.map f) t=(Aw ks V t).map f
 |[],_=>rfl
 |_::_,[]=>rfl
 |k::ks,v::V=>by rw[Ba,Aw,Aw,N6 f t ks V];split<;>rfl
theorem Su{K:List α}{p q:α}(h:q∈pk K p):q∈K\/q=p:=by
 unfold pk at h;split at h
 .exact .inl h
 .simpa using h
theorem Ti{K:List α}{p:α}(h:K.Nodup):(pk K p).Nodup:=by
 unfold pk;split
 .exact h
 .rename_i n;rw[List.nodup_append];exact⟨h,by simp,fun a ha b hb e=>n (List.any_eq_true.mpr ⟨a,ha,decide_eq_true (e.trans (omg hb))⟩)⟩
theorem dS(K:List α)(p:α):(pk K p).length<=K.length+1:=by unfold pk;split<;>simp
end
noncomputable def Vg:Fd:=⟨2,3,[.loop [2] .plain [A4] [.ite (.cmp .eq (.idx A6 A2) A5) [.ret A6] []],
  .ret B4]⟩
noncomputable def Uk:Fd:=⟨2,2,[.ret (.call "worths_of" [A4,A5,.idx A4 A8])]⟩
noncomputable def Uh:Fd:=⟨3,5,[.loop [3,4] .zip [A4,A5] [.ite (.cmp .eq (.idx A7 A2) A6) [.ret A9] []],
  .ret (.tup [])]⟩
noncomputable def Tx:Fd:=⟨4,6,[.asg 4 (.call "table_of" [A4,A6]),
  .loop [5] .plain [.call "rows_of" [A4,A5,A6]] [.ite (.tru (.call "is_same_key" [.call "key_of" [A9,B0],A7])) [.ret B0] []],
  .fail "NoRow" [.cst (.str "the table has no row with this key")]]⟩
noncomputable def Tw:Fd:=⟨2,2,[.ret (.land (.cmp .eq A4 A5) (.lnot (.blt .any (.comp (.isi A4 .tbool) 1 .plain [A5] none))))]⟩
noncomputable def Ua:Fd:=⟨3,4,[.asg 3 (.call "worths_of" [A4,A6,.idx A5 A3]),
  .ite (.cmp .isin B4 A7) [.ret B4] [],
  .ret A7]⟩
noncomputable def Tp:Fd:=⟨2,6,[.asg 2 (.lst []),
  .loop [3,4] .zip [A4,A5] [.loop [5] .plain [.idx A7 B1] [.ite (.cmp .eq (.idx B0 A2) B8) [.ext 2 (.call "references_by" [A7,B0,A9])] []]],
  .ret A6]⟩
noncomputable def Sn:Fd:=⟨3,6,[.asg 3 (.lst []),
  .loop [4] .plain [A6] [.asg 5 (.call "key_referred_to" [A4,A5,A9]),
  .ite (.cmp .notN B0 B4) [.app 3 (.tup [.tup [.idx A4 A2,.call "key_of" [A4,A9]],A5,.tup [.idx A5 A8,B0]])] []],
  .ret A7]⟩
noncomputable def Tj:Fd:=⟨4,6,[.asg 4 (.call "references_of" [A4,A5]),
  .asgx 5 "gone_with" [A4,A5,A9,A6,A7],
  .ret (.tup [.blt .toTuple (.blt .sorted B0),.blt .toTuple (.blt .sorted (.call "gaps_by" [A9,B0]))])]⟩
noncomputable def Tz:Fd:=⟨5,10,[.asgx 5 "row_of" [A4,A5,A7,A9],
  .asg 6 (.call "along_with" [A6,.tup [A7,.call "key_of" [.call "table_of" [A4,A7],B0]]]),
  .loop [7,8,9] .plain [A6] [.ite (.land (.cmp .eq (.idx B7 B1) H6) (.land (.cmp .isin C8 B3) (.cmp .notin B6 B3))) [.fail "Held" [.cst (.str "a row that stays refers to one that would go")]] []],
  .ret B3]⟩
noncomputable def Wu:Fd:=⟨2,8,[.dnew 2,
  .loop [3,4,5] .plain [A4] [.ite (.cmp .eq (.idx A9 B1) D6) [.dapp 2 B0 A7] []],
  .dnew1 6 A5 C0,
  .asg 7 (.lst [A5]),
  .wloop (.tru B6) [.lpop 5 7,
  .loop [3] .plain [.dget A6 B0 (.lst [])] [.ite (.cmp .notin A7 B3) [.put 6 A7 C0,
  .app 7 A7] []]],
  .ret B3]⟩
noncomputable def Sj:Fd:=⟨2,8,[.dnew 2,
  .loop [3,4,5] .plain [A4] [.ite (.land (.cmp .eq (.idx A9 B1) C9) (.land (.cmp .isin B0 A5) (.cmp .notin A7 A5))) [.dfill 6 2 A7 7 (.idx A9 A3)] []],
  .ret A6]⟩
def Lk.gp(l:Lk):Pl:=(l.g,wK l.lc l.ps)
abbrev Rf:=Lk×Str
def Rf.t(x:Rf):T:=.tup [Ad x.1.pl,(Rl.ref x.1.lc x.1.g x.2).t,Ad x.1.gp]
def F4(z:Zt):Rl->List Rf
 |.ref qa g w=>(z.2.filter fun ps=>!Ca (wK qa ps)).map fun ps=>(⟨z.1,qa,g,ps⟩,w)
 |_=>[]
def rfs(Z:List Zt):List Rf:=Z.flatMap fun z=>z.1.rs.flatMap (F4 z)
theorem bP(l:Lk):l.go=if Ca (wK l.lc l.ps)=true then none else some l.gp:=rfl
theorem U0{α:Type}{f:α->List Rf}{g:α->List Lk}{p:Rf->Bool}{c:Lk->Bool}:∀{l:List α},(∀a∈l,((f a).filter p).map (·.1)=(g a).filter c)->((l.flatMap f).filter p).map (·.1)=(l.flatMap g).filter c
 |[],_=>rfl
 |a::l,h=>by rw[J0,J0,List.filter_append,List.filter_append,Dx,h a (.head _),U0 fun b hb=>h b (.tail _ hb)]
theorem dZ(Z:List Zt)(way:Str)(c d:Lk->Bool)(hc:∀l,d l=if Ca (wK l.lc l.ps)=true then false else c l):((rfs Z).filter fun x=>x.2==way&&c x.1).map (·.1)=(lks way Z).filter d:=by
 refine U0 fun z _=>U0 fun r _=>?_;cases r with
 |ref qa g w=>
  rw[Sp,F4];by_cases e:(w==way)=true
  .rw[if_pos e,List.filter_map,List.filter_map,List.filter_filter,Bz];refine Av (List.map fun ps=>(⟨z.1,qa,g,ps⟩:Lk)) (List.filter_congr fun ps _=>?_);simp only[Function.comp_apply,e,hc,Bool.true_and];cases Ca (wK qa ps)<;>simp
  .rw[if_neg e,List.filter_map];have:(z.2.filter fun ps=>!Ca (wK qa ps)).filter ((fun x:Rf=>x.2==way&&c x.1)∘fun ps=>((⟨z.1,qa,g,ps⟩:Lk),w))=[]:=List.filter_eq_nil_iff.mpr fun ps _ h=>e (Bool.and_eq_true_iff.mp h).1;rw[this];rfl
 |_=>rfl
theorem cP{x:Rf}(hx:x∈rfs Z):∃z∈Z,∃qa g w,Rl.ref qa g w∈z.1.rs/\∃ps∈z.2,Ca (wK qa ps)=false/\x=(⟨z.1,qa,g,ps⟩,w):=by
 obtain⟨z,hz,hx⟩:=Eg.mp hx;obtain⟨r,hr,hx⟩:=Eg.mp hx;cases r with
 |ref qa g w=>obtain⟨ps,hps,rfl⟩:=omm (show x∈(z.2.filter fun ps=>!Ca (wK qa ps)).map fun ps=>((⟨z.1,qa,g,ps⟩:Lk),w)from hx);obtain⟨h1,h2⟩:=De.mp hps;exact⟨z,hz,qa,g,w,hr,ps,h1,by simpa using h2,rfl⟩
 |_=>cases hx
theorem Ln(h:Stn B m Z)(hx:x∈rfs Z):x.1.ok B x.2/\Cw x.1.gp.2/\x.1.pl∈pls Z:=by obtain⟨z,hz,qa,g,w,hr,ps,h1,h2,rfl⟩:=cP hx;refine⟨⟨h.mem hz,hr,(h.rw z hz).2.1 ps h1⟩,fun k hk e=>?_,Eg.mpr ⟨z,hz,Bw.mpr ⟨ps,h1,rfl⟩⟩⟩;have:Ca (wK qa ps)=true:=List.any_eq_true.mpr ⟨k,hk,Cd e⟩;rw[h2]at this;cases this
theorem Tt(H:Sch B)(h:Stn B m Z):(rfs Z).length<=16*m:=by
 have h1:=L6 (l:=Z) (f:=fun z=>z.1.rs.flatMap (F4 z)) (k:=4*m) fun z hz=>by
  have h2:=L6 (l:=z.1.rs) (f:=F4 z) (k:=m) fun r _=>by
   cases r with
   |ref qa g w=>rw[F4,Aq];exact Cr (K3 _ _) (h.rw z hz).1
   |_=>exact E9 _
  exact Cr h2 (Nat.mul_le_mul_right _ (H.ok _ (h.mem hz)).rl)
 have h3:=Nat.mul_le_mul_right (4*m) (show Z.length<=4 by rw[h.len];exact H.l4);unfold rfs;lia
theorem Je(H:Sch B)(h:Stn B m Z){p:Pl}(hp:p∈pls Z):Cw p.2:=by obtain⟨z,hz,hp⟩:=Eg.mp hp;obtain⟨ps,hps,rfl⟩:=omm hp;exact La (H.ok _ (h.mem hz)) ((h.rw z hz).2.1 ps hps)
structure Pc(G:Glo)(B:List Tb)(Z:List Zt):Prop where
 tb:∀b∈B,G.call "table_of" [Am Z,.str b.nm]=some b.t
 rw:∀z∈Z,G.call "rows_of" [Am Z,Aj Z,.str z.1.nm]=some (Cs z)
 wo:∀b∈B,∀ps,RowOk b ps->∀qa:List Str,(∀x∈qa,∃c∈b.cs,c.n=x)->qa.length<=4->G.call "worths_of" [b.t,Ah ps,Cf qa]=some (Ai (wK qa ps))
section
variable {G:Glo}{B:List Tb}{m:Nat}{Z:List Zt}(H:Sch B)(h:Stn B m Z)
include H h
theorem jl(hb:b∈B):W G Vg.body (st0 [Am Z,.str b.nm] 1) fun o=>o=.rt b.t:=by
 obtain⟨R,hz⟩:=h.of hb;refine Hp [2] (enc:=fun z:Zt=>z.1.t) Z (fun D zs=>∃x,zs=[x]/\∀y∈D,y.1.nm≠b.nm) [.no] rfl (Dv _) rfl ⟨_,rfl,fun _ h=>absurd h (by simp)⟩ (fun D z D2 e zs hI=>?_) fun zs hI=>?_
 .obtain⟨x,rfl,hD⟩:=hI;refine Bv ?_;refine Br (Ap (Ak rfl rfl (t0 _)) rfl (sw rfl)) (fun q=>Ar rfl (.inl ⟨_,rfl,?_⟩)) fun q=>As (.inr ⟨_,rfl,_,rfl,fun y hy=>?_⟩)
  .rw[O8 H.nd (h.mem (by rw[e];simp)) hb (Fh q)]
  .rcases oma hy with hy|hy
   .exact hD y hy
   .rw[omg hy];exact ne_of_beq_false q
 .obtain⟨x,rfl,hD⟩:=hI;exact absurd rfl (hD _ hz)
theorem qH(hz:(b,R)∈Z):W G Uh.body (st0 [Am Z,Aj Z,.str b.nm] 2) fun o=>o=.rt (Cs (b,R)):=by
 refine Hp [3,4] (enc:=fun z:Zt=>T.tup [z.1.t,Cs z]) Z (fun D zs=>∃x y,zs=[x,y]/\∀y∈D,y.1.nm≠b.nm) [.no,.no] rfl (congrArg some (Kr Z)) rfl ⟨_,_,rfl,fun _ h=>absurd h (by simp)⟩ (fun D z D2 e zs hI=>?_) fun zs hI=>?_
 .obtain⟨x,x',rfl,hD⟩:=hI;refine Bv ?_;refine Br (Ap (Ak rfl rfl (t0 _)) rfl (sw rfl)) (fun q=>Ar rfl (.inl ⟨_,rfl,?_⟩)) fun q=>As (.inr ⟨_,rfl,_,_,rfl,fun y hy=>?_⟩)
  .have:z=(b,R):=Pt (by rw[h.nms];exact H.nd) (by rw[e];simp) hz (Fh q);rw[this]
  .rcases oma hy with hy|hy
   .exact hD y hy
   .rw[omg hy];exact ne_of_beq_false q
 .obtain⟨x,x',rfl,hD⟩:=hI;exact absurd rfl (hD _ hz)
end
theorem dy{G:Glo}(k k':List Kt)(hl:k.length<=1000):W G Tw.body (st0 [Ai k',Ai k] 0) fun o=>o=.rt (.bl (decide (k'=k))):=by
 have hsz:=Ci;have hB:∀k:List Kt,Mo (k.map fun _=>T.bl false)=some (k.map fun _=>false):=fun k=>by
  induction k with
  |nil=>rfl
  |cons x k ih=>rw[Ba,Mo,ih];rfl
 refine Ar (t:=.bl (decide (k'=k))) ?_ rfl;have e:=Dj (G:=G) (x:=.cmp .eq (.var 0) (.var 1)) (y:=.lnot (.blt .any (.comp (.isi (.var 0) .tbool) 1 .plain [.var 1] none))) (ρ:=fv (st0 [Ai k',Ai k] 0)) (p:=decide (k'=k)) (q:=true) (Ap rfl rfl (by show Gz _ _=_;unfold Gz;rw[if_pos (by rw[My];decide),Ge])) fun _=>by
  rw[Ac,Ct (t:=.bl false) (Gq (enc:=kT) (R:=k) (fun _=>T.bl false) rfl (Fv (by rw[Aq];lia)) fun x _=>by rcases x with _|_|_<;>rfl) (by show(Mo _).map _=_;rw[hB];simp)];rfl
 rwa[Bool.and_true]at e
section
variable {G:Glo}{B:List Tb}{m:Nat}{Z:List Zt}(H:Sch B)(h:Stn B m Z)(hm:m<=60)(C:Pc G B Z)(ck:∀b∈B,∀ps,RowOk b ps->G.call "key_of" [b.t,Ah ps]=some (Ao b ps))
include C
theorem nr(hb:b∈B)(ho:b.ok)(hp:RowOk b ps):W G Uk.body (st0 [b.t,Ah ps] 0) fun o=>o=.rt (Ao b ps) :=
 Ar (Al (C.wo b hb ps hp b.key ho.inn (Cr ho.k1 (by decide))) (Ab rfl (Ab rfl (Ab (Ak rfl rfl (t2 b)) rfl)))) rfl
theorem Zo(hb:b∈B)(hp:RowOk b ps)(hc:∀x∈qa,∃c∈b.cs,c.n=x)(h4:qa.length<=4):W G Ua.body (st0 [b.t,(Rl.ref qa g w).t,Ah ps] 1) fun o=>o=.rt (Ds qa ps):=by refine An (Al (C.wo b hb ps hp qa hc h4) (Ab rfl (Ab rfl (Ab (Ak rfl rfl (rf1 _ _ _)) rfl)))) ?_;refine Br (q:=Ca (wK qa ps)) (Ap rfl rfl (by rw[Bt,S7];rfl)) (fun q=>Ar rfl (show Out.rt _=.rt (Ds qa ps) by unfold Ds;rw[if_pos q])) fun q=>Ar rfl (by unfold Ds;rw[q];rfl)
include H h hm ck
theorem Xg(cs:∀k k':List Kt,k.length<=1000->G.call "is_same_key" [Ai k',Ai k]=some (.bl (decide (k'=k))))(hz:(b,R)∈Z)(k:List Kt)(hk:k.length<=1000):W G Tx.body (st0 [Am Z,Aj Z,.str b.nm,Ai k] 2) fun o=>
  ((R.any fun ps=>decide (Ag b ps=k))=false/\o=.rs "NoRow" 0)\/∃ps∈R,Ag b ps=k/\o=.rt (Ah ps):=by
 have hb:=h.mem hz;refine An (Al (C.tb _ hb) rfl) ?_;refine Hp [5] (enc:=Ah) R (fun D zs=>∃x,zs=[x]/\(D.any fun ps=>decide (Ag b ps=k))=false) [.no] (Ab (Al (C.rw _ hz) rfl) rfl) (Dv _) rfl ⟨_,rfl,rfl⟩ (fun D ps D2 e zs hI=>?_) fun zs hI=>?_
 .obtain⟨x,rfl,hD⟩:=hI;have hps:ps∈R:=by rw[e];simp
  have hp:=(h.rw _ hz).2.1 ps hps;refine Bv ?_;exact Br (q:=decide (Ag b ps=k)) (by rw[Ac,Al (cs k (Ag b ps) hk) (Ab (Al (ck b hb ps hp) rfl) rfl)];rfl) (fun q=>Ar rfl (.inl ⟨_,rfl,.inr ⟨ps,hps,of_decide_eq_true q,rfl⟩⟩)) fun q=>As (.inr ⟨_,rfl,_,rfl,by rw[List.any_append,hD];simpa using q⟩)
 .obtain⟨x,rfl,hD⟩:=hI;exact Nf rfl rfl (.inl ⟨hD,rfl⟩)
theorem bA(cr:∀b∈B,∀qa g w,(Rl.ref qa g w)∈b.rs->∀ps,RowOk b ps->G.call "key_referred_to" [b.t,(Rl.ref qa g w).t,Ah ps]=some (Ds qa ps))(hz:z∈Z)(hr:Rl.ref qa g w∈z.1.rs):W G Sn.body (st0 [z.1.t,(Rl.ref qa g w).t,Cs z] 3) fun o=>o=.rt (.lst ((F4 z (.ref qa g w)).map Rf.t)):=by
 have hsz:=Ci;have hb:=h.mem hz;have hlen:z.2.length<=60:=Cr (h.rw z hz).1 hm;have hfit:=H.fit _ hb _ hr;have hc4:qa.length<=4:=((H.ok _ hb).rs _ hr);have e0:∀D:List Row,F4 (z.1,D) (.ref qa g w)=(D.filter fun ps=>!Ca (wK qa ps)).map fun ps=>(⟨z.1,qa,g,ps⟩,w):=fun _=>rfl;refine An (t:=.lst []) rfl ?_;refine Da [3,4,5] (enc:=Ah) z.2 (fun D zs=>∃(L:List T)(a b:Sl),zs=[.own L,a,b]/\L=(F4 (z.1,D) (.ref qa g w)).map Rf.t) [.own [],.no,.no] rfl (Dv _) rfl ⟨_,_,_,rfl,rfl⟩ (fun D ps D2 e zs hI=>?_) fun zs hI=>?_
 .obtain⟨_,a,b,rfl,rfl⟩:=hI;have hp:=(h.rw z hz).2.1 ps (by rw[e];simp);have hl:D.length<=60:=by rw[e,By]at hlen;lia
  refine Bv ?_;refine An (Al (cr _ hb qa g w hr ps hp) rfl) ?_;refine Br (q:=!Ca (wK qa ps)) (Ap rfl rfl (bt qa ps)) (fun q=>?_) fun q=>As ⟨_,rfl,_,_,_,rfl,by rw[e0,e0,List.filter_append,Gr,q];simp⟩;have ew:Ds qa ps=Ai (wK qa ps):=by unfold Ds;rw[if_neg (by simpa using q)]
  rw[ew];refine I9 (t:=Rf.t (⟨z.1,qa,g,ps⟩,w)) (Cg (Ab (Cg (Ab (Ak rfl rfl (t0 _)) (Ab (Al (ck _ hb ps hp) rfl) rfl))) (Ab rfl (Ab (Cg (Ab (Ak rfl rfl (rf2 _ _ _)) (Ab rfl rfl))) rfl)))) rfl (by rw[e0,Aq,Aq];have:=K3 (fun ps=>!Ca (wK qa ps)) D;lia) ?_;exact As (As ⟨_,rfl,_,_,_,rfl,by rw[e0,e0,List.filter_append,Gr,q];simp⟩)
 .obtain⟨_,a,b,rfl,rfl⟩:=hI;exact Ar rfl rfl
omit ck in
theorem e9(cb:∀z∈Z,∀qa g w,(Rl.ref qa g w)∈z.1.rs->G.call "references_by" [z.1.t,(Rl.ref qa g w).t,Cs z]=some (.lst ((F4 z (.ref qa g w)).map Rf.t))):W G Tp.body (st0 [Am Z,Aj Z] 4) fun o=>o=.rt (.lst ((rfs Z).map Rf.t)):=by
 have hsz:=Ci;have hL:=Tt H h;refine An (t:=.lst []) rfl ?_;refine Da [2,3,4,5] (enc:=fun z:Zt=>T.tup [z.1.t,Cs z]) Z (fun D zs=>∃(L:List T)(a b c:Sl),zs=[.own L,a,b,c]/\L=(rfs D).map Rf.t) [.own [],.no,.no,.no] rfl (Av some (Kr Z)) rfl ⟨_,_,_,_,rfl,rfl⟩ (fun D z D2 e zs hI=>?_) fun zs hI=>?_
 .obtain⟨_,a,b,c,rfl,rfl⟩:=hI;have hz:z∈Z:=by rw[e];simp
  refine Bv ?_;refine Da [2,5] (enc:=Rl.t) z.1.rs (fun D' zs=>∃(L:List T)(b:Sl),zs=[.own L,b]/\L=(rfs D++D'.flatMap (F4 z)).map Rf.t) [.own ((rfs D).map Rf.t),c] (Ab (Ak rfl rfl (t3 _)) rfl) (Dv _) rfl ⟨_,c,rfl,by simp⟩ (fun D' r D2' e' zs hI=>?_) fun zs hI=>?_
  .obtain⟨_,b,rfl,rfl⟩:=hI;obtain⟨w0,i0,hw⟩:=r0 r;have hr:r∈z.1.rs:=by rw[e'];simp
   refine Bv ?_;cases r with
   |ref qa g w=>rw[e,rfs,List.flatMap_append,J0,e',List.flatMap_append,J0]at hL;refine El (Ap (Ak rfl rfl i0) rfl (sw hw)) ?_;refine Y2 (us:=(F4 z (.ref qa g w)).map Rf.t) (Al (cb z hz qa g w hr) rfl) rfl (by simp[rfs]at hL ⊢;lia) ?_;exact As (As ⟨_,rfl,_,_,rfl,by simp⟩)
   |_=>exact Bu (Ap (Ak rfl rfl i0) rfl (sw hw)) (As ⟨_,rfl,_,_,rfl,by simp[F4]⟩)
  .obtain⟨_,b,rfl,rfl⟩:=hI;exact As ⟨_,rfl,_,_,_,_,rfl,by simp[rfs]⟩
 .obtain⟨_,a,b,c,rfl,rfl⟩:=hI;exact Ar rfl rfl
end
theorem ba{β γ:Type}(f:β->γ)(t:T)(v:β):∀(ks:List T)(V:List β),Bh ks (V.map f) t (f v)=(Bh ks V t v).map f
 |[],_=>rfl
 |_::_,[]=>rfl
 |k::ks,w::V=>by rw[Ba,Bh,Bh,ba f t v ks V];split<;>rfl
section
variable {α:Type}[DecidableEq α]{enc:α->T}{ok:α->Prop}
structure Dl(enc:α->T)(ok:α->Prop)(s:Sl)(n:Nat)(f:α->List α):Prop where
 ex:∃(K:List α)(V:List (List α)),(s=.dl (K.map enc) (V.map (·.map enc))\/s=.dic [] []/\K=[])/\K.length=V.length/\(∀q∈K,ok q)/\K.length<=n/\K.Nodup/\∀p,(Aw (K.map enc) V (enc p)).getD []=f p
 le:∀p,(f p).length<=n
variable (P:Plc enc ok)
include P
theorem Dl.app{s:Sl}{n:Nat}{f:α->List α}{a b:α}(h:Dl enc ok s n f)(hn:n<1000)(ha:ok a):∃s',Oj (some s) (enc a) (enc b)=some s'/\Dl enc ok s' (n+1) fun p=>f p++if a=p then[b]else[]:=by
 obtain⟨⟨K,V,hs,hl,hk,hK,hkd,hf⟩,hle⟩:=h;have e1:((Aw (K.map enc) (V.map (·.map enc)) (enc a)).getD [])=(f a).map enc:=by rw[N6,<-hf a];cases Aw (K.map enc) V (enc a)<;>rfl
 have e2:(f a).map enc++[enc b]=(f a++[b]).map enc:=by rw[Dx];rfl
 have hd:(if Bj (K.map enc) (enc a)=true/\(K.map enc).length<1000/\((Aw (K.map enc) (V.map (·.map enc)) (enc a)).getD []).length<1000 then some (Sl.dl (Ax (K.map enc) (enc a)) (Bh (K.map enc) (V.map (·.map enc)) (enc a) ((Aw (K.map enc) (V.map (·.map enc)) (enc a)).getD []++[enc b])))else none)=some (.dl ((pk K a).map enc) ((Bh (K.map enc) V (enc a) (f a++[b])).map (·.map enc))):=by rw[if_pos ⟨P.kd hk ha,by rw[Aq];lia,by rw[e1,Aq];have:=hle a;lia⟩,e1,e2,Lb P,ba]
 refine⟨_,?_,⟨_,_,.inl rfl,Vz P a (f a++[b]) K V hl,fun q hq=>?_,?_,Ti hkd,fun p=>?_⟩,fun p=>?_⟩
 .rcases hs with rfl|⟨rfl,rfl⟩
  .exact hd
  .cases V with
   |nil=>exact hd
   |cons _ _=>cases hl
 .rcases Su hq with hq|rfl
  .exact hk q hq
  .exact ha
 .have:=dS K a;lia
 .rw[<-Lb P,Tr P a p (f a++[b]) K V hl];by_cases e:a=p
  .subst e;rw[if_pos rfl,if_pos rfl];rfl
  .rw[if_neg e,if_neg e,hf,Jv]
 .have:=hle p;rw[By];split<;>simp<;>lia
theorem Dl.get{s:Sl}{n:Nat}{f:α->List α}{p:α}(h:Dl enc ok s n f)(hp:ok p):∃ks us,s.frz.get=some (.dic ks us)/\Bj ks (enc p)=true/\(Aw ks us (enc p)).getD (.lst [])=.lst ((f p).map enc):=by
 obtain⟨⟨K,V,hs,hl,hk,hK,hkd,hf⟩,hle⟩:=h;refine⟨K.map enc,(V.map (·.map enc)).map .lst,?_,P.kd hk hp,?_⟩
 .rcases hs with rfl|⟨rfl,rfl⟩
  .rfl
  .cases V with
   |nil=>rfl
   |cons _ _=>cases hl
 .rw[N6,N6,<-hf p];cases Aw (K.map enc) V (enc p)<;>rfl
omit P
structure Rk(ρ α:Type) where
 sr:ρ->α
 ga:ρ->α
 wy:ρ->Str
 ru:ρ->T
 r3:∀x,Cm (ru x) (.int 3)=some (.str (wy x))
noncomputable def Ld:Rk Rf Pl:=⟨fun x=>x.1.pl,fun x=>x.1.gp,fun x=>x.2,fun x=>(Rl.ref x.1.lc x.1.g x.2).t,fun _=>rf3 _ _ _⟩
variable {ρ:Type}(k:Rk ρ α)
noncomputable def Ep(rs:List ρ)(p:α):List α:=(rs.filter fun x=>k.wy x==("along":Str)&&decide (k.ga x=p)).map k.sr
theorem dm(rs:List ρ)(x:ρ)(p:α):Ep k (rs++[x]) p=Ep k rs p++if(k.wy x==("along":Str)&&decide (k.ga x=p))=true then[k.sr x]else[]:=by unfold Ep;rw[List.filter_append,Dx,Gr];split<;>rfl
include P
theorem eO{G:Glo}{rs:List ρ}{U:List α}{p0:α}(h0:p0∈U)(hU:U.length<=900)(hn:∀q∈U,ok q)(hr:∀x∈rs,k.sr x∈U/\ok (k.ga x))(hl:rs.length<1000):W G Wu.body (st0 [.lst (rs.map fun x=>T.tup [enc (k.sr x),k.ru x,enc (k.ga x)]),enc p0] 6) fun o=>
  ∃gone vs,o=.rt (.dic (gone.map enc) vs)/\Wk (Ep k rs) [p0] [p0] gone/\gone.Nodup/\∀q∈gone,q∈U:=by
 have hsz:=Ci;refine Mc ?_;refine Da [2,3,4,5] (enc:=fun x=>T.tup [enc (k.sr x),k.ru x,enc (k.ga x)]) rs (fun D zs=>∃(s a b c:Sl),zs=[s,a,b,c]/\Dl enc ok s D.length (Ep k D)) [.dic [] [],.no,.no,.no] rfl (Hf _) rfl ⟨_,_,_,_,rfl,⟨[],[],.inr ⟨rfl,rfl⟩,rfl,fun _ h=>absurd h (by simp),Nat.le_refl _,.nil,fun _=>rfl⟩,fun _=>Nat.le_refl _⟩ (fun D x D2 e zs hI=>?_) fun zs hI=>?_
 .obtain⟨s,a,b,c,rfl,hs⟩:=hI;have hx:=hr x (by rw[e];simp);have hD:D.length<1000:=by rw[e,By]at hl;lia
  refine Bv ?_;refine Br (q:=k.wy x==("along":Str)) (Ap (Ak rfl rfl (k.r3 _)) rfl (sw rfl)) (fun q=>?_) fun q=>As ⟨_,rfl,s,_,_,_,rfl,?_⟩
  .obtain⟨s',e1,h1⟩:=Dl.app P hs (a:=k.ga x) (b:=k.sr x) hD hx.2;refine Yv (t:=enc (k.ga x)) (u:=enc (k.sr x)) rfl rfl e1 ?_;refine As (As ⟨_,rfl,s',_,_,_,rfl,?_⟩);rw[Ju,show Ep k (D++[x])=fun p=>Ep k D p++if k.ga x=p then[k.sr x]else[]from funext fun p=>by rw[dm,q];simp];exact h1
  .have:Ep k (D++[x])=Ep k D:=funext fun p=>by rw[dm,q];simp
   rw[this,By];obtain⟨⟨K,V,h1,h2,h3,h4,h5,h7⟩,h6⟩:=hs;exact⟨⟨K,V,h1,h2,h3,by lia,h5,h7⟩,fun p=>Nat.le_succ_of_le (h6 p)⟩
 obtain⟨s,a,b,c,rfl,hs⟩:=hI;refine w_nz ?_;refine jF (t:=enc p0) (u:=.bl true) rfl rfl (P.kd (K:=[]) (fun _ h=>absurd h (by simp)) (hn p0 h0)) ?_;refine An (t:=.lst [enc p0]) (Kb rfl) ?_;refine aT [2,3,5,6,7] (fun n zs=>∃(s2 x y:Sl)(gone todo:List α)(vs:List T),zs=[s2,x,y,.dic (gone.map enc) vs,.own (todo.map enc)]/\s2.frz=s.frz/\Gst U gone todo/\U.length+todo.length=gone.length+n/\(∀q∈todo,q∈U)/\∀r,Wk (Ep k rs) gone todo r->Wk (Ep k rs) [p0] [p0] r) U.length [s,a,c,.dic [enc p0] [.bl true],.own [enc p0]] (by lia) rfl ⟨_,_,_,[_],[_],_,rfl,rfl,⟨by simp,fun p hp=>by rw[omg hp];exact h0,Nat.le_refl _⟩,by simp;lia,fun p hp=>by rw[omg hp];exact h0,fun _ h=>h⟩ fun n zs hI=>?_;obtain⟨s2,x,y,gone,todo,vs,rfl,h2,g,e,hT,hW⟩:=hI;have hgl:=Jb g.nd g.su;refine⟨!todo.isEmpty,by show some (T.bl (!(todo.map enc).isEmpty))=_;rw[List.isEmpty_map],fun q=>?_,fun q=>?_⟩
 .rcases List.eq_nil_or_concat todo with rfl|⟨t1,p,rfl⟩
  .cases q
  rw[List.concat_eq_append]at *;have hle:=g.le;rw[By,Ii]at e hle;obtain⟨ks,us,e1,e2,e3⟩:=Dl.get P hs (p:=p) (hn p (hT p (by simp)));refine w_nz ?_;refine bV (ts:=t1.map enc) (t:=enc p) (Av (fun l=>some (Sl.own l)) Dx) (by decide) ?_;refine Da (js:=[2]) [3,6,7] (enc:=enc) (Ep k rs p) (fun D zs=>∃(z:Sl)(go to:List α)(vs:List T),zs=[z,.dic (go.map enc) vs,.own (to.map enc)]/\Gst U go to/\go.length+t1.length=gone.length+to.length/\(∀q∈to,q∈U)/\vis D gone t1=(go,to)) [x,.dic (gone.map enc) vs,.own (t1.map enc)] (ts:=[.lst ((Ep k rs p).map enc)]) (Ab (by rw[Pa (ts:=ks) (us:=us) (u:=enc p) (v:=.lst []) (by rw[Ac];exact(Av Sl.get h2).trans e1) rfl rfl e2,e3]) rfl) (Hf _) rfl ⟨_,gone,t1,_,rfl,⟨g.nd,g.su,by lia⟩,rfl,fun q hq=>hT q (List.mem_append_left _ hq),rfl⟩ (fun D l D2 e zs hI=>?_) fun zs hI=>?_
  .obtain⟨z,go,to,vs,rfl,g',e',hT',ev⟩:=hI;have hlU:l∈U:=by
    have:l∈Ep k rs p:=by rw[e];simp
    obtain⟨y,hy,rfl⟩:=omm this;exact(hr y (De.mp hy).1).1
   have hgl:=Jb g'.nd g'.su;have hle:=g'.le;have hk:Bj (go.map enc) (enc l)=true:=P.kd (fun q hq=>hn q (g'.su q hq)) (hn l hlU);refine Bv ?_;refine Br (q:=!(go.any fun x=>decide (x=l))) (Ap rfl rfl (by show(if Bj (go.map enc) (enc l)=true then _ else none).map _=_;rw[if_pos hk,Lf P];rfl)) (fun q=>?_) fun q=>As ⟨_,rfl,_,go,to,_,rfl,g',e',hT',?_⟩
   .have q:(go.any fun x=>decide (x=l))=false:=by simpa using q
    refine Oq (u:=.bl true) (t:=enc l) (s':=.dic ((go++[l]).map enc) (Bh (go.map enc) vs (enc l) (.bl true))) rfl rfl (by show(if _ then _ else none)=_;rw[if_pos ⟨hk,by rw[Aq];lia⟩,Lb P,pk,q];rfl) ?_;refine I9 (t:=enc l) rfl rfl (by rw[Aq];lia) ?_;refine As (As ⟨_,rfl,_,go++[l],to++[l],_,by rw[Dx (l₁:=to)],⟨?_,fun p hp=>?_,?_⟩,?_,fun p hp=>?_,?_⟩)
    .rw[List.nodup_append];exact⟨g'.nd,by simp,fun a ha b hb e=>List.any_eq_false.mp q a ha (decide_eq_true (e.trans (omg hb)))⟩
    .rcases oma hp with hp|hp
     .exact g'.su p hp
     .rw[omg hp];exact hlU
    .simp;lia
    .simp;lia
    .rcases oma hp with hp|hp
     .exact hT' p hp
     .rw[omg hp];exact hlU
    .rw[Mx,ev,O7,if_neg (by rw[q];decide)]
   .rw[Mx,ev,O7,if_pos (by simpa using q)]
  .obtain⟨z,go,to,vs,rfl,g',e',hT',ev⟩:=hI;have:=Jb g'.nd g'.su;exact As ⟨n-1,_,rfl,by lia,s2.frz,_,_,go,to,_,rfl,by rw[frz2,h2],g',by lia,hT',fun r hr=>hW r (.step rfl (by rw[ev];exact hr))⟩
 .have q:todo=[]:=by simpa using q
  exact Ar rfl ⟨gone,vs,rfl,hW gone (.nil q),g.nd,g.su⟩
end
noncomputable def Dy(w:Str)(gone:List Pl)(x:Rf):Bool:=x.2==w&&((gone.any fun y=>decide (y=x.1.gp))&&!(gone.any fun y=>decide (y=x.1.pl)))
theorem Xx{G:Glo}{w:Str}{gone:List Pl}{vs:List T}{x:Rf}{ρ:Env}{i j l g:Nat}(hn:∀q∈gone,Cw q.2)(h1:Cw x.1.gp.2)(h2:Cw x.1.pl.2)(hj:(ρ[j]?).join=some (Rl.ref x.1.lc x.1.g x.2).t)(hi:(ρ[i]?).join=some (Ad x.1.pl))(hl:(ρ[l]?).join=some (Ad x.1.gp))(hg:(ρ[g]?).join=some (.dic (gone.map Ad) vs)):Ac G (.land (.cmp .eq (.idx (.var j) (.cst (.int 3))) (.cst (.str w))) (.land (.cmp .isin (.var l) (.var g)) (.cmp .notin (.var i) (.var g)))) ρ=some (.bl (Dy w gone x)):=by
 have v:∀{k:Nat}{t:T},(ρ[k]?).join=some t->Ac G (.var k) ρ=some t:=fun h=>by rw[Ac];exact h
 refine Dj (Ap (Ak (v hj) rfl (rf3 _ _ _)) rfl (sw rfl)) fun _=>Dj (Ap (v hl) (v hg) ?_) fun _=>Ap (v hi) (v hg) ?_
 .show(if Bj (gone.map Ad) (Ad x.1.gp)=true then _ else none).map _=_;rw[if_pos (Iy hn h1),Lf Hn];rfl
 .show(if Bj (gone.map Ad) (Ad x.1.pl)=true then _ else none).map _=_;rw[if_pos (Iy hn h2),Lf Hn];rfl
section
variable {G:Glo}{rs:List Rf}{U:List Pl}(hn:∀q∈U,Cw q.2)(hr:∀x∈rs,x.1.pl∈U/\Cw x.1.gp.2)
include hn hr
theorem jJ{X0 X1:T}{b:Tb}{R:List Row}{k:List Kt}(hro:(R.any fun ps=>decide (Ag b ps=k))=false/\G.call "row_of" [X0,X1,.str b.nm,Ai k]=none/\G.exc "row_of" [X0,X1,.str b.nm,Ai k]=e0 "NoRow"\/∃ps∈R,Ag b ps=k/\G.call "row_of" [X0,X1,.str b.nm,Ai k]=some (Ah ps))(ct:G.call "table_of" [X0,.str b.nm]=some b.t)(ck:∀ps∈R,G.call "key_of" [b.t,Ah ps]=some (Ao b ps))(ca:(b.nm,k)∈U->∃gone vs,G.call "along_with" [.lst (rs.map Rf.t),Ad (b.nm,k)]=some (.dic (gone.map Ad) vs)/\Wk (Ep Ld rs) [(b.nm,k)] [(b.nm,k)] gone/\gone.Nodup/\∀q∈gone,q∈U)(hU:(R.any fun ps=>decide (Ag b ps=k))=true->(b.nm,k)∈U):W G Tz.body (st0 [X0,X1,.lst (rs.map Rf.t),.str b.nm,Ai k] 5) fun o=>((R.any fun ps=>decide (Ag b ps=k))=false/\o=.rs "NoRow" 0)\/(R.any fun ps=>decide (Ag b ps=k))=true/\∃gone vs,(Wk (Ep Ld rs) [(b.nm,k)] [(b.nm,k)] gone/\gone.Nodup/\∀q∈gone,q∈U)/\(rs.any (Dy "stop" gone)=true/\o=.rs "Held" 0\/rs.any (Dy "stop" gone)=false/\o=.rt (.dic (gone.map Ad) vs)):=by
 rcases hro with⟨h1,h2,h3⟩|⟨ps,h1,rfl,h2⟩
 .exact Nq rfl h2 h3 (.inl ⟨h1,rfl⟩)
 have ht:(R.any fun qs=>decide (Ag b qs=Ag b ps))=true:=List.any_eq_true.mpr ⟨ps,h1,Cd rfl⟩;obtain⟨gone,vs,e,hw,nd,su⟩:=ca (hU ht);refine O1 rfl h2 ?_;refine An (Al e (Ab rfl (Ab (Cg (Ab rfl (Ab (Al (ck ps h1) (Ab (Al ct rfl) rfl)) rfl))) rfl))) ?_;refine oj [7,8,9] (enc:=Rf.t) rs (fun D zs=>∃a b c:Sl,zs=[a,b,c]/\D.any (Dy "stop" gone)=false) [.no,.no,.no] rfl (Hf _) rfl ⟨_,_,_,rfl,rfl⟩ (fun D x D2 e zs hI=>?_) fun zs hI=>?_
 .obtain⟨a,b,c,rfl,hD⟩:=hI;have hx:=hr x (by rw[e];simp);refine Bv ?_;exact Br (Xx (fun q hq=>hn q (su q hq)) hx.2 (hn _ hx.1) rfl rfl rfl rfl) (fun q=>Nf rfl rfl (.inl ⟨_,_,rfl,.inr ⟨ht,gone,vs,⟨hw,nd,su⟩,.inl ⟨by rw[e];simp[q],rfl⟩⟩⟩)) fun q=>As (.inr ⟨_,rfl,_,_,_,rfl,by rw[List.any_append,hD];simp[q]⟩)
 .obtain⟨a,b,c,rfl,hD⟩:=hI;exact Ar rfl (.inr ⟨ht,gone,vs,⟨hw,nd,su⟩,.inr ⟨hD,rfl⟩⟩)
end
theorem dO{β:Type}{t:T}{v w:β}:∀{ks:List T}{V:List β},w∈Bh ks V t v->w∈V\/w=v
 |[],_,h=>.inr (omg h)
 |_::_,[],h=>.inr (omg h)
 |k::ks,x::V,h=>by
  rw[Bh]at h;split at h
  .rcases omc h with h|h
   .exact .inr h
   .exact .inl (.tail _ h)
  .rcases omc h with rfl|h
   .exact .inl (.head _)
   .rcases dO h with h|h
    .exact .inl (.tail _ h)
    .exact .inr h
structure Cn(d:List T×List T)(P:Str->Prop):Prop where
 st:d.1.all Hc=true
 mem:∀x,T.str x∈d.1↔P x
 ln:d.1.length=d.2.length
 no:∀v∈d.2,v=T.non
theorem L5{ks:List T}(h:ks.all Hc=true)(c:Str):Bq ks (.str c)=true↔T.str c∈ks:=by
 unfold Bq;rw[List.any_eq_true];constructor
 .rintro⟨k,hk,e⟩;have:=oml h k hk;cases k with
  |str x=>rw[<-Fh (show(x==c)=true from e)];exact hk
  |_=>cases this
 .exact fun hk=>⟨_,hk,by show(c==c)=true;simp⟩
theorem cF{t:T}{v:T}:∀{ks vs:List T},ks.length=vs.length->(Ax ks t).length=(Bh ks vs t v).length
 |[],[],_=>rfl
 |k::ks,w::vs,h=>by
  have ih:=cF (t:=t) (v:=v) (ks:=ks) (vs:=vs) (by simpa using h);unfold Ax at ih ⊢;rw[Bh,Bq,Ie];by_cases e:eqT k t=true
  .rw[if_pos (by rw[e];rfl),if_pos e];simpa using h
  .rw[if_neg e,show eqT k t=false by simpa using e,Bool.false_or];unfold Bq at ih;split<;>rename_i q
   .rw[if_pos q]at ih;rw[Eb,Eb,ih]
   .rw[if_neg q]at ih;have e1:=ih;simp only[List.length_append,List.length_cons,List.length_nil]at e1 ⊢;lia
theorem Cn.put{d:List T×List T}{P:Str->Prop}(h:Cn d P)(c:Str):Cn (Ax d.1 (.str c),Bh d.1 d.2 (.str c) .non) fun x=>P x\/x=c:=by
 refine⟨?_,fun x=>?_,cF h.ln,fun v hv=>(dO hv).elim (h.no v) id⟩
 .show(Ax d.1 (.str c)).all Hc=true;unfold Ax;split
  .exact h.st
  .rw[List.all_append,h.st];rfl
 .show T.str x∈Ax d.1 (.str c)↔_;rw[<-h.mem x];unfold Ax;split
  .rename_i q;exact⟨.inl,fun w=>w.elim id fun w=>by rw[w];exact(L5 h.st c).mp q⟩
  .rw[Oc,Me,T.str.injEq]
theorem Z6:∀(cs:List Str){p:List T×List T}{P:Str->Prop},Cn p P->p.1.length+cs.length<SZ->∃d,Ia (cs.map .str) p=some d/\Cn d (fun x=>P x\/x∈cs)/\d.1.length<=p.1.length+cs.length
 |[],p,P,h,_=>⟨p,rfl,⟨h.st,fun x=>by rw[h.mem];simp,h.ln,h.no⟩,Nat.le_refl _⟩
 |c::cs,p,P,h,hl=>by
  rw[Eb]at hl;have h1:=h.put c;have l1:(Ax p.1 (.str c)).length<=p.1.length+1:=by
   unfold Ax;split
   .exact Nat.le_succ _
   .simp
  obtain⟨d,e,h2,h3⟩:=Z6 cs h1 (by dsimp only;lia);refine⟨d,?_,⟨h2.st,fun x=>by rw[h2.mem,List.mem_cons,or_assoc],h2.ln,h2.no⟩,by dsimp only at h3;rw[List.length_cons];lia⟩;rw[Ba,Ia,if_pos ⟨by unfold Bj;rw[h.st];rfl,by lia⟩];exact e
def Gp(rs:List Rf)(gone:List Pl)(p:Pl)(x:Str):Prop:=∃y∈rs,Dy "gap" gone y=true/\y.1.pl=p/\x∈y.1.lc
structure Dp(s:Sl)(n:Nat)(K:List Pl)(G:Pl->Str->Prop):Prop where
 ex:∃V:List (List T×List T),(s=.dd (K.map Ad) V\/s=.dic [] []/\K=[])/\K.length=V.length/\∀p,Cn ((Aw (K.map Ad) V (Ad p)).getD ([],[])) (G p)/\((Aw (K.map Ad) V (Ad p)).getD ([],[])).1.length<=4*n
 nd:K.Nodup
 le:K.length<=n
def Qt(rs:List Rf)(gone:List Pl)(ds:List T):Prop:=∀p,∃d:List T×List T,Cn d (Gp rs gone p)/\(Aw (((((rs.filter (Dy "gap" gone)).map (·.1.pl)).foldl pk []).map Ad)) ds (Ad p)).getD (.dic [] [])=.dic d.1 d.2
theorem pX{G:Glo}{rs:List Rf}{U gone:List Pl}{vs:List T}(hn:∀q∈U,Cw q.2)(hr:∀x∈rs,x.1.pl∈U/\Cw x.1.gp.2/\x.1.lc.length<=4)(hg:∀q∈gone,Cw q.2)(hl:rs.length<1000):W G Sj.body (st0 [.lst (rs.map Rf.t),.dic (gone.map Ad) vs] 6) fun o=>
  ∃ds,o=.rt (.dic ((((rs.filter (Dy "gap" gone)).map (·.1.pl)).foldl pk []).map Ad) ds)/\Qt rs gone ds:=by
 have hsz:=Ci;have c0:Cn ([],[]) fun _=>False:=⟨rfl,fun _=>by simp,rfl,fun _ h=>nomatch h⟩;refine Mc ?_;refine Da [2,3,4,5,6,7] (enc:=Rf.t) rs (fun D zs=>∃(s a b c d e:Sl),zs=[s,a,b,c,d,e]/\Dp s D.length (((D.filter (Dy "gap" gone)).map (·.1.pl)).foldl pk []) (Gp D gone)/\∀q∈((D.filter (Dy "gap" gone)).map (·.1.pl)).foldl pk [],q∈U) [.dic [] [],.no,.no,.no,.no,.no] rfl (Hf _) rfl ⟨_,_,_,_,_,_,rfl,⟨⟨[],.inr ⟨rfl,rfl⟩,rfl,fun p=>⟨⟨rfl,fun x=>⟨fun h=>absurd h (Wo),fun⟨y,hy,_⟩=>absurd hy Wo⟩,rfl,fun _ h=>absurd h Wo⟩,Nat.zero_le _⟩⟩,R7,Nat.le_refl _⟩,fun _ h=>absurd h (by simp)⟩ (fun D x D2 e zs hI=>?_) fun zs hI=>?_
 .obtain⟨s,a,b,c,d,f,rfl,hs,hK⟩:=hI;obtain⟨hx,hx2,hx4⟩:=hr x (by rw[e];simp);have hD:D.length<1000:=by rw[e,By]at hl;lia
  refine Bv ?_;have eK:((D++[x]).filter (Dy "gap" gone)).map (·.1.pl)=(D.filter (Dy "gap" gone)).map (·.1.pl)++if Dy "gap" gone x=true then[x.1.pl]else[]:=by rw[List.filter_append,Dx,Gr];split<;>rfl
  rw[eK,List.foldl_append];generalize((D.filter (Dy "gap" gone)).map (·.1.pl)).foldl pk []=K at *;obtain⟨⟨V,h1,h2,h3⟩,h4,h5⟩:=hs;refine Br (Xx hg hx2 (hn _ hx) rfl rfl rfl rfl) (fun q=>?_) fun q=>As ⟨_,rfl,s,_,_,_,_,_,rfl,?_⟩
  .rw[q];have hd:L9 (some s)=some (K.map Ad,V):=by
    rcases h1 with rfl|⟨rfl,rfl⟩
    .rfl
    .cases V with
     |nil=>rfl
     |cons _ _=>cases h2
   have hp:=h3 x.1.pl;obtain⟨w,e1,e2,e3⟩:=Z6 x.1.lc hp.1 (by have:=hp.2;lia);refine nk (s:=s) (t:=Ad x.1.pl) rfl (Ak rfl rfl (rf1 _ _ _)) (Dv _) rfl hd ⟨Iy (fun q hq=>hn q (hK q hq)) (hn _ hx),by rw[Aq];lia,by decide,by decide,by decide⟩ e1 ?_;refine As (As ⟨_,rfl,_,_,_,_,_,_,rfl,⟨⟨Bh (K.map Ad) V (Ad x.1.pl) w,.inl (by rw[Lb Hn];rfl),Vz Hn _ w K V h2,fun p=>?_⟩,Ti h4,?_⟩,fun q hq=>?_⟩)
   .rw[show List.foldl pk K (if true=true then[x.1.pl]else[])=pk K x.1.pl from rfl,<-Lb Hn,Tr Hn x.1.pl p w K V h2];by_cases ep:x.1.pl=p
    .rw[if_pos ep];subst ep;refine⟨⟨e2.st,fun y=>?_,e2.ln,e2.no⟩,?_⟩
     .show T.str y∈w.1↔_;rw[e2.mem];refine⟨fun h=>h.elim (fun⟨z,hz,h⟩=>⟨z,List.mem_append_left _ hz,h⟩) fun h=>⟨x,by simp,q,rfl,h⟩,fun⟨z,hz,h⟩=>?_⟩;rcases oma hz with hz|hz
      .exact .inl ⟨z,hz,h⟩
      .rw[omg hz]at h;exact .inr h.2.2
     .show w.1.length<=_;have:=hp.2;rw[By,Ii];lia
    .rw[if_neg ep];have hp:=h3 p;refine⟨⟨hp.1.st,fun y=>?_,hp.1.ln,hp.1.no⟩,by have:=hp.2;rw[By];lia⟩;rw[hp.1.mem];refine⟨fun⟨z,hz,h⟩=>⟨z,List.mem_append_left _ hz,h⟩,fun⟨z,hz,h⟩=>?_⟩;rcases oma hz with hz|hz
     .exact⟨z,hz,h⟩
     .rw[omg hz]at h;exact absurd h.2.1 ep
   .have:=dS K x.1.pl;rw[By,Ii];exact Cr this (by lia)
   .rcases Su hq with hq|rfl
    .exact hK q hq
    .exact hx
  .rw[q];refine⟨⟨⟨V,h1,h2,fun p=>?_⟩,h4,by rw[By];exact Nat.le_add_right_of_le h5⟩,hK⟩;have hp:=h3 p;show Cn ((Aw (K.map Ad) V (Ad p)).getD ([],[])) (Gp (D++[x]) gone p)/\((Aw (K.map Ad) V (Ad p)).getD ([],[])).1.length<=4*(D++[x]).length;refine⟨⟨hp.1.st,fun y=>?_,hp.1.ln,hp.1.no⟩,by have:=hp.2;rw[By];lia⟩;rw[hp.1.mem];refine⟨fun⟨z,hz,h⟩=>⟨z,List.mem_append_left _ hz,h⟩,fun⟨z,hz,h⟩=>?_⟩;rcases oma hz with hz|hz
   .exact⟨z,hz,h⟩
   .rw[omg hz,q]at h;exact absurd h.1 Fg
 .obtain⟨s,a,b,c,d,f,rfl,⟨⟨V,h1,h2,h3⟩,_⟩,_⟩:=hI;have fin:Qt rs gone (V.map fun d=>.dic d.1 d.2):=fun p=>⟨_,(h3 p).1,by rw[N6];cases Aw _ V (Ad p)<;>rfl⟩;rcases h1 with rfl|⟨rfl,h1⟩
  .exact Ar rfl ⟨_,rfl,fin⟩
  .refine Ar rfl ⟨_,?_,fin⟩;rw[h1]at h2 ⊢;cases V with
   |nil=>rfl
   |cons _ _=>cases h2
theorem Ug{α:Type}(p:α->Bool):∀l:List α,l.any p=!(l.filter p).isEmpty
 |[]=>rfl
 |a::l=>by rw[Ie,Gr,Ug p l];cases p a<;>rfl
theorem jC(gone:List Pl)(l:Lk):hit gone l=if Ca (wK l.lc l.ps)=true then false else(gone.any fun y=>decide (y=l.gp))&&!(gone.any fun y=>decide (y=l.pl)):=by
 unfold hit;rw[bP];cases Ca (wK l.lc l.ps)with
 |true=>simp
 |false=>simp[eq_comm]
theorem Vd(Z:List Zt)(w:Str)(gone:List Pl):((rfs Z).filter (Dy w gone)).map (·.1)=(lks w Z).filter (hit gone):=dZ Z w _ _ (jC gone)
theorem Re(Z:List Zt)(w:Str)(gone:List Pl):(rfs Z).any (Dy w gone)=(lks w Z).any (hit gone):=by rw[Ug,Ug,<-Vd,List.isEmpty_map]
theorem Q5(Z:List Zt):Ep Ld (rfs Z)=Jc (lks "along" Z):=funext fun p=>by
 have:=dZ Z "along" (fun l=>decide (l.gp=p)) (fun l=>decide (l.go=some p)) fun l=>by rw[bP];cases Ca (wK l.lc l.ps)<;>simp
 unfold Jc Ep;rw[<-this,Bz];rfl
theorem X7{α:Type}[DecidableEq α]{enc:α->T}{ok:α->Prop}(P:Plc enc ok):∀(L K:List α),(L.foldl pk K).map enc=(L.map enc).foldl Ax (K.map enc)
 |[],_=>rfl
 |p::L,K=>by rw[Ba,List.foldl_cons,List.foldl_cons,X7 P L,Lb P]
theorem Y4{α:Type}[DecidableEq α]:∀(L:List α){K:List α},K.Nodup->(L.foldl pk K).Nodup
 |[],_,h=>h
 |p::L,_,h=>Y4 L (Ti h)
theorem Rb{α:Type}[DecidableEq α]:∀(L:List α){K:List α}{q:α},q∈L.foldl pk K->q∈K\/q∈L
 |[],_,_,h=>.inl h
 |p::L,_,_,h=>by
  rcases Rb L h with h|h
  .rcases Su h with h|rfl
   .exact .inl h
   .exact .inr (.head _)
  .exact .inr (.tail _ h)
theorem Zr{p:Pl}(h:Cw p.2):Bm 2 (Ad p)=true:=by
 show([T.str p.1,Ai p.2].all (Bm 1))=true;rw[List.all_cons,List.all_cons];have:Bm 1 (Ai p.2)=true:=by
  refine En.mpr fun x hx=>?_;obtain⟨k,hk,rfl⟩:=omm hx;rcases k with _|_|_
  .rfl
  .exact absurd rfl (h _ hk)
  .rfl
 rw[this];rfl
section
variable {B:List Tb}{m:Nat}{Z:List Zt}(H:Sch B)(h:Stn B m Z)(hm:m<=15)
include H h hm
theorem Uv{l:List Pl}(nd:l.Nodup)(su:∀p∈l,p∈pls Z):∃ts,Eo (l.map Ad)=some (.lst ts)/\∀t∈ts,Bm 2 t=true:=by
 have hl:=Jb nd su;have hp:=Lq H h;have hk:∀p∈l,Cw p.2:=fun p q=>Je H h (su p q);refine⟨_,if_pos (V2 (Jf 2) (by decide) (by rw[List.length_map];lia) (List.pairwise_map.mpr (nd.imp fun{a b}n e=>n (by simpa[N3]using congrArg (fun t=>eqT t (Ad b)) e))) (fun x hx=>?_) (fun x hx y hy=>?_) (.inl ⟨1,fun x hx=>?_⟩)),fun t ht=>?_⟩
 .obtain⟨p,q,rfl⟩:=omm hx;exact Zr (hk p q)
 .obtain⟨p,hp,rfl⟩:=omm hx;obtain⟨q,hq,rfl⟩:=omm hy;show ∃b,(if eqT (.str p.1) (.str q.1)=true then(if eqT (Ai p.2) (Ai q.2)=true then Dc [] []else E1 (Ai p.2) (Ai q.2))else E1 (.str p.1) (.str q.1))=some b;split
  .rename_i e;split
   .exact⟨_,rfl⟩
   .obtain⟨z,hz,h1⟩:=Eg.mp (su p hp);obtain⟨y,hz2,h2⟩:=Eg.mp (su q hq);obtain⟨ps,hps,rfl⟩:=omm h1;obtain⟨qs,hqs,rfl⟩:=omm h2;have:z=y:=Pt (by rw[h.nms];exact H.nd) hz hz2 (Fh e);subst this;exact V4 (H.ok _ (h.mem hz)) ((h.rw z hz).2.1 ps hps) ((h.rw z hz).2.1 qs hqs)
  .exact⟨_,rfl⟩
 .obtain⟨p,q,rfl⟩:=omm hx;exact⟨_,_,rfl,rfl⟩
 .obtain⟨p,q,rfl⟩:=omm ((Iq _).mem_iff.mp ht);exact Zr (hk p q)
def Pq(Z:List Zt)(gone:List Pl)(t:T):Prop:=∃gs ps,Eo (gone.map Ad)=some (.lst gs)/\Eo (Rc ((((lks "gap" Z).filter (hit gone)).map Lk.pl).map Ad))=some (.lst ps)/\(∀t∈gs,Bm 2 t=true)/\(∀t∈ps,Bm 2 t=true)/\t=.tup [.tup gs,.tup ps]
theorem mi{G:Glo}{b:Tb}{R:List Row}{k:List Kt}(cr:G.call "references_of" [Am Z,Aj Z]=some (.lst ((rfs Z).map Rf.t))) (cg:(R.any fun ps=>decide (Ag b ps=k))=false/\G.call "gone_with" [Am Z,Aj Z,.lst ((rfs Z).map Rf.t),.str b.nm,Ai k]=none/\G.exc "gone_with" [Am Z,Aj Z,.lst ((rfs Z).map Rf.t),.str b.nm,Ai k]=e0 "NoRow" \/
   (R.any fun ps=>decide (Ag b ps=k))=true/\∃gone vs,(Wk (Ep Ld (rfs Z)) [(b.nm,k)] [(b.nm,k)] gone/\gone.Nodup/\∀q∈gone,q∈pls Z)/\((rfs Z).any (Dy "stop" gone)=true/\G.call "gone_with" [Am Z,Aj Z,.lst ((rfs Z).map Rf.t),.str b.nm,Ai k]=none/\G.exc "gone_with" [Am Z,Aj Z,.lst ((rfs Z).map Rf.t),.str b.nm,Ai k]=e0 "Held"\/(rfs Z).any (Dy "stop" gone)=false/\G.call "gone_with" [Am Z,Aj Z,.lst ((rfs Z).map Rf.t),.str b.nm,Ai k]=some (.dic (gone.map Ad) vs)))
  (ca:∀gone vs,(∀q∈gone,Cw q.2)->∃ds,G.call "gaps_by" [.lst ((rfs Z).map Rf.t),.dic (gone.map Ad) vs]=some (.dic (((((rfs Z).filter (Dy "gap" gone)).map (·.1.pl)).foldl pk []).map Ad) ds)/\Qt (rfs Z) gone ds):
  W G Tj.body (st0 [Am Z,Aj Z,.str b.nm,Ai k] 2) fun o=>((R.any fun ps=>decide (Ag b ps=k))=false/\o=.rs "NoRow" 0)\/(R.any fun ps=>decide (Ag b ps=k))=true/\∃gone,Gone Z (b.nm,k) gone/\((lks "stop" Z).any (hit gone)=true/\o=.rs "Held" 0\/(lks "stop" Z).any (hit gone)=false/\∃t,Pq Z gone t/\o=.rt t):=by
 refine An (Al cr rfl) ?_;rcases cg with⟨h1,h2,h3⟩|⟨h1,gone,vs,⟨hw,nd,su⟩,⟨h2,h3,h4⟩|⟨h2,h3⟩⟩
 .exact Nq rfl h2 h3 (.inl ⟨h1,rfl⟩)
 .rw[Q5]at hw;rw[Re]at h2;exact Nq rfl h3 h4 (.inr ⟨h1,gone,⟨hw,nd,su⟩,.inl ⟨h2,rfl⟩⟩)
 .rw[Q5]at hw;rw[Re]at h2;obtain⟨ds,e,_⟩:=ca gone vs fun q hq=>Je H h (su q hq);obtain⟨gs,e1,k1⟩:=Uv H h hm nd su;have eL:((rfs Z).filter (Dy "gap" gone)).map (·.1.pl)=((lks "gap" Z).filter (hit gone)).map Lk.pl:=by rw[<-Vd,Bz];rfl
  rw[eL]at e;obtain⟨ps,e2,k2⟩:=Uv H h hm (Y4 (((lks "gap" Z).filter (hit gone)).map Lk.pl) R7) fun q hq=>by
   rcases Rb _ hq with hq|hq
   .cases hq
   .obtain⟨l,hl,rfl⟩:=omm hq;exact Zf h (De.mp hl).1
  refine O1 rfl h3 ?_;exact Ar (Cg (Ab (Ct (Ct rfl e1) rfl) (Ab (Ct (Ct (Al e rfl) e2) rfl) rfl))) (.inr ⟨h1,gone,⟨hw,nd,su⟩,.inr ⟨h2,_,⟨gs,ps,e1,by rw[<-e2,X7 Hn];rfl,k1,k2,rfl⟩,rfl⟩⟩)
end
structure Pg(P:Pr):Prop where
 tb:P.fn "table_of"=some Vg
 wo:P.fn "worths_of"=some Ud
 ky:P.fn "key_of"=some Uk
 rw:P.fn "rows_of"=some Uh
 ro:P.fn "row_of"=some Tx
 sk:P.fn "is_same_key"=some Tw
 kr:P.fn "key_referred_to"=some Ua
 rb:P.fn "references_by"=some Sn
 rf:P.fn "references_of"=some Tp
 aw:P.fn "along_with"=some Wu
 gw:P.fn "gone_with"=some Tz
 gb:P.fn "gaps_by"=some Sj
 go:P.fn "going"=some Tj
section
variable {P:Pr}(g:Pg P){B:List Tb}(H:Sch B){Z:List Zt}(h:Stn B m Z)
include g H h
theorem Gj(n:Nat):Pc (glo P (n+1)) B Z where
 tb b hb:=Du g.tb (jl H h hb)
 rw z hz:=Du g.rw (qH H h hz)
 wo b hb ps hp qa hc h4:=bu g.wo n (H.ok b hb) hp hc h4
theorem Il(n:Nat)(hb:b∈B)(hp:RowOk b ps):run P (n+2) "key_of" [b.t,Ah ps]=some (Ao b ps):=Du g.ky (nr (Gj g H h n) hb (H.ok b hb) hp)
theorem c6(n:Nat)(hm:m<=60):run P (n+4) "references_of" [Am Z,Aj Z]=some (.lst ((rfs Z).map Rf.t)) :=
 Du g.rf (e9 H h hm (Gj g H h (n+2)) fun z hz qa g' w hr=>Du g.rb (bA H h hm (Gj g H h (n+1)) (fun b hb ps hp=>Il g H h n hb hp) (fun b hb qa g' w hr ps hp=>Du g.kr (Zo (Gj g H h n) hb hp (Qu (H.fit b hb _ hr)) ((H.ok b hb).rs _ hr))) hz hr))
theorem Ze(n:Nat)(hm:m<=15)(hz:(b,R)∈Z)(k:List Kt)(hk:k.length<=1000):((R.any fun ps=>decide (Ag b ps=k))=false/\run P (n+4) "gone_with" [Am Z,Aj Z,.lst ((rfs Z).map Rf.t),.str b.nm,Ai k]=none/\Cq P (n+4) "gone_with" [Am Z,Aj Z,.lst ((rfs Z).map Rf.t),.str b.nm,Ai k]=e0 "NoRow") \/
  (R.any fun ps=>decide (Ag b ps=k))=true/\∃gone vs,(Wk (Ep Ld (rfs Z)) [(b.nm,k)] [(b.nm,k)] gone/\gone.Nodup/\∀q∈gone,q∈pls Z)/\((rfs Z).any (Dy "stop" gone)=true/\run P (n+4) "gone_with" [Am Z,Aj Z,.lst ((rfs Z).map Rf.t),.str b.nm,Ai k]=none/\Cq P (n+4) "gone_with" [Am Z,Aj Z,.lst ((rfs Z).map Rf.t),.str b.nm,Ai k]=e0 "Held"\/(rfs Z).any (Dy "stop" gone)=false/\run P (n+4) "gone_with" [Am Z,Aj Z,.lst ((rfs Z).map Rf.t),.str b.nm,Ai k]=some (.dic (gone.map Ad) vs)):=by
 have hb:=h.mem hz;have hU:=Lq H h;have hn:∀q∈pls Z,Cw q.2:=fun q hq=>Je H h hq;have hL:=Tt H h;have hr:∀x∈rfs Z,x.1.pl∈pls Z/\Cw x.1.gp.2:=fun x hx=>⟨(Ln h hx).2.2,(Ln h hx).2.1⟩;have hro:(R.any fun ps=>decide (Ag b ps=k))=false/\run P (n+3) "row_of" [Am Z,Aj Z,.str b.nm,Ai k]=none/\Cq P (n+3) "row_of" [Am Z,Aj Z,.str b.nm,Ai k]=e0 "NoRow"\/∃ps∈R,Ag b ps=k/\run P (n+3) "row_of" [Am Z,Aj Z,.str b.nm,Ai k]=some (Ah ps):=by
  obtain⟨o,h1,h2,h3⟩:=L3 g.ro (Xg H h (by lia) (Gj g H h (n+1)) (fun b hb ps hp=>Il g H h n hb hp) (fun k k' hk=>Du g.sk (dy k k' hk)) hz k hk);rcases h1 with⟨e,rfl⟩|⟨ps,hps,e,rfl⟩
  .exact .inl ⟨e,h3 _ _ rfl⟩
  .exact .inr ⟨ps,hps,e,h2 _ rfl⟩
 have ha:(b.nm,k)∈pls Z->∃gone vs,run P (n+3) "along_with" [.lst ((rfs Z).map Rf.t),Ad (b.nm,k)]=some (.dic (gone.map Ad) vs)/\Wk (Ep Ld (rfs Z)) [(b.nm,k)] [(b.nm,k)] gone/\gone.Nodup/\∀q∈gone,q∈pls Z:=fun hp=>by obtain⟨o,⟨gone,vs,e,h1⟩,h2⟩:=Nd g.aw (n:=n+2) (eO Hn Ld hp (by lia) hn hr (by lia));exact⟨gone,vs,h2 _ e,h1⟩
 have ct:=(Gj g H h (n+2)).tb b hb;have hpl:(R.any fun ps=>decide (Ag b ps=k))=true->(b.nm,k)∈pls Z:=fun q=>by obtain⟨ps,hps,e⟩:=List.any_eq_true.mp q;exact Eg.mpr ⟨_,hz,Bw.mpr ⟨ps,hps,by rw[Ey e]⟩⟩
 obtain⟨o,h1,h2,h3⟩:=L3 g.gw (n:=n+3) (jJ hn hr hro ct (fun ps hp=>Il g H h (n+1) hb ((h.rw _ hz).2.1 ps hp)) ha hpl);rcases h1 with⟨e,rfl⟩|⟨e,gone,vs,h1,⟨h4,rfl⟩|⟨h4,rfl⟩⟩
 .exact .inl ⟨e,h3 _ _ rfl⟩
 .exact .inr ⟨e,gone,vs,h1,.inl ⟨h4,h3 _ _ rfl⟩⟩
 .exact .inr ⟨e,gone,vs,h1,.inr ⟨h4,h2 _ rfl⟩⟩
theorem Y6(n:Nat)(hm:m<=15)(gone:List Pl)(vs:List T)(hg:∀q∈gone,Cw q.2):∃ds,run P (n+1) "gaps_by" [.lst ((rfs Z).map Rf.t),.dic (gone.map Ad) vs]=some (.dic (((((rfs Z).filter (Dy "gap" gone)).map (·.1.pl)).foldl pk []).map Ad) ds)/\Qt (rfs Z) gone ds:=by
 have hL:=Tt H h;exact Fl (ts:=[.lst ((rfs Z).map Rf.t),.dic (gone.map Ad) vs]) (fun ds=>T.dic (((((rfs Z).filter (Dy "gap" gone)).map fun x:Rf=>x.1.pl).foldl pk []).map Ad) ds) g.gb (n:=n) (pX (fun q hq=>Je H h hq) (fun x hx=>⟨(Ln h hx).2.2,(Ln h hx).2.1,by have:=(Ln h hx).1;exact((H.ok _ this.b).rs _ this.r)⟩) hg (by lia))
theorem kK(n:Nat)(hm:m<=15)(hz:(b,R)∈Z)(k:List Kt)(hk:k.length<=1000):((R.any fun ps=>decide (Ag b ps=k))=false/\run P (n+5) "going" [Am Z,Aj Z,.str b.nm,Ai k]=none/\Cq P (n+5) "going" [Am Z,Aj Z,.str b.nm,Ai k]=e0 "NoRow") \/
  (R.any fun ps=>decide (Ag b ps=k))=true/\∃gone,Gone Z (b.nm,k) gone/\((lks "stop" Z).any (hit gone)=true/\run P (n+5) "going" [Am Z,Aj Z,.str b.nm,Ai k]=none/\Cq P (n+5) "going" [Am Z,Aj Z,.str b.nm,Ai k]=e0 "Held"\/(lks "stop" Z).any (hit gone)=false/\∃t,Pq Z gone t/\run P (n+5) "going" [Am Z,Aj Z,.str b.nm,Ai k]=some t):=by
 obtain⟨o2,k1,k2,k3⟩:=L3 g.go (n:=n+4) (mi H h hm (R:=R) (c6 g H h n (by lia)) (Ze g H h n hm hz k hk) (Y6 g H h (n+3) hm));rcases k1 with⟨e,rfl⟩|⟨e,gone,hg,⟨h4,rfl⟩|⟨h4,t,ht,rfl⟩⟩
 .exact .inl ⟨e,k3 _ _ rfl⟩
 .exact .inr ⟨e,gone,hg,.inl ⟨h4,k3 _ _ rfl⟩⟩
 .exact .inr ⟨e,gone,hg,.inr ⟨h4,t,ht,k2 _ rfl⟩⟩
end
noncomputable def Va:Fd:=⟨3,3,[.ret (.blt .toTuple (.comp (.dget A9 (.idx A4 A2) A5) 2 .zip [.idx A4 A3,A5] none))]⟩
noncomputable def T8:Fd:=⟨4,7,[.asg 4 (.lst []),
  .loop [5] .plain [A5] [.asg 6 (.tup [.idx A4 A2,.call "key_of" [A4,B0]]),
  .ite (.cmp .notin B3 A6) [.app 4 (.call "row_with" [A4,B0,.dget A7 B3 (.dsp0)])] []],
  .ret (.blt .toTuple A9)]⟩
noncomputable def U4:Fd:=⟨4,4,[.ret (.blt .toTuple (.comp (.call "rows_left" [A4,A5,A9,B0]) 2 .zip [A4,A5] none))]⟩
noncomputable def Wc:Fd:=⟨4,6,[.asg 4 (.call "references_of" [A4,A5]),
  .asgx 5 "gone_with" [A4,A5,A9,A6,A7],
  .ret (.call "changed" [A4,A5,B0,.call "gaps_by" [A9,B0]])]⟩
def Cj(ks:List T)(ps:Row):Row:=ps.map fun p=>(p.1,if Bq ks (.str p.1.n)=true then .non else p.2)
theorem Yd{q w:T}:∀{ks vs:List T},ks.length=vs.length->(∀v∈vs,v=T.non)->(Aw ks vs q).getD w=if Bq ks q=true then .non else w
 |[],[],_,_=>rfl
 |k::ks,v::vs,hl,hn=>by
  rw[Aw,Bq,Ie];by_cases e:eqT k q=true
  .rw[if_pos e,e,hn v (.head _)];rfl
  .rw[if_neg e,show eqT k q=false by simpa using e,Bool.false_or];exact Yd (by simpa using hl) fun v hv=>hn v (.tail _ hv)
theorem i8{b:Tb}{ps:Row}{ks:List T}(hp:RowOk b ps)(hg:∀c∈b.cs,Bq ks (.str c.n)=true->c.g=true):RowOk b (Cj ks ps):=by
 refine⟨by rw[Cj,Bz];exact hp.cs,fun q hq=>?_,fun q hq h=>?_⟩<;>obtain⟨p,hpm,rfl⟩:=omm hq
 .dsimp only;split
  .exact .inl rfl
  .exact hp.wk p hpm
 .dsimp only at h ⊢;split
  .rename_i e;rw[hg p.1 (by rw[<-hp.cs];exact Bw.mpr ⟨p,hpm,rfl⟩) e]at h;cases h
  .exact hp.ng p hpm h
theorem dC:∀ps:Row,Ce ((ps.map (·.1)).map Col.t) (ps.map (·.2))=ps.map fun p=>.tup [p.1.t,p.2]
 |[]=>rfl
 |p::ps=>by rw[Ba,Ba,Ba,Ba,Ce,dC ps]
section
variable {G:Glo}{b:Tb}{R:List Row}{gone K:List Pl}{vs ds:List T}
theorem oF{d:List T×List T}{P:Str->Prop}{ps:Row}(hC:Cn d P)(hp:RowOk b ps)(hb:b.ok):W G Va.body (st0 [b.t,Ah ps,.dic d.1 d.2] 0) fun o=>o=.rt (Ah (Cj d.1 ps)):=by
 have hsz:=Ci;have h4:=hb.cl;have hl:ps.length=b.cs.length:=by rw[<-hp.cs,Aq]
 refine Ar (Ct (Qm (enc:=fun p:Col×T=>T.tup [p.1.t,p.2]) (R:=ps) (fun p=>if Bq d.1 (.str p.1.n)=true then .non else p.2) (Ab (Ak rfl rfl (t1 _)) (Ab rfl rfl)) ?_ fun p hp=>⟨_,rfl,?_⟩) (show _=some (Ah (Cj d.1 ps)) by rw[Ah,Cj,Bz];rfl)) rfl
 .show(some (Ce (b.cs.map Col.t) (ps.map (·.2)))).bind _=_;rw[<-hp.cs,dC,Bi];exact if_pos (by rw[Aq];lia)
 .rw[Pa (ts:=d.1) (us:=d.2) (u:=.str p.1.n) (v:=p.2) rfl (Ak rfl rfl rfl) rfl (by unfold Bj;rw[hC.st];rfl),Yd hC.ln hC.no]
def Be(gone:List Pl)(dp:Pl->List T×List T)(z:Zt):Zt:=(z.1,(z.2.filter fun ps=>!(gone.any fun x=>decide (x=(z.1.nm,Ag z.1 ps)))).map fun ps=>Cj (dp (z.1.nm,Ag z.1 ps)).1 ps)
theorem qM{z:Zt}{dp:Pl->List T×List T}(hR:∀ps∈z.2,RowOk z.1 ps)(hl:z.2.length<=1000)(hn:∀ps∈z.2,Cw (Ag z.1 ps))(hg:∀q∈gone,Cw q.2)(hK:∀q∈K,Cw q.2)(hd:∀p,(Aw (K.map Ad) ds (Ad p)).getD (.dic [] [])=.dic (dp p).1 (dp p).2)(ck:∀ps∈z.2,G.call "key_of" [z.1.t,Ah ps]=some (Ao z.1 ps))(cr:∀ps∈z.2,∀p,G.call "row_with" [z.1.t,Ah ps,.dic (dp p).1 (dp p).2]=some (Ah (Cj (dp p).1 ps))):W G T8.body (st0 [z.1.t,Cs z,.dic (gone.map Ad) vs,.dic (K.map Ad) ds] 3) fun o=>o=.rt (Cs (Be gone dp z)):=by
 have hsz:=Ci;refine An (t:=.lst []) rfl ?_;refine Da [4,5,6] (enc:=Ah) z.2 (fun D zs=>∃(L:List T)(a b:Sl),zs=[.own L,a,b]/\L=(Be gone dp (z.1,D)).2.map Ah) [.own [],.no,.no] rfl (Dv _) rfl ⟨_,_,_,rfl,rfl⟩ (fun D ps D2 e zs hI=>?_) fun zs hI=>?_
 .obtain⟨_,a,b,rfl,rfl⟩:=hI;have hps:ps∈z.2:=by rw[e];simp
  have hD:D.length<=1000:=by rw[e,By]at hl;lia
  refine Bv ?_;refine An (t:=Ad (z.1.nm,Ag z.1 ps)) (Cg (Ab (Ak rfl rfl (t0 _)) (Ab (Al (ck ps hps) rfl) rfl))) ?_;refine Br (q:=!(gone.any fun x=>decide (x=(z.1.nm,Ag z.1 ps)))) (Ap rfl rfl (by show(if Bj (gone.map Ad) (Ad (z.1.nm,Ag z.1 ps))=true then _ else none).map _=_;rw[if_pos (Iy hg (hn ps hps)),Lf Hn];rfl)) (fun q=>?_) fun q=>As ⟨_,rfl,_,_,_,rfl,by simp[Be,q]⟩;refine I9 (t:=Ah (Cj (dp (z.1.nm,Ag z.1 ps)).1 ps)) (Al (cr ps hps (z.1.nm,Ag z.1 ps)) (Ab rfl (Ab rfl (Ab (by
   rw[Pa (ts:=K.map Ad) (us:=ds) (u:=Ad (z.1.nm,Ag z.1 ps)) (v:=.dic [] []) rfl rfl rfl (Iy hK (hn ps hps)),hd]) rfl)))) rfl (by
   rw[Aq,Be,Aq];exact Nat.lt_of_le_of_lt (K3 _ D) (by lia)) ?_
  exact As (As ⟨_,rfl,_,_,_,rfl,by simp[Be,q]⟩)
 .obtain⟨_,a,b,rfl,rfl⟩:=hI;exact Ar rfl rfl
theorem n7{Z:List Zt}{dp:Pl->List T×List T}(hl:Z.length<=4)(cl:∀z∈Z,G.call "rows_left" [z.1.t,Cs z,.dic (gone.map Ad) vs,.dic (K.map Ad) ds]=some (Cs (Be gone dp z))):W G U4.body (st0 [Am Z,Aj Z,.dic (gone.map Ad) vs,.dic (K.map Ad) ds] 0) fun o=>o=.rt (Aj (Z.map (Be gone dp))):=by
 have hsz:=Ci;refine Ar (Ct (Qm (enc:=fun z:Zt=>T.tup [z.1.t,Cs z]) (R:=Z) (fun z=>Cs (Be gone dp z)) (Ab rfl (Ab rfl rfl)) ?_ fun z hz=>⟨_,rfl,Al (cl z hz) rfl⟩) (show _=some (Aj (Z.map (Be gone dp))) by rw[Aj,Bz];rfl)) rfl;show(some (Ce (Z.map fun z=>z.1.t) (Z.map Cs))).bind _=_;rw[Kr,Bi];exact if_pos (by rw[Aq];lia)
end
noncomputable def Sk:Fd:=⟨2,7,[.dnew 2,
  .loop [3,4,5] .plain [.call "breaks" [A4,A5]] [.asg 6 (.idx (.idx (.call "table_of" [A4,A7]) B1) A9),
  .ite (.lnot (.tru (.call "is_late" [B3]))) [.put 2 (.idx B3 A2) C0] []],
  .ite (.cmp .isin D5 A6) [.fail "Twice" [.cst (.str "two rows are alike where they must not be")]] [],
  .ite (.cmp .isin C6 A6) [.fail "BadCheck" [.cst (.str "a row does not keep a check")]] [],
  .ite (.cmp .isin B8 A6) [.fail "NoRef" [.cst (.str "a row refers to one that is not there")]] []]⟩
noncomputable def Xa:Fd:=⟨1,1,[.ret (.land (.cmp .eq (.idx A4 A2) B8) (.cmp .eq (.idx A4 B1) C7))]⟩
noncomputable def Uj:Fd:=⟨3,4,[.ite (.cmp .eq (.idx A6 A2) H9) [.asg 3 (.call "with_row" [A4,A5,.idx A6 A3,.idx A6 A8])] [.ite (.cmp .eq (.idx A6 A2) D9) [.asgx 3 "without_row" [A4,A5,.idx A6 A3,.idx A6 A8]] [.asg 3 (.call "with_pairs" [A4,A5,.idx A6 A3,.idx A6 A8,.idx A6 B1])]],
  .expx "refuse_broken" [A4,A7],
  .ret A7]⟩
structure Bk where
 b:Tb
 i:Nat
 r:Rl
 k:List Kt
noncomputable def Bk.t(e:Bk):T:=.tup [.str e.b.nm,.int (e.i:Int),Ai e.k]
structure Bk.ok(B:List Tb)(e:Bk):Prop where
 b:e.b∈B
 i:e.b.rs[e.i]?=some e.r
noncomputable def Rl.lt:Rl->Bool
 |.ref _ _ w=>w=="late"
 |_=>false
noncomputable def Rl.wd:Rl->Str
 |.ref _ _ _=>"refers"
 |.unl _=>"unlike"
 |.chk _=>"check"
theorem r0w(r:Rl):Cm r.t (.int 0)=some (.str r.wd):=by
 cases r with
 |ref cs t w=>rw[Rl.t,Cm,Hu];rfl
 |unl cs=>rw[Rl.t,Cm,Hu];rfl
 |chk t=>rw[Rl.t,Cm,Hu];rfl
theorem Dk.put_mem(d:Dk)(x y:Str)(w:T):T.str y∈(d.put x w).ks↔T.str y∈d.ks\/y=x:=by
 show T.str y∈Ax d.ks (.str x)↔_;unfold Ax;split
 .rename_i q;exact⟨.inl,fun h=>h.elim id fun h=>by rw[h];exact(L5 d.ok x).mp q⟩
 .rw[Oc,Me,T.str.injEq]
section
variable {G:Glo}{B:List Tb}
theorem lr(r:Rl):W G Xa.body (st0 [r.t] 0) fun o=>o=.rt (.bl r.lt):=by
 obtain⟨w0,i0,hw⟩:=r0 r;cases r with
 |ref cs g w=>exact Ar (Dj (Ap (Ak rfl rfl i0) rfl (sw hw)) fun _=>Ap (Ak rfl rfl (rf3 _ _ _)) rfl (sw rfl)) rfl
 |_=>exact Ar (Dj (p:=false) (q:=false) (Ap (Ak rfl rfl i0) rfl (sw hw)) fun h=>by cases h) rfl
def Rfs(L:List Bk)(o:Out):Prop:=(o=.rs "Twice" 0\/o=.rs "BadCheck" 0\/o=.rs "NoRef" 0/\∃e∈L,e.r.lt=false/\Se e.r=true)\/(∃τ,o=.nx τ)/\∀e∈L,e.r.lt=true
theorem lH{X Y:T}{L:List Bk}(ct:∀b∈B,G.call "table_of" [X,.str b.nm]=some b.t)(cl:∀r:Rl,G.call "is_late" [r.t]=some (.bl r.lt))(hL:∀e∈L,e.ok B)(hl:L.length<=1000)(eb:G.call "breaks" [X,Y]=some (.tup (L.map Bk.t))):W G Sk.body (st0 [X,Y] 5) (Rfs L):=by
 have hsz:=Ci;refine Mc ?_;refine Da [2,3,4,5,6] (enc:=Bk.t) L (fun D zs=>∃(d:Dk)(a b c e:Sl),zs=[d.s,a,b,c,e]/\d.ks.length<=D.length/\∀y,T.str y∈d.ks↔∃e∈D,e.r.lt=false/\e.r.wd=y) [Dk.nil.s,.no,.no,.no,.no] (Ab (Al eb rfl) rfl) (Dv _) rfl ⟨_,_,_,_,_,rfl,Dn _,fun y=>⟨fun h=>absurd h dW,fun⟨e,he,_⟩=>absurd he dW⟩⟩ (fun D e D2 he zs hI=>?_) fun zs hI=>?_
 .obtain⟨d,a,b,c,f,rfl,hd,hm⟩:=hI;have ho:=hL e (by rw[he];simp);have hD:D.length<=1000:=by rw[he,By]at hl;lia
  have hi:=(ome ho.i).1;refine Bv ?_;refine An (t:=e.r.t) (Ak (Ak (Al (ct _ ho.b) rfl) rfl (t3 _)) rfl (by show((Gf (e.b.rs.map Rl.t).length (e.i:Int)).bind fun j=>(e.b.rs.map Rl.t)[j]?)=_;rw[Rq (by rw[Aq];exact hi),Bi,Dm,ho.i];rfl)) ?_;have old:∀y,T.str y∈d.ks->∃e'∈D++[e],e'.r.lt=false/\e'.r.wd=y:=fun y h=>let⟨e',h1,h2⟩:=(hm y).mp h;⟨e',List.mem_append_left _ h1,h2⟩
  refine Br (q:=!e.r.lt) (by rw[Ac,Ac,Al (cl e.r) rfl];rfl) (fun q=>?_) fun q=>As ⟨_,rfl,d,_,_,_,_,rfl,by rw[By];lia,fun y=>⟨old y,fun⟨e',h1,h2,h3⟩=>(oma h1).elim (fun h1=>(hm y).mpr ⟨e',h1,h2,h3⟩) fun h1=>?_⟩⟩
  .refine Oq (u:=.bl true) rfl (Ak rfl rfl (r0w e.r)) (bY d (by lia)) ?_;have l1:=Dk.len (d:=d) (x:=e.r.wd) (w:=T.bl true);refine As (As ⟨_,rfl,d.put e.r.wd (.bl true),_,_,_,_,rfl,by rw[By,Ii];lia,fun y=>?_⟩);rw[Dk.put_mem];refine⟨fun h=>h.elim (old y) fun h=>⟨e,by simp,by simpa using q,h.symm⟩,fun⟨e',h1,h2,h3⟩=>?_⟩;rcases oma h1 with h1|h1
   .exact .inl ((hm y).mpr ⟨e',h1,h2,h3⟩)
   .rw[omg h1]at h3;exact .inr h3.symm
  .rw[omg h1]at h2;rw[h2]at q;cases q
 .obtain⟨d,a,b,c,f,rfl,_,hm⟩:=hI;have isin:∀x:Str,Bt .isin (.str x) (.dic d.ks d.vs)=some (.bl (Bq d.ks (.str x))):=fun x=>by show(if Bj d.ks (.str x)=true then some (Bq d.ks (.str x))else none).map T.bl=_;rw[if_pos (d.kd x)];rfl
  refine w_nz ?_;refine Br (Ap rfl rfl (isin "unlike")) (fun _=>Nf rfl rfl (.inl (.inl rfl))) fun q1=>?_;refine Br (Ap rfl rfl (isin "check")) (fun _=>Nf rfl rfl (.inl (.inr (.inl rfl)))) fun q2=>?_;have no:∀{x:Str},Bq d.ks (.str x)=false->∀e∈L,e.r.lt=false->e.r.wd≠x:=fun{x}q e he h1 h2=>by have:=(L5 d.ok x).mpr ((hm x).mpr ⟨e,he,h1,h2⟩);rw[q]at this;cases this
  refine Br (Ap rfl rfl (isin "refers")) (fun q=>Nf rfl rfl (.inl (.inr (.inr ⟨rfl,?_⟩)))) fun q3=>As (.inr ⟨⟨_,rfl⟩,fun e he=>?_⟩)
  .obtain⟨e,h1,h2,h3⟩:=(hm _).mp ((L5 d.ok _).mp q);refine⟨e,h1,h2,?_⟩;cases hr:e.r with
   |ref _ _ _=>rfl
   |unl _=>rw[hr]at h3;exact absurd (show("unlike":Str)="refers" from h3) (by decide +kernel)
   |chk _=>rw[hr]at h3;exact absurd (show("check":Str)="refers" from h3) (by decide +kernel)
  .cases h:e.r.lt with
   |true=>rfl
   |false=>
    cases hr:e.r with
    |ref _ _ _=>exact absurd (by rw[hr];rfl) (no q3 e he h)
    |unl _=>exact absurd (by rw[hr];rfl) (no q1 e he h)
    |chk _=>exact absurd (by rw[hr];rfl) (no q2 e he h)
end
noncomputable def V8:Fd:=⟨3,4,[.asg 3 (.call "table_of" [A4,A6]),
  .ret (.blt .dict (.comp (.tup [.call "key_of" [A9,A4],A4]) 1 .plain [.call "rows_of" [A4,A5,A6]] none))]⟩
noncomputable def Ur:Fd:=⟨4,6,[.asg 4 (.call "rows_by_key" [A4,A5,.idx A7 A8]),
  .asg 5 (.call "references_by" [A6,A7,.call "rows_of" [A4,A5,.idx A6 A2]]),
  .ret (.comp (.idx A4 A3) 3 .plain [B0] (some (.cmp .notin (.idx A6 A3) B6)))]⟩
theorem bQ(b:Tb)(R:List Row)(k:List Kt):Bq (R.map (Ao b)) (Ai k)=R.any fun ps=>decide (Ag b ps=k):=by unfold Bq;rw[List.any_map];refine Av (List.any R) (funext fun ps=>?_);show eqT (Ai (Ag b ps)) (Ai k)=_;rw[Ge]
theorem Rx{t v:T}:∀{ks vs:List T},ks.length=vs.length->Bq ks t=false->Bh ks vs t v=vs++[v]
 |[],[],_,_=>rfl
 |k::ks,w::vs,hl,h=>by rw[Bq,Ie,Bool.or_eq_false_iff]at h;rw[Bh,if_neg (by rw[h.1];decide),Rx (by simpa using hl) h.2];rfl
section
variable {b:Tb}(hb:b.ok)
include hb
theorem Yp:∀(R M:List Row),(∀ps∈M++R,RowOk b ps)->((M++R).map (Ag b)).Nodup->Hg (R.map fun ps=>.tup [Ao b ps,Ah ps]) (M.map (Ao b)) (M.map Ah)=some (.dic ((M++R).map (Ao b)) ((M++R).map Ah))
 |[],M,_,_=>by rw[Jv];rfl
 |q::R,M,h,nd=>by
  have e1:M++q::R=(M++[q])++R:=by simp
  have hno:Bq (M.map (Ao b)) (Ao b q)=false:=by rw[show Ao b q=Ai (Ag b q)from rfl,bQ];refine List.any_eq_false.mpr fun p hp e=>?_;rw[Dx,List.nodup_append]at nd;exact nd.2.2 _ (Bw.mpr ⟨p,hp,rfl⟩) _ (Bw.mpr ⟨q,.head _,rfl⟩) (Ey e)
  have ih:=Yp R (M++[q]) (e1▸h) (e1▸nd);rw[List.map_cons,Hg,if_pos (Us hb (fun p hp=>h p (List.mem_append_left _ hp)) (h q (by simp))),Rx (by rw[List.length_map,List.length_map]) hno,Ax,if_neg (by rw[hno];decide),e1];rw[Dx,Dx]at ih;exact ih
end
section
variable {G:Glo}{B:List Tb}{m:Nat}{Z:List Zt}(H:Sch B)(h:Stn B m Z)(hm:m<=60)(C:Pc G B Z)(ck:∀b∈B,∀ps,RowOk b ps->G.call "key_of" [b.t,Ah ps]=some (Ao b ps))
include H h hm C ck
theorem fZ(hz:(b,R)∈Z):W G V8.body (st0 [Am Z,Aj Z,.str b.nm] 1) fun o=>o=.rt (.dic (R.map (Ao b)) (R.map Ah)):=by have hsz:=Ci;have hb:=h.mem hz;obtain⟨hl,hR,nd⟩:R.length<=m/\(∀ps∈R,RowOk b ps)/\(R.map (Ag b)).Nodup:=h.rw _ hz;refine An (Al (C.tb b hb) rfl) ?_;refine Ar (Ct (Gq (enc:=Ah) (R:=R) (fun ps=>T.tup [Ao b ps,Ah ps]) (Ab (Al (C.rw _ hz) rfl) rfl) (Fv (by rw[Aq];show R.length<=SZ;lia)) fun ps hp=>Cg (Ab (Al (ck b hb ps (hR ps hp)) rfl) (Ab rfl rfl))) ?_) rfl;show(if _<=1000 then _ else none)=_;rw[if_pos (by rw[Aq];lia)];exact Yp (H.ok b hb) R [] hR nd
def Jx(z z':Zt)(r:Rl):List Rf:=(F4 z r).filter fun x=>!(z'.2.any fun qs=>decide (Ag z'.1 qs=x.1.gp.2))
theorem mX{z z':Zt}{qa:List Str}{w:Str}(hz:z∈Z)(hz':z'∈Z)(hr:Rl.ref qa z'.1.nm w∈z.1.rs)(eb:G.call "rows_by_key" [Am Z,Aj Z,.str z'.1.nm]=some (.dic (z'.2.map (Ao z'.1)) (z'.2.map Ah)))(er:G.call "references_by" [z.1.t,(Rl.ref qa z'.1.nm w).t,Cs z]=some (.lst ((F4 z (.ref qa z'.1.nm w)).map Rf.t))):W G Ur.body (st0 [Am Z,Aj Z,z.1.t,(Rl.ref qa z'.1.nm w).t] 2) fun o=>o=.rt (.lst ((Jx z z' (.ref qa z'.1.nm w)).map fun x=>Ai x.1.pl.2)):=by
 have hsz:=Ci;refine An (Al eb (Ab rfl (Ab rfl (Ab (Ak rfl rfl (rf2 _ _ _)) rfl)))) ?_;refine An (Al er (Ab rfl (Ab rfl (Ab (Al (C.rw z hz) (Ab rfl (Ab rfl (Ab (Ak rfl rfl (t0 _)) rfl)))) rfl)))) ?_;have hlen:(F4 z (.ref qa z'.1.nm w)).length<=60:=by rw[F4,Aq];exact Cr (K3 _ _) (Cr (h.rw z hz).1 hm)
 refine Ar (Fy (enc:=Rf.t) (R:=F4 z (.ref qa z'.1.nm w)) (fun x=>!(z'.2.any fun qs=>decide (Ag z'.1 qs=x.1.gp.2))) (fun x=>Ai x.1.pl.2) rfl (Nz (by rw[Aq];lia)) fun x hx=>⟨_,rfl,Ap (Ak rfl rfl rfl) rfl ?_,fun _=>Ak rfl rfl rfl⟩) rfl;obtain⟨ps,hps,rfl⟩:=omm (show x∈(z.2.filter fun ps=>!Ca (wK qa ps)).map fun ps=>((⟨z.1,qa,z'.1.nm,ps⟩:Lk),w)from hx);have hN:=(De.mp hps).2;have ng:Cw (wK qa ps):=fun k hk e=>by have:Ca (wK qa ps)=true:=List.any_eq_true.mpr ⟨k,hk,Cd e⟩;rw[this]at hN;cases hN
 show(if Bj (z'.2.map (Ao z'.1)) (Ai (wK qa ps))=true then some (Bq (z'.2.map (Ao z'.1)) (Ai (wK qa ps)))else none).map _=_;rw[if_pos,bQ]
 .rfl
 .have k2:(z'.2.map (Ao z'.1)).all Em=true:=by rw[List.all_map];exact En.mpr fun qs hq=>Km (La (H.ok _ (h.mem hz')) ((h.rw z' hz').2.1 qs hq))
  show(_||(Em (Ai (wK qa ps))&&(z'.2.map (Ao z'.1)).all Em))=true;rw[Km ng,k2];simp
end
section
variable {qa:List Str}
theorem Pk(ks:List T)(x:Str):∀ps:Row,val (Cj ks ps) x=if Bq ks (.str x)=true then .non else val ps x
 |[]=>by show T.non=_;split<;>rfl
 |p::ps=>by
  have ih:=Pk ks x ps;unfold val at ih ⊢;rw[Cj,Ba,Gr,Gr];by_cases e:(p.1.n==x)=true
  .rw[if_pos e,if_pos e,Fh e]
  .rw[if_neg e,if_neg e];exact ih
theorem Wn{ks:List T}{ps:Row}(h:∀x∈qa,Bq ks (.str x)=false):wK qa (Cj ks ps)=wK qa ps :=
 L1 fun x hx=>by rw[Pk,h x hx];rfl
theorem jU{ks:List T}{ps:Row}(h:Ca (wK qa (Cj ks ps))=false):∀x∈qa,Bq ks (.str x)=false:=fun x hx=>by
 cases e:Bq ks (.str x)with
 |false=>rfl
 |true=>have:Ca (wK qa (Cj ks ps))=true:=List.any_eq_true.mpr ⟨_,Bw.mpr ⟨x,hx,rfl⟩,Cd (by rw[Pk,e];rfl)⟩;rw[h]at this;cases this
theorem pz{Z:List Zt}{z:Zt}{g w:Str}{ps:Row}(hz:z∈Z)(hr:Rl.ref qa g w∈z.1.rs)(hp:ps∈z.2)(hN:Ca (wK qa ps)=false):((⟨z.1,qa,g,ps⟩,w):Rf)∈rfs Z :=
 Eg.mpr ⟨z,hz,Eg.mpr ⟨_,hr,Bw.mpr ⟨ps,De.mpr ⟨hp,by rw[hN];rfl⟩,rfl⟩⟩⟩
section
variable {B:List Tb}{m:Nat}{Z:List Zt}(H:Sch B)(h:Stn B m Z){p0:Pl}{gone:List Pl}(hg:Gone Z p0 gone){dp:Pl->List T×List T}(hd:∀p,Cn (dp p) (Gp (rfs Z) gone p))
include H h hd
theorem Zb{z:Zt}(hz:z∈Z){k:List Kt}{c:Col}(hc:c∈z.1.cs)(e:Bq (dp (z.1.nm,k)).1 (.str c.n)=true):c.g=true:=by
 obtain⟨y,hy,_,e1,hx⟩:=((hd _).mem c.n).mp ((L5 (hd _).st c.n).mp e);obtain⟨ok,_⟩:=Ln h hy;have eb:y.1.b=z.1:=O8 H.nd ok.b (h.mem hz) (Av Prod.fst e1);obtain⟨c',hc',e2,e3⟩:=(H.fit _ ok.b _ ok.r).1 c.n hx;have hw:y.2="gap":=by
  have hh:Dy "gap" gone y=true:=by assumption
  exact Fh (Bool.and_eq_true_iff.mp hh).1
 rw[eb]at hc';have nd:=(H.ok _ (h.mem hz)).nd;have:c'=c:=by obtain⟨_,_,_,ef⟩:=I7 Col.n hc nd;have:c'∈z.1.cs.filter fun x=>x.n==c.n:=De.mpr ⟨hc',by rw[e2];simp⟩;rw[ef]at this;exact omg this
 rw[<-this];exact e3 hw
theorem Oi{z:Zt}(hz:z∈Z)(k:List Kt)(ps:Row):Ag z.1 (Cj (dp (z.1.nm,k)).1 ps)=Ag z.1 ps:=Wn fun x hx=>by
 obtain⟨c,hc,rfl,hf⟩:=(H.ok _ (h.mem hz)).kg x hx;cases e:Bq (dp (z.1.nm,k)).1 (.str c.n)with
 |false=>rfl
 |true=>rw[Zb H h hd hz hc e]at hf;cases hf
theorem Sb:Stn B m (Z.map (Be gone dp)):=by
 refine⟨by rw[Bz];exact h.tb,fun z' hz'=>?_,?_⟩
 .obtain⟨z,hz,rfl⟩:=omm hz';obtain⟨h1,h2,h3⟩:=h.rw z hz;refine⟨by rw[Be,Aq];exact Cr (K3 _ _) h1,fun qs hq=>?_,?_⟩
  .obtain⟨ps,hp,rfl⟩:=omm hq;exact i8 (h2 ps (De.mp hp).1) fun c hc e=>Zb H h hd hz hc e
  .show(((z.2.filter _).map _).map (Ag z.1)).Nodup;rw[Bz,show(Ag z.1∘fun ps=>Cj (dp (z.1.nm,Ag z.1 ps)).1 ps)=Ag z.1 from funext fun ps=>Oi H h hd hz _ ps];exact List.Nodup.sublist (List.Sublist.map _ List.filter_sublist) h3
 .refine Cr ?_ h.tot;rw[Bz];have:∀Z:List Zt,(Z.map ((fun z:Zt=>z.2.length)∘Be gone dp)).sum<=(Z.map fun z=>z.2.length).sum:=fun Z=>by
   induction Z with
   |nil=>exact Dn _
   |cons z Z ih=>rw[Ba,Ba,Lz,Lz];refine Nat.add_le_add ?_ ih;show(Be gone dp z).2.length<=_;rw[Be,Aq];exact K3 _ _
  exact this Z
include hg
theorem eJ(hG:J6 Z)(hs:(lks "stop" Z).any (hit gone)=false){z z':Zt}(hz:z∈Z)(hz':z'∈Z){w:Str}(hr:Rl.ref qa z'.1.nm w∈z.1.rs)(hw:w≠"late"):Jx (Be gone dp z) (Be gone dp z') (.ref qa z'.1.nm w)=[]:=by
 refine List.filter_eq_nil_iff.mpr fun x hx=>?_;obtain⟨qs,hq,rfl⟩:=omm (show x∈((Be gone dp z).2.filter fun ps=>!Ca (wK qa ps)).map fun ps=>((⟨z.1,qa,z'.1.nm,ps⟩:Lk),w)from hx);obtain⟨hq,hN⟩:=De.mp hq;obtain⟨ps,hp,rfl⟩:=omm hq;obtain⟨hp,hpg⟩:=De.mp hp;have hN:Ca (wK qa (Cj (dp (z.1.nm,Ag z.1 ps)).1 ps))=false:=by simpa using hN
 have hK:=jU hN;rw[Wn hK]at hN;have hpg:(z.1.nm,Ag z.1 ps)∉gone:=fun q=>by rw[List.any_eq_true.mpr ⟨_,q,Cd rfl⟩]at hpg;cases hpg
 obtain⟨z1,hz1,en,ha⟩:=hG z hz _ hr qa z'.1.nm w rfl ps hp hN;have:z1=z':=Pt (by rw[h.nms];exact H.nd) hz1 hz' en;subst this;obtain⟨tg,ht,et⟩:=List.any_eq_true.mp ha;have et:=Ey et;have hx0:=pz hz hr hp hN;have hfit:=H.fit _ (h.mem hz) _ hr;have goal:(Be gone dp z1).2.any (fun qs=>decide (Ag z1.1 qs=wK qa (Cj (dp (z.1.nm,Ag z.1 ps)).1 ps)))=true:=by
  rw[Wn hK];by_cases hgo:(z1.1.nm,wK qa ps)∈gone
  .exfalso;have hit:∀way:Str,w=way->Dy way gone (⟨z.1,qa,z1.1.nm,ps⟩,w)=true:=fun way e=>by show((w==way)&&(_&&_))=true;rw[e,List.any_eq_true.mpr ⟨_,hgo,Cd rfl⟩,List.any_eq_false.mpr fun y hy e=>hpg (by rw[show(z.1.nm,Ag z.1 ps)=y from(Ey e).symm];exact hy)];simp
   have cs:w="along"\/w="stop"\/w="late"\/w="gap":=by have:=hfit.2.2.2;simp only[Vx,List.mem_cons,List.not_mem_nil,or_false]at this;exact this.elim .inl fun e=>e.elim (fun e=>.inr (.inl e)) fun e=>e.elim (fun e=>.inr (.inr (.inl e))) fun e=>e.elim (fun e=>.inr (.inr (.inr e))) fun e=>e.elim .inl fun e=>.inr (.inr (.inr e))
   rcases cs with e|e|e|e
   .refine hpg (hg.wk.shut (fun x hx=>.inl hx) _ hgo _ ?_);rw[<-Q5];exact Bw.mpr ⟨_,De.mpr ⟨hx0,by subst e;exact Bool.and_eq_true_iff.mpr ⟨Gu _,Cd rfl⟩⟩,rfl⟩
   .rw[<-Re]at hs;exact List.any_eq_false.mp hs _ hx0 (hit _ e)
   .exact hw e
   .obtain⟨c,r,ec⟩:=List.exists_cons_of_ne_nil hfit.2.2.1;have hc:c∈qa:=by rw[ec];exact .head _
    have:=hK c hc;have h2:Bq (dp (z.1.nm,Ag z.1 ps)).1 (.str c)=true:=(L5 (hd _).st c).mpr (((hd _).mem c).mpr ⟨_,hx0,hit _ e,rfl,hc⟩);rw[h2]at this;cases this
  .refine List.any_eq_true.mpr ⟨_,Bw.mpr ⟨tg,De.mpr ⟨ht,?_⟩,rfl⟩,Cd ((Oi H h hd hz1 _ tg).trans et)⟩;rw[Bool.not_eq_true',List.any_eq_false];intro y hy e;exact hgo (by rw[<-et,<-show y=(z1.1.nm,Ag z1.1 tg)from Ey e];exact hy)
 show ¬(!((Be gone dp z1).2.any fun qs=>decide (Ag z1.1 qs=wK qa (Cj (dp (z.1.nm,Ag z.1 ps)).1 ps))))=true;rw[goal];decide
end
end
noncomputable def Vo:Fd:=⟨3,4,[.asg 3 (.idx A5 A2),
  .ite (.cmp .eq A7 H7) [.ret (.call "opposite" [.call "holds" [A4,.idx A5 A3,A6]])] [],
  .ite (.lor (.cmp .eq A7 H8) (.cmp .eq A7 H0)) [.ret (.call "joined" [.cmp .eq A7 H0,.comp (.call "holds" [A5,A4,A7]) 1 .plain [.sli A5 (some A3) none] none])] [],
  .ite (.cmp .eq A7 H4) [.ret (.cmp .eq (.call "worths_of" [A4,A6,.sli A5 (some A3) none]) (.tup [.cst .non]))] [],
  .ite (.cmp .eq A7 H1) [.ret (.call "compared" [A7,.bin .add (.call "worths_of" [A4,A6,.sli A5 (some A3) (some A8)]) (.sli A5 (some A8) none)])] [],
  .ret (.call "compared" [A7,.call "worths_of" [A4,A6,.sli A5 (some A3) none]])]⟩
noncomputable def U8:Fd:=⟨1,1,[.ite (.cmp .isN A4 B4) [.ret B4] [],
  .ret (.lnot A4)]⟩
noncomputable def Uw:Fd:=⟨2,2,[.ite (.cmp .isin A4 A5) [.ret A4] [],
  .ite (.cmp .isin B4 A5) [.ret B4] [],
  .ret (.lnot A4)]⟩
noncomputable def Rz:Fd:=⟨2,2,[.ite (.cmp .isin B4 A5) [.ret B4] [],
  .ite (.cmp .eq A4 H1) [.ret (.cmp .eq (.idx A5 A2) (.idx A5 A3))] [],
  .ret (.cmp .lt (.idx A5 A2) (.idx A5 A3))]⟩
noncomputable def W2:Fd:=⟨3,3,[.ret (.cmp .notF (.call "holds" [A4,.idx A6 A3,A5]) B5)]⟩
def Ef:a7 Bool->T
 |none=>.non
 |some b=>.bl b
section
variable {G:Glo}
theorem mJ(a:a7 Bool):W G U8.body (st0 [Ef a] 0) fun o=>∃c,o=.rt (Ef c):=by
 rcases a with _|b
 .exact El rfl (Ar rfl ⟨none,rfl⟩)
 .exact Bu rfl (Ar (t:=.bl (!b)) rfl ⟨some _,rfl⟩)
theorem gL(s:Bool)(a c:a7 Bool):W G Uw.body (st0 [.bl s,.lst [Ef a,Ef c]] 0) fun o=>∃c,o=.rt (Ef c):=by
 rcases a with _|a<;>rcases c with _|c <;>
  exact Br (Ap rfl rfl rfl) (fun _=>Ar (t:=.bl s) rfl ⟨some _,rfl⟩) fun _=>Br (Ap rfl rfl rfl) (fun _=>Ar rfl ⟨none,rfl⟩) fun _=>Ar (t:=.bl (!s)) rfl ⟨some _,rfl⟩
def Cmb(w:Str)(u v:T):Prop:=u=.non\/v=.non\/(w==("is":Str))=true/\Bc u v=0\/(w==("is":Str))=false/\((∃i j,u=.int i/\v=.int j)\/∃x y,u=.str x/\v=.str y)
theorem jv{w:Str}{u v:T}(hf:F6 u=true)(hf':F6 v=true)(h:Cmb w u v):W G Rz.body (st0 [.str w,.tup [u,v]] 0) fun o=>∃c,o=.rt (Ef c):=by
 have isn:∃q,Bt .isin .non (.tup [u,v])=some (.bl q)/\(q=false->u≠.non/\v≠.non):=by
  cases u<;>first
   |(cases hf;done)
   |(cases v<;>first
     |(cases hf';done)
     |exact⟨_,rfl,fun q=>by first|(cases q;done)|exact⟨(fun h=>nomatch h),fun h=>nomatch h⟩⟩)
 obtain⟨q,e,hq⟩:=isn;refine Br (Ap rfl rfl e) (fun _=>Ar rfl ⟨none,rfl⟩) fun qf=>?_;obtain⟨n1,n2⟩:=hq qf;rcases h with h|h|⟨h,hd⟩|⟨h,h2⟩
 .exact absurd h n1
 .exact absurd h n2
 .exact El (Ap rfl rfl (sw h)) (Ar (Ap (Ak rfl rfl rfl) (Ak rfl rfl rfl) (by show(if Bc u v<=30 then some (T.bl (eqT u v))else none)=_;rw[hd];rfl)) ⟨some _,rfl⟩)
 .refine Bu (Ap rfl rfl (sw h)) ?_;rcases h2 with⟨i,j,rfl,rfl⟩|⟨i,j,rfl,rfl⟩<;>exact Ar (Ap (Ak rfl rfl rfl) (Ak rfl rfl rfl) rfl) ⟨some _,rfl⟩
theorem P9{c:Col}{v:T}(h:Wok c v):F6 v=true:=by rcases h with rfl|⟨_,_,rfl⟩|⟨_,_,rfl⟩<;>rfl
theorem av{u v:T}(h:F6 u=true)(h':F6 v=true):Bc u v=0:=by
 cases u<;>first
  |(cases h;done)
  |(cases v<;>first|rfl|(cases h';done))
theorem jz{b:Tb}{ps:Row}(hb:b.ok)(hp:RowOk b ps)(d:Nat)(t:Tst)(ht:t.ok b.cs (d+1))(sub:∀t:Tst,t.ok b.cs d->∃a,G.call "holds" [b.t,t.t,Ah ps]=some (Ef a))(co:∀a,∃c,G.call "opposite" [Ef a]=some (Ef c))(cj:∀s a c,∃d,G.call "joined" [.bl s,.lst [Ef a,Ef c]]=some (Ef d))(cc:∀w u v,F6 u=true->F6 v=true->Cmb w u v->∃d,G.call "compared" [.str w,.tup [u,v]]=some (Ef d))(wo:∀qa:List Str,(∀x∈qa,∃c∈b.cs,c.n=x)->qa.length<=4->G.call "worths_of" [b.t,Ah ps,Cf qa]=some (Ai (wK qa ps))):W G Vo.body (st0 [b.t,t.t,Ah ps] 1) fun o=>∃a,o=.rt (Ef a):=by
 have ws:∀qa:List Str,(∀x∈qa,∃c∈b.cs,c.n=x)->qa.length<=4->G.call "worths_of" [b.t,Ah ps,Cf qa]=some (.tup (qa.map (val ps))):=fun qa h1 h2=>by rw[X4 hb hp h1];exact wo qa h1 h2
 have at':∀{x:Str},(∃c∈b.cs,c.n=x)->∃p:Col×T,p∈ps/\p.1.n=x/\val ps x=p.2:=fun hc=>let⟨_,p,h1,h2,_,_,h3⟩:=hp.at hb hc;⟨p,h1,h2,h3⟩
 have pair:∀{a c:Tst}{w:Str},a.ok b.cs d->c.ok b.cs d->∃i j,Ac G (.comp (.call "holds" [.var 1,.var 0,.var 3]) 1 .plain [.sli (.var 1) (some (.cst (.int 1))) none] none) (fv [.val b.t,T.tup [.str w,a.t,c.t],.val (Ah ps),T.str w])=some (.lst [Ef i,Ef j]):=fun{a c w}ha hc=>by
  obtain⟨i,ei⟩:=sub a ha;obtain⟨j,ej⟩:=sub c hc;obtain⟨M,e1,e2,hM⟩:=M5 (G:=G) (e:=.call "holds" [.var 1,.var 0,.var 3]) (n:=1) (k:=.plain) (es:=[.sli (.var 1) (some (.cst (.int 1))) none]) (ρ:=fv [.val b.t,T.tup [.str w,a.t,c.t],.val (Ah ps),T.str w]) (ts:=[.tup [a.t,c.t]]) (enc:=Tst.t) (dec:=Ef) (R:=[a,c]) (fun _ _=>True) rfl rfl fun t h=>by
   rcases omc h with rfl|h
   .exact⟨i,_,rfl,Al ei rfl,trivial⟩
   .rw[omg h];exact⟨j,_,rfl,Al ej rfl,trivial⟩
  rcases M with _|⟨⟨_,i⟩,_|⟨⟨_,j⟩,_|_⟩⟩<;>first|(simp at e2;done)|exact⟨i,j,e1⟩
 cases t with
 |neg t=>obtain⟨a,e⟩:=sub t ht;obtain⟨c,e2⟩:=co a;refine An rfl ?_;exact El rfl (Ar (Al e2 (Ab (Al e rfl) rfl)) ⟨_,rfl⟩)
 |cnj a c=>obtain⟨i,j,e⟩:=pair (w:="and") ht.1 ht.2;obtain⟨k,e2⟩:=cj false i j;refine An rfl ?_;refine Bu rfl ?_;exact El rfl (Ar (Al e2 (Ab rfl (Ab e rfl))) ⟨_,rfl⟩)
 |dsj a c=>obtain⟨i,j,e⟩:=pair (w:="or") ht.1 ht.2;obtain⟨k,e2⟩:=cj true i j;refine An rfl ?_;refine Bu rfl ?_;exact El rfl (Ar (Al e2 (Ab rfl (Ab e rfl))) ⟨_,rfl⟩)
 |emp x=>refine An rfl ?_;refine Bu rfl ?_;refine Bu rfl ?_;obtain⟨p,hpm,_,ep⟩:=at' ht;have hfl:=P9 (hp.wk p hpm);rw[<-ep]at hfl;refine El rfl (Ar (Ap (Al (ws [x] (fun y hy=>by rw[omg hy];exact ht) (by show 1<=4;decide)) rfl) (Cg rfl) (t:=.bl (eqT (.tup [val ps x]) (.tup [.non]))) ?_) ⟨some _,rfl⟩);show(if Bc (.tup [val ps x]) (.tup [.non])<=30 then some (T.bl (eqT (.tup [val ps x]) (.tup [.non])))else none)=_;rw[if_pos (by show max (Bc (val ps x) .non) 0+1<=30;rw[av hfl rfl];decide)]
 |isV x v=>refine An rfl ?_;refine Bu rfl ?_;refine Bu rfl ?_;refine Bu rfl ?_;obtain⟨p,hpm,_,ep⟩:=at' ht.1;have hfl:=P9 (hp.wk p hpm);rw[<-ep]at hfl;obtain⟨k,e2⟩:=cc "is" (val ps x) v hfl ht.2 (.inr (.inr (.inl ⟨by decide +kernel,av hfl ht.2⟩)));exact El rfl (Ar (Al e2 (Ab rfl (Ab (Ay (Al (ws [x] (fun y hy=>by rw[omg hy];exact ht.1) (by show 1<=4;decide)) rfl) rfl (Mi (by show 1+1<=SZ;have:=Ci;lia))) rfl))) ⟨_,rfl⟩)
 |bel x y=>
  obtain⟨o,ho,o',ho',rfl,rfl,hk⟩:=ht;refine An rfl ?_;refine Bu rfl ?_;refine Bu rfl ?_;refine Bu rfl ?_;refine Bu rfl ?_;obtain⟨p,hpm,pn,ep⟩:=at' ⟨o,ho,rfl⟩;obtain⟨q,hqm,qn,eq⟩:=at' ⟨o',ho',rfl⟩;have kd:∀{p:Col×T}{o:Col},p∈ps->o∈b.cs->p.1.n=o.n->p.1=o:=fun{p o}h1 h2 h3=>by
   have h0:p.1∈b.cs:=by rw[<-hp.cs];exact Bw.mpr ⟨p,h1,rfl⟩
   have a1:=(I7 (·.n) h0 hb.nd).choose_spec.2.2;have a2:=(I7 (·.n) h2 hb.nd).choose_spec.2.2;rw[h3,a2]at a1;exact(List.cons.inj a1).1.symm
  have w1:=hp.wk p hpm;have w2:=hp.wk q hqm;rw[kd hpm ho pn]at w1;rw[kd hqm ho' qn]at w2;have f1:=P9 w1;have f2:=P9 w2;rw[<-ep]at w1 f1;rw[<-eq]at w2 f2;have cm:Cmb "below" (val ps o.n) (val ps o'.n):=by
   unfold Wok at w1 w2;rw[<-hk]at w2;have nb:(("below":Str)=="is")=false:=by decide +kernel
   rcases w1 with z|⟨k1,a,z⟩|⟨k1,a,z⟩<;>rcases w2 with y|⟨k2,c,y⟩|⟨k2,c,y⟩<;>first
    |exact .inl z
    |exact .inr (.inl y)
    |(rw[k1]at k2;cases k2;done)
    |exact .inr (.inr (.inr ⟨nb,.inr ⟨_,_,z,y⟩⟩))
    |exact .inr (.inr (.inr ⟨nb,.inl ⟨_,_,z,y⟩⟩))
  obtain⟨k,e2⟩:=cc "below" _ _ f1 f2 cm;exact Ar (Al e2 (Ab rfl (Ab (Al (ws [o.n,o'.n] (fun y hy=>by
   rcases omc hy with rfl|hy
   .exact⟨o,ho,rfl⟩
   .rw[omg hy];exact⟨o',ho',rfl⟩) (by show 2<=4;decide)) rfl) rfl))) ⟨_,rfl⟩
end
noncomputable def X8:Fd:=⟨3,8,[.dnew 3,
  .loop [4] .plain [A6] [.asg 5 (.call "worths_of" [A4,A9,.idx A5 A3]),
  .ite (.cmp .notin B4 B0) [.dapp 3 B0 (.call "key_of" [A4,A9])] []],
  .asg 6 (.lst []),
  .loop [7] .vals [A7] [.ite (.cmp .gt (.blt .len B6) A3) [.ext 6 B6] []],
  .ret B3]⟩
theorem qh:Plc Ai Cw:=⟨Ge,fun{K p}h hp=>by
 have:(K.map Ai).all Em=true:=by rw[List.all_map];exact En.mpr fun q hq=>Km (h q hq)
 show(_||(Em (Ai p)&&(K.map Ai).all Em))=true;rw[Km hp,this];simp⟩
theorem Rn{α β:Type}{f:α->β}:∀{l:List α},(l.map f).Nodup->∀{a b:α},a∈l->b∈l->f a=f b->a=b
 |x::l,nd,a,b,ha,hb,e=>by
  rw[Ba]at nd;obtain⟨n1,n2⟩:=Er.mp nd;rcases omc ha with q|q<;>rcases omc hb with r|r
  .exact q.trans r.symm
  .rw[q]at e;exact absurd (Bw.mpr ⟨b,r,e.symm⟩) n1
  .rw[r]at e;exact absurd (Bw.mpr ⟨a,q,e⟩) n1
  .exact Rn n2 q r e
theorem bJ{α β:Type}[DecidableEq α]{enc:α->T}(P:∀a b,eqT (enc a) (enc b)=decide (a=b)){f:α->β}{e0:β}:∀{K:List α}{V:List β},K.length=V.length->K.Nodup->(∀p∈K,(Aw (K.map enc) V (enc p)).getD e0=f p)->V=K.map f
 |[],[],_,_,_=>rfl
 |k::K,v::V,hl,nd,h=>by obtain⟨n1,n2⟩:=Er.mp nd;have e1:=h k (.head _);rw[Ba,Aw,P,if_pos (Cd rfl)]at e1;have e2:v=f k:=e1;rw[List.map_cons,<-e2,<-bJ P (e0:=e0) (K:=K) (V:=V) (by simpa using hl) n2 fun p hp=>?_];have:=h p (.tail _ hp);rw[List.map_cons,Aw,P,if_neg (by simpa using fun e:k=p=>n1 (e▸hp))]at this;exact this
def alk(b:Tb)(qa:List Str)(D:List Row)(p:List Kt):List (List Kt):=(D.filter fun ps=>!Ca (wK qa ps)&&decide (wK qa ps=p)).map (Ag b)
theorem Zm(b:Tb)(qa:List Str)(D:List Row)(ps:Row)(p:List Kt):alk b qa (D++[ps]) p=alk b qa D p++if(!Ca (wK qa ps)&&decide (wK qa ps=p))=true then[Ag b ps]else[]:=by unfold alk;rw[List.filter_append,Dx,Gr];split<;>rfl
section
variable {G:Glo}{b:Tb}{R:List Row}{qa:List Str}
theorem nu(hR:∀ps∈R,RowOk b ps)(nd:(R.map (Ag b)).Nodup)(hl:R.length<=60)(wo:∀ps∈R,G.call "worths_of" [b.t,Ah ps,Cf qa]=some (Ai (wK qa ps)))(ck:∀ps∈R,G.call "key_of" [b.t,Ah ps]=some (Ao b ps)):W G X8.body (st0 [b.t,(Rl.unl qa).t,Cs (b,R)] 5) fun o=>∃L:List (List Kt),o=.rt (.lst (L.map Ai))/\L.Nodup/\∀k∈L,k∈R.map (Ag b):=by
 have hsz:=Ci;refine Mc ?_;refine Da [3,4,5] (enc:=Ah) R (fun D zs=>∃(s a c:Sl),zs=[s,a,c]/\Dl Ai Cw s D.length (alk b qa D)) [.dic [] [],.no,.no] rfl (Dv _) rfl ⟨_,_,_,rfl,⟨[],[],.inr ⟨rfl,rfl⟩,rfl,fun _ h=>absurd h (by simp),Nat.le_refl _,.nil,fun _=>rfl⟩,fun _=>Nat.le_refl _⟩ (fun D ps D2 e zs hI=>?_) fun zs hI=>?_
 .obtain⟨s,a,c,rfl,hs⟩:=hI;have hps:ps∈R:=by rw[e];simp
  have hD:D.length<1000:=by rw[e,By]at hl;lia
  refine Bv ?_;refine An (Al (wo ps hps) (Ab rfl (Ab rfl (Ab (Ak rfl rfl rfl) rfl)))) ?_;refine Br (q:=!Ca (wK qa ps)) (Ap rfl rfl (by rw[Bt,S7];rfl)) (fun q=>?_) fun q=>As ⟨_,rfl,s,_,_,rfl,?_⟩
  .have ng:Cw (wK qa ps):=fun k hk e=>by have:Ca (wK qa ps)=true:=List.any_eq_true.mpr ⟨k,hk,Cd e⟩;rw[this]at q;cases q
   obtain⟨s',e1,h1⟩:=Dl.app qh hs (a:=wK qa ps) (b:=Ag b ps) hD ng;refine Yv (t:=Ai (wK qa ps)) (u:=Ai (Ag b ps)) rfl (Al (ck ps hps) rfl) e1 ?_;refine As (As ⟨_,rfl,s',_,_,rfl,?_⟩);rw[Ju,show alk b qa (D++[ps])=fun p=>alk b qa D p++if wK qa ps=p then[Ag b ps]else[]from funext fun p=>by rw[Zm,q];simp];exact h1
  .have:alk b qa (D++[ps])=alk b qa D:=funext fun p=>by rw[Zm,q];simp
   rw[this,By];obtain⟨⟨K,V,h1,h2,h3,h4,h5,h7⟩,h6⟩:=hs;exact⟨⟨K,V,h1,h2,h3,by lia,h5,h7⟩,fun p=>Nat.le_succ_of_le (h6 p)⟩
 .obtain⟨s,a,c,rfl,⟨⟨K,V,h1,h2,h3,h4,h5,h7⟩,h6⟩⟩:=hI;have eV:=bJ Ge h2 h5 fun p _=>h7 p;have hfz:s.frz.get=some (.dic (K.map Ai) ((V.map (·.map Ai)).map .lst)):=by
   rcases h1 with rfl|⟨rfl,rfl⟩
   .rfl
   .cases V with
    |nil=>rfl
    |cons _ _=>cases h2
  refine w_nz ?_;refine An (t:=.lst []) rfl ?_;refine Da (js:=[3]) [6,7] (enc:=fun g:List (List Kt)=>T.lst (g.map Ai)) V (fun D zs=>∃(L:List T)(x:Sl),zs=[.own L,x]/\L=((D.filter fun g=>decide (1<g.length)).flatten).map Ai/\L.length<=60*D.length) [.own [],.no] (ts:=[.dic (K.map Ai) ((V.map (·.map Ai)).map .lst)]) (Ab (by rw[Ac];exact hfz) rfl) (Av some (by rw[Bz];rfl)) rfl ⟨_,_,rfl,rfl,E9 _⟩ (fun D g D2 e zs hI=>?_) fun zs hI=>?_
  .obtain⟨_,x,rfl,rfl,hL⟩:=hI;have hg:g.length<=60:=by
    have:g∈V:=by rw[e];simp
    rw[eV]at this;obtain⟨p,_,rfl⟩:=omm this;exact Cr (h6 p) hl
   have hD:D.length<=60:=by have:=Av List.length e;rw[<-h2,By]at this;lia
   refine Bv ?_;refine Br (q:=decide (1<g.length)) (Ap (Pf rfl) rfl (by show some (T.bl (decide ((g.length:Int)>1)))=_;congr 2;exact decide_eq_decide.mpr (by lia))) (fun q=>?_) fun q=>As ⟨_,rfl,_,_,rfl,by rw[List.filter_append,Gr,q];simp,by rw[Ju];lia⟩;refine Y2 (us:=g.map Ai) rfl rfl (by rw[Aq (as:=g)];lia) ?_;exact As (As ⟨_,rfl,_,_,rfl,by rw[List.filter_append,Gr,q];simp,by rw[Ju,Ju,List.length_map (as:=g),List.length_singleton];lia⟩)
  .obtain⟨_,x,rfl,rfl,_⟩:=hI;refine Ar rfl ⟨_,rfl,?_,fun k hk=>?_⟩
   .refine List.pairwise_flatten.mpr ⟨fun g hg=>?_,List.Pairwise.sublist List.filter_sublist ?_⟩
    .have:=(De.mp hg).1;rw[eV]at this;obtain⟨p,_,rfl⟩:=omm this;exact List.Nodup.sublist (List.Sublist.map _ List.filter_sublist) nd
    .rw[eV];refine List.pairwise_map.mpr (h5.imp fun{p q}n x hx y hy e=>?_);obtain⟨ps,hp,rfl⟩:=omm hx;obtain⟨qs,hq,rfl⟩:=omm hy;obtain⟨hp,hp2⟩:=De.mp hp;obtain⟨hq,hq2⟩:=De.mp hq;have:=Rn nd hp hq e;subst this;exact n ((Ey (Bool.and_eq_true_iff.mp hp2).2).symm.trans (Ey (Bool.and_eq_true_iff.mp hq2).2))
   .obtain⟨g,hg,hk⟩:=List.mem_flatten.mp hk;have:=(De.mp hg).1;rw[eV]at this;obtain⟨p,_,rfl⟩:=omm this;obtain⟨ps,hp,rfl⟩:=omm hk;exact Bw.mpr ⟨ps,(De.mp hp).1,rfl⟩
end
noncomputable def Wa:Fd:=⟨4,5,[.asg 4 (.call "rows_of" [A4,A5,.idx A6 A2]),
  .ite (.cmp .eq (.idx A7 A2) C6) [.ret (.comp (.call "key_of" [A7,A4]) 1 .plain [A9] (some (.lnot (.tru (.call "is_kept" [A7,A4,A9])))))] [],
  .ite (.cmp .eq (.idx A7 A2) D5) [.ret (.call "keys_alike" [A6,A7,A9])] [],
  .ret (.call "keys_referring_to_none" [A4,A5,A6,A7])]⟩
section
variable {G:Glo}{B:List Tb}{Z:List Zt}{b:Tb}{R:List Row}{r:Rl}
theorem g6{ps:Row}{t:Tst}{a:a7 Bool}(e:G.call "holds" [b.t,t.t,Ah ps]=some (Ef a)):W G W2.body (st0 [b.t,Ah ps,(Rl.chk t).t] 0) fun o=>∃q,o=.rt (.bl q):=by rcases a with _|_|_<;>exact Ar (Ap (Al e (Ab rfl (Ab (Ak rfl rfl rfl) (Ab rfl rfl)))) rfl rfl) ⟨_,rfl⟩
def Kys(Z:List Zt)(b:Tb)(R:List Row)(r:Rl)(L:List (List Kt)):Prop:=L.Nodup/\(∀k∈L,k∈R.map (Ag b))/\∀qa g w,r=.ref qa g w->∃z'∈Z,z'.1.nm=g/\L=(Jx (b,R) z' r).map fun x=>x.1.pl.2
theorem kb_W(C:Pc G B Z)(hz:(b,R)∈Z)(hl:R.length<=60)(nd:(R.map (Ag b)).Nodup)(ck:∀ps∈R,G.call "key_of" [b.t,Ah ps]=some (Ao b ps))(ek:∀t,r=.chk t->∀ps∈R,∃q,G.call "is_kept" [b.t,Ah ps,r.t]=some (.bl q))(ea:∀qa,r=.unl qa->∃L:List (List Kt),G.call "keys_alike" [b.t,r.t,Cs (b,R)]=some (.lst (L.map Ai))/\L.Nodup/\∀k∈L,k∈R.map (Ag b))(en:∀qa g w,r=.ref qa g w->∃z'∈Z,z'.1.nm=g/\G.call "keys_referring_to_none" [Am Z,Aj Z,b.t,r.t]=some (.lst ((Jx (b,R) z' r).map fun x=>Ai x.1.pl.2))):W G Wa.body (st0 [Am Z,Aj Z,b.t,r.t] 1) fun o=>∃L:List (List Kt),o=.rt (.lst (L.map Ai))/\Kys Z b R r L:=by
 have hsz:=Ci;refine An (Al (C.rw _ hz) (Ab rfl (Ab rfl (Ab (Ak rfl rfl (t0 _)) rfl)))) ?_;have i0:=r0w r;cases r with
 |chk t=>
  obtain⟨f,hf⟩:=Classical.axiomOfChoice (r:=fun ps(q:Bool)=>ps∈R->G.call "is_kept" [b.t,Ah ps,(Rl.chk t).t]=some (.bl q)) fun ps=>by
   by_cases hp:ps∈R
   .obtain⟨q,e⟩:=ek t rfl ps hp;exact⟨q,fun _=>e⟩
   .exact⟨true,fun z=>absurd z hp⟩
  refine El (Ap (Ak rfl rfl i0) rfl (sw (show(("check":Str)=="check")=true by decide +kernel))) (Ar (Fy (enc:=Ah) (R:=R) (fun ps=>!f ps) (Ao b) rfl (Fv (by rw[Aq];show R.length<=SZ;lia)) fun ps hp=>⟨_,rfl,by rw[Ac,Ac,Al (hf ps hp) rfl];rfl,fun _=>Al (ck ps hp) rfl⟩) ⟨(R.filter fun ps=>!f ps).map (Ag b),by rw[Bz];rfl,List.Nodup.sublist (List.Sublist.map _ List.filter_sublist) nd,fun k hk=>?_,fun _ _ _ e=>nomatch e⟩);obtain⟨ps,hp,rfl⟩:=omm hk;exact Bw.mpr ⟨ps,(De.mp hp).1,rfl⟩
 |unl qa=>obtain⟨L,e,h1,h2⟩:=ea qa rfl;refine Bu (Ap (Ak rfl rfl i0) rfl (sw (show(("unlike":Str)=="check")=false by decide +kernel))) ?_;exact El (Ap (Ak rfl rfl i0) rfl (sw (show(("unlike":Str)=="unlike")=true by decide +kernel))) (Ar (Al e rfl) ⟨L,rfl,h1,h2,fun _ _ _ e=>nomatch e⟩)
 |ref qa g w=>
  obtain⟨z',hz',en',e⟩:=en qa g w rfl;refine Bu (Ap (Ak rfl rfl i0) rfl (sw (show(("refers":Str)=="check")=false by decide +kernel))) ?_;refine Bu (Ap (Ak rfl rfl i0) rfl (sw (show(("refers":Str)=="unlike")=false by decide +kernel))) ?_;have key:∀D:List Row,(F4 (b,D) (.ref qa g w)).map (fun x=>x.1.pl.2)=(D.filter fun ps=>!Ca (wK qa ps)).map (Ag b):=fun D=>by show((D.filter fun ps=>!Ca (wK qa ps)).map fun ps=>((⟨b,qa,g,ps⟩,w):Rf)).map _=_;rw[Bz];rfl
  have sub:((Jx (b,R) z' (.ref qa g w)).map fun x=>x.1.pl.2).Sublist (R.map (Ag b)) :=
   (List.Sublist.map _ List.filter_sublist).trans (by rw[key];exact List.Sublist.map _ List.filter_sublist)
  exact Ar (Al e rfl) ⟨_,by rw[Bz];rfl,List.Nodup.sublist sub nd,fun k hk=>sub.subset hk,fun _ _ _ e=>by cases e;exact⟨z',hz',en',rfl⟩⟩
end
noncomputable def Wd:Fd:=⟨2,7,[.asg 2 (.lst []),
  .loop [3] .plain [A4] [.loop [4,5] .enum [.idx A7 B1] [.loop [6] .plain [.call "keys_that_break" [A4,A5,A7,B0]] [.app 2 (.tup [.idx A7 A2,A9,B3])]]],
  .ret (.blt .toTuple (.blt .sorted A6))]⟩
noncomputable def bkz(kf:Zt->Rl->List (List Kt))(z:Zt)(ps:List (Rl×Nat)):List Bk:=ps.flatMap fun p=>(kf z p.1).map fun k=>⟨z.1,p.2,p.1,k⟩
def bks(kf:Zt->Rl->List (List Kt))(Z:List Zt):List Bk:=Z.flatMap fun z=>bkz kf z (z.1.rs.zipIdx 0)
section
variable {G:Glo}{B:List Tb}{m:Nat}{Z:List Zt}{kf:Zt->Rl->List (List Kt)}
theorem fW(l1000:(bks kf Z).length<=1000)(hr4:∀z∈Z,z.1.rs.length<=4)(ck:∀z∈Z,∀r∈z.1.rs,G.call "keys_that_break" [Am Z,Aj Z,z.1.t,r.t]=some (.lst ((kf z r).map Ai))){k:List Bk}(so:Eo ((bks kf Z).map Bk.t)=some (.lst (k.map Bk.t))):W G Wd.body (st0 [Am Z,Aj Z] 5) fun o=>o=.rt (.tup (k.map Bk.t)):=by
 have hsz:=Ci;refine An (t:=.lst []) rfl ?_;refine Da [2,3,4,5,6] (enc:=fun z:Zt=>z.1.t) Z (fun D zs=>∃(L:List T)(a b c d:Sl),zs=[.own L,a,b,c,d]/\L=(bks kf D).map Bk.t) [.own [],.no,.no,.no,.no] rfl (Dv _) rfl ⟨_,_,_,_,_,rfl,rfl⟩ (fun D z D2 e zs hI=>?_) fun zs hI=>?_
 .obtain⟨_,a,b,c,d,rfl,rfl⟩:=hI;have hz:z∈Z:=by rw[e];simp
  have h4:=hr4 z hz;refine Bv ?_;refine Da [2,4,5,6] (enc:=fun p:Rl×Nat=>T.tup [.int (p.2:Int),p.1.t]) (z.1.rs.zipIdx 0) (fun D' zs=>∃(L:List T)(b c d:Sl),zs=[.own L,b,c,d]/\L=(bks kf D++bkz kf z D').map Bk.t) [.own ((bks kf D).map Bk.t),b,c,d] (Ab (Ak rfl rfl (t3 _)) rfl) (congrArg some (Nx Rl.t z.1.rs 0)) rfl ⟨_,_,_,_,rfl,by simp[bkz]⟩ (fun D' p D2' e' zs hI=>?_) fun zs hI=>?_
  .obtain⟨_,b,c,d,rfl,rfl⟩:=hI;have hp:p.1∈z.1.rs:=by
    have:p∈z.1.rs.zipIdx 0:=by rw[e'];simp
    exact List.fst_mem_of_mem_zipIdx this
   refine Bv ?_;refine Da [2,6] (enc:=Ai) (kf z p.1) (fun E zs=>∃(L:List T)(d:Sl),zs=[.own L,d]/\L=(bks kf D++bkz kf z D'++E.map fun k=>(⟨z.1,p.2,p.1,k⟩:Bk)).map Bk.t) [.own ((bks kf D++bkz kf z D').map Bk.t),d] (Ab (Al (ck z hz p.1 hp) rfl) rfl) (Hf _) rfl ⟨_,_,rfl,by simp⟩ (fun E k E2 e2 zs hI=>?_) fun zs hI=>?_
   .obtain⟨_,d,rfl,rfl⟩:=hI;refine Bv ?_;refine I9 (t:=Bk.t ⟨z.1,p.2,p.1,k⟩) (Cg (Ab (Ak rfl rfl (t0 _)) rfl)) rfl (by rw[e,bks,List.flatMap_append,J0,e',bkz,List.flatMap_append,J0,e2]at l1000;simp[bks,bkz]at l1000 ⊢;lia) ?_;exact As ⟨_,rfl,_,_,rfl,by simp⟩
   .obtain⟨_,d,rfl,rfl⟩:=hI;exact As ⟨_,rfl,_,_,_,_,rfl,by simp[bkz]⟩
  .obtain⟨_,b,c,d,rfl,rfl⟩:=hI;exact As ⟨_,rfl,_,_,_,_,_,rfl,by simp[bks]⟩
 .obtain⟨_,a,b,c,d,rfl,rfl⟩:=hI;exact Ar (Ct (Ct rfl so) rfl) rfl
end
theorem Z1{kf:Zt->Rl->List (List Kt)}{Z:List Zt}{e:Bk}(he:e∈bks kf Z):∃z∈Z,e.b=z.1/\z.1.rs[e.i]?=some e.r/\e.k∈kf z e.r:=by obtain⟨z,hz,he⟩:=Eg.mp he;obtain⟨p,hp,he⟩:=Eg.mp he;obtain⟨k,hk,rfl⟩:=omm he;exact⟨z,hz,rfl,List.mem_zipIdx_iff_getElem?.mp hp,hk⟩
theorem Rr{a b:Bk}(e:a.t=b.t):a.b.nm=b.b.nm/\a.i=b.i/\a.k=b.k:=by have h:T.tup [.str a.b.nm,.int (a.i:Int),Ai a.k]=.tup [.str b.b.nm,.int (b.i:Int),Ai b.k]:=e;simp only[T.tup.injEq,List.cons.injEq,T.str.injEq,T.int.injEq,and_true]at h;refine⟨h.1,by lia,?_⟩;have:=Ge a.k b.k;rw[h.2.2,Ge]at this;simpa using this
section
variable {B:List Tb}{m:Nat}{Z:List Zt}{kf:Zt->Rl->List (List Kt)}(H:Sch B)(h:Stn B m Z)(hk:∀z∈Z,∀r∈z.1.rs,(kf z r).Nodup/\∀k∈kf z r,k∈z.2.map (Ag z.1))
include H h hk
theorem jO:((bks kf Z).map Bk.t).Nodup:=by
 have ndZ:(Z.map (·.1.nm)).Nodup:=by rw[h.nms];exact H.nd
 refine List.pairwise_map.mpr (List.pairwise_flatMap.mpr ⟨fun z hz=>List.pairwise_flatMap.mpr ⟨fun p hp=>List.pairwise_map.mpr ((hk z hz p.1 (List.fst_mem_of_mem_zipIdx hp)).1.imp fun n e=>n (Rr e).2.2),?_⟩,(List.pairwise_map.mp ndZ).imp fun n x hx y hy e=>n ?_⟩)
 .have:((z.1.rs.zipIdx 0).map (·.2)).Nodup:=by rw[List.zipIdx_map_snd];exact List.nodup_range'
  refine(List.pairwise_map.mp this).imp fun n x hx y hy e=>n ?_;obtain⟨_,_,rfl⟩:=omm hx;obtain⟨_,_,rfl⟩:=omm hy;exact(Rr e).2.1
 .obtain⟨_,_,hx⟩:=Eg.mp hx;obtain⟨_,_,rfl⟩:=omm hx;obtain⟨_,_,hy⟩:=Eg.mp hy;obtain⟨_,_,rfl⟩:=omm hy;exact(Rr e).1
theorem kH:(bks kf Z).length<=4*m:=by
 have one:∀z∈Z,(bkz kf z (z.1.rs.zipIdx 0)).length<=z.2.length*z.1.rs.length:=fun z hz=>by
  have:=L6 (l:=z.1.rs.zipIdx 0) (f:=fun p:Rl×Nat=>(kf z p.1).map fun k=>(⟨z.1,p.2,p.1,k⟩:Bk)) (k:=z.2.length) fun p hp=>by
   obtain⟨h1,h2⟩:=hk z hz p.1 (List.fst_mem_of_mem_zipIdx hp);have:=Jb h1 h2
   rwa[Aq,<-Aq (f:=Ag z.1)]
  rw[List.length_zipIdx,Nat.mul_comm]at this;exact this
 have go:∀Y:List Zt,(∀z∈Y,(bkz kf z (z.1.rs.zipIdx 0)).length<=4*z.2.length)->(Y.flatMap fun z=>bkz kf z (z.1.rs.zipIdx 0)).length<=4*(Y.map fun z=>z.2.length).sum:=fun Y=>by
  induction Y with
  |nil=>exact fun _=>Dn _
  |cons z Y ih=>intro h;rw[J0,By,Ba,Lz,Nat.mul_add];exact Nat.add_le_add (h z (.head _)) (ih fun z hz=>h z (.tail _ hz))
 refine Cr (go Z fun z hz=>Cr (one z hz) ?_) (Nat.mul_le_mul_left 4 h.tot);rw[Nat.mul_comm];exact Nat.mul_le_mul_right _ (H.ok _ (h.mem hz)).rl
theorem eh(hl:(bks kf Z).length<=60):∃k:List Bk,Eo ((bks kf Z).map Bk.t)=some (.lst (k.map Bk.t))/\k.Perm (bks kf Z):=by
 have row:∀{e:Bk},e∈bks kf Z->∃z∈Z,e.b=z.1/\∃ps∈z.2,e.k=Ag z.1 ps:=fun{e}he=>by obtain⟨z,hz,e1,e2,e3⟩:=Z1 he;obtain⟨ps,hp,e4⟩:=omm ((hk z hz e.r (Ee e2)).2 _ e3);exact⟨z,hz,e1,ps,hp,e4.symm⟩
 have ok:OkN ((bks kf Z).map Bk.t):=by
  refine V2 (Jf 2) (by decide) (by rw[Aq];exact hl) (jO H h hk) (fun x hx=>?_) (fun x hx y hy=>?_) (.inl ⟨1,fun x hx=>?_⟩)
  .obtain⟨e,he,rfl⟩:=omm hx;obtain⟨z,hz,_,ps,hp,e4⟩:=row he;show([T.str e.b.nm,.int (e.i:Int),Ai e.k].all (Bm 1))=true;have:Bm 1 (Ai e.k)=true:=En.mpr fun x hx=>by
    obtain⟨k,hk,rfl⟩:=omm hx;rw[e4]at hk;have:=La (H.ok _ (h.mem hz)) ((h.rw z hz).2.1 ps hp);rcases k with _|_|_
    .rfl
    .exact absurd rfl (this _ hk)
    .rfl
   rw[List.all_cons,List.all_cons,List.all_cons,this];rfl
  .obtain⟨a,ha,rfl⟩:=omm hx;obtain⟨c,hc,rfl⟩:=omm hy;obtain⟨z,hz,e1,ps,hp,e2⟩:=row ha;obtain⟨y,hy,f1,qs,hq,f2⟩:=row hc;show ∃b,(if eqT (.str a.b.nm) (.str c.b.nm)=true then(if eqT (.int (a.i:Int)) (.int (c.i:Int))=true then(if eqT (Ai a.k) (Ai c.k)=true then Dc [] []else E1 (Ai a.k) (Ai c.k))else E1 (.int (a.i:Int)) (.int (c.i:Int)))else E1 (.str a.b.nm) (.str c.b.nm))=some b;split
   .rename_i en;split
    .split
     .exact⟨_,rfl⟩
     .have:z=y:=Pt (by rw[h.nms];exact H.nd) hz hy (by rw[<-e1,<-f1];exact Fh en);subst this;rw[e2,f2];exact V4 (H.ok _ (h.mem hz)) ((h.rw z hz).2.1 ps hp) ((h.rw z hz).2.1 qs hq)
    .exact⟨_,rfl⟩
   .exact⟨_,rfl⟩
  .obtain⟨e,he,rfl⟩:=omm hx;exact⟨_,_,rfl,rfl⟩
 obtain⟨k,e,pm⟩:=Th (f:=Bk.t) (Iq ((bks kf Z).map Bk.t)) rfl;exact⟨k,by unfold Eo;rw[if_pos ok,e],pm⟩
end
section
variable {G:Glo}{Z:List Zt}{b:Tb}{k:List Kt}
theorem pq{gone gK:List Pl}{vs ds:List T}{X:T}{q:Bool}(cr:G.call "references_of" [Am Z,Aj Z]=some (.lst ((rfs Z).map Rf.t)))(cg:q=true/\G.call "gone_with" [Am Z,Aj Z,.lst ((rfs Z).map Rf.t),.str b.nm,Ai k]=none/\G.exc "gone_with" [Am Z,Aj Z,.lst ((rfs Z).map Rf.t),.str b.nm,Ai k]=e0 "Held"\/q=false/\G.call "gone_with" [Am Z,Aj Z,.lst ((rfs Z).map Rf.t),.str b.nm,Ai k]=some (.dic (gone.map Ad) vs))(ca:G.call "gaps_by" [.lst ((rfs Z).map Rf.t),.dic (gone.map Ad) vs]=some (.dic (gK.map Ad) ds))(cc:G.call "changed" [Am Z,Aj Z,.dic (gone.map Ad) vs,.dic (gK.map Ad) ds]=some X):W G Wc.body (st0 [Am Z,Aj Z,.str b.nm,Ai k] 2) fun o=>q=true/\o=.rs "Held" 0\/q=false/\o=.rt X:=by
 refine An (Al cr rfl) ?_;rcases cg with⟨h1,h2,h3⟩|⟨h1,h2⟩
 .exact Nq rfl h2 h3 (.inl ⟨h1,rfl⟩)
 .refine O1 rfl h2 ?_;exact Ar (Al cc (Ab rfl (Ab rfl (Ab rfl (Ab (Al ca rfl) rfl))))) (.inr ⟨h1,rfl⟩)
theorem eN{f:Str}{es:List E}{ts:List T}{t:T}{ss:List S}{τ τ':List Sl}{Q:Out->Prop}(h:Az G es (fv τ)=some ts)(h1:G.call f ts=some t)(k:W G ss τ' Q)(js:List Nat:=[])(h0:autoParam (frzAt (Bx es) τ=frzAt js τ) rf_a._auto_1)(h2:autoParam (frzAt js τ=τ') w_nz._auto_1):W G (.expx f es::ss) τ Q :=
 w_s (o:=.nx τ') (by rw[Cp,Lm h,Bi,Iv,h1,h0,h2]) k
theorem oY{f:Str}{es:List E}{ts:List T}{ss:List S}{τ:List Sl}{Q:Out->Prop}{x':Str}{n:Int}(h:Az G es (fv τ)=some ts)(h1:G.call f ts=none)(h2:G.exc f ts=some (x',n))(k:Q (.rs x' n)):W G (.expx f es::ss) τ Q :=
 w_s (o:=.rs x' n) (by rw[Cp,Lm h,Bi,Iv,h1,h2];rfl) k
theorem mZ{X:T}{q:Bool}(cw:q=true/\G.call "without_row" [Am Z,Aj Z,.str b.nm,Ai k]=none/\G.exc "without_row" [Am Z,Aj Z,.str b.nm,Ai k]=e0 "Held"\/q=false/\G.call "without_row" [Am Z,Aj Z,.str b.nm,Ai k]=some X){I:Str->Prop}{J:Prop}(cf:q=false->(∃x,I x/\G.call "refuse_broken" [Am Z,X]=none/\G.exc "refuse_broken" [Am Z,X]=e0 x)\/J/\∃t,G.call "refuse_broken" [Am Z,X]=some t):W G Uj.body (st0 [Am Z,Aj Z,.tup [.str "drop",.str b.nm,Ai k]] 1) fun o=>q=true/\o=.rs "Held" 0\/q=false/\((∃x,I x/\o=.rs x 0)\/J/\o=.rt X):=by
 refine Ol (q:=false) (Ap (Ak rfl rfl rfl) rfl (sw (by decide +kernel))) (fun q=>by cases q) fun _=>?_;refine El (Ap (Ak rfl rfl rfl) rfl (sw (by decide +kernel))) ?_;rcases cw with⟨h1,h2,h3⟩|⟨h1,h2⟩
 .exact Nq (Ab rfl (Ab rfl (Ab (Ak rfl rfl rfl) (Ab (Ak rfl rfl rfl) rfl)))) h2 h3 (.inl ⟨h1,rfl⟩)
 .refine O1 (Ab rfl (Ab rfl (Ab (Ak rfl rfl rfl) (Ab (Ak rfl rfl rfl) rfl)))) h2 ?_;refine As (As ?_);rcases cf h1 with⟨x,hx,e1,e2⟩|⟨hJ,t,e⟩
  .exact oY rfl e1 e2 (.inr ⟨h1,.inl ⟨x,hx,rfl⟩⟩)
  .exact eN rfl e (Ar rfl (.inr ⟨h1,.inr ⟨hJ,rfl⟩⟩))
end
noncomputable def Qd:Fd:=⟨2,6,[.dnew 2,
  .loop [3,4] .zip [A4,A5] [.loop [5] .plain [A9] [.put 2 (.tup [.idx A7 A2,.call "_law_key" [A7,B0]]) B0]],
  .ret A6]⟩
def plr(Z:List Zt):List (Pl×T):=Z.flatMap fun z=>z.2.map fun ps=>((z.1.nm,Ag z.1 ps),Ah ps)
theorem Jd(Z:List Zt):(plr Z).map (·.1)=pls Z:=by unfold plr pls;rw[List.map_flatMap];refine Av (fun f=>Z.flatMap f) (funext fun z=>?_);rw[Bz];rfl
section
variable {B:List Tb}{m:Nat}{Z:List Zt}(H:Sch B)(h:Stn B m Z)
include H h
theorem Uy:(pls Z).Nodup:=by
 have ndZ:(Z.map (·.1.nm)).Nodup:=by rw[h.nms];exact H.nd
 refine List.pairwise_flatMap.mpr ⟨fun z hz=>?_,(List.pairwise_map.mp ndZ).imp fun n x hx y hy e=>n ?_⟩
 .exact List.pairwise_map.mpr ((List.pairwise_map.mp (h.rw z hz).2.2).imp fun n e=>n (Av Prod.snd e))
 .obtain⟨_,_,rfl⟩:=omm hx;obtain⟨_,_,rfl⟩:=omm hy;exact Av Prod.fst e
theorem jh{G:Glo}(hm:m<=60)(ck:∀b∈B,∀ps,RowOk b ps->G.call "_law_key" [b.t,Ah ps]=some (Ao b ps)):W G Qd.body (st0 [Am Z,Aj Z] 4) fun o=>o=.rt (.dic ((plr Z).map fun p=>Ad p.1) ((plr Z).map (·.2))):=by
 have hsz:=Ci;have hU:=Lq H h;have hlen:(plr Z).length=(pls Z).length:=by rw[<-Jd,Aq]
 have nd:=Uy H h;rw[<-Jd]at nd;have step:∀(L:List (Pl×T))(p:Pl)(v:T)(L2:List (Pl×T)),plr Z=L++(p,v)::L2->Ms (some (.dic (L.map fun p=>Ad p.1) (L.map (·.2)))) (Ad p) v=some (.dic ((L++[(p,v)]).map fun p=>Ad p.1) ((L++[(p,v)]).map (·.2))):=fun L p v L2 e=>by
  have ln:=Av List.length e;rw[By,Eb]at ln;have ng:∀q∈(plr Z).map (·.1),Cw q.2:=fun q hq=>by rw[Jd]at hq;exact Je H h hq
  have e1:(L.map fun p=>Ad p.1)=(L.map (·.1)).map Ad:=by rw[Bz];rfl
  have hno:Bq ((L.map (·.1)).map Ad) (Ad p)=false:=by rw[Lf Hn];refine List.any_eq_false.mpr fun q hq w=>?_;rw[e,Dx,Ba,List.nodup_append]at nd;exact nd.2.2 q hq p (.head _) (Ey w)
  show(if Bj (L.map fun p=>Ad p.1) (Ad p)=true/\(L.map fun p=>Ad p.1).length<SZ then some (Sl.dic (Ax (L.map fun p=>Ad p.1) (Ad p)) (Bh (L.map fun p=>Ad p.1) (L.map (·.2)) (Ad p) v))else none)=_;rw[e1,if_pos ⟨Iy (fun q hq=>ng q (by rw[e,List.map_append];exact List.mem_append_left _ hq)) (ng p (by rw[e];simp)),by rw[List.length_map,List.length_map];lia⟩,Rx (by rw[List.length_map,List.length_map,List.length_map]) hno,Ax,if_neg (by rw[hno];decide)];simp
 refine Mc ?_;refine Da [2,3,4,5] (enc:=fun z:Zt=>T.tup [z.1.t,Cs z]) Z (fun D zs=>∃(s a b c:Sl),zs=[s,a,b,c]/\s=.dic ((plr D).map fun p=>Ad p.1) ((plr D).map (·.2))) [.dic [] [],.no,.no,.no] rfl (Av some (Kr Z)) rfl ⟨_,_,_,_,rfl,rfl⟩ (fun D z D2 e zs hI=>?_) fun zs hI=>?_
 .obtain⟨_,a,b,c,rfl,rfl⟩:=hI;have hz:z∈Z:=by rw[e];simp
  refine Bv ?_;refine Da [2,5] (enc:=Ah) z.2 (fun E zs=>∃(s c:Sl),zs=[s,c]/\s=.dic ((plr D++plr [(z.1,E)]).map fun p=>Ad p.1) ((plr D++plr [(z.1,E)]).map (·.2))) [.dic ((plr D).map fun p=>Ad p.1) ((plr D).map (·.2)),c] rfl (Dv _) rfl ⟨_,_,rfl,by simp[plr]⟩ (fun E ps E2 e2 zs hI=>?_) fun zs hI=>?_
  .obtain⟨_,c,rfl,rfl⟩:=hI;have hps:ps∈z.2:=by rw[e2];simp
   refine Bv ?_;refine Oq (t:=Ad (z.1.nm,Ag z.1 ps)) (u:=Ah ps) rfl (Cg (Ab (Ak rfl rfl (t0 _)) (Ab (Al (ck _ (h.mem hz) ps ((h.rw z hz).2.1 ps hps)) rfl) rfl))) (step (plr D++plr [(z.1,E)]) (z.1.nm,Ag z.1 ps) (Ah ps) (plr [(z.1,E2)]++plr D2) (by rw[e,show z=(z.1,z.2)from rfl,e2];simp[plr])) ?_;exact As ⟨_,rfl,_,_,rfl,by simp[plr]⟩
  .obtain⟨_,c,rfl,rfl⟩:=hI;exact As ⟨_,rfl,_,_,_,_,rfl,by simp[plr]⟩
 .obtain⟨_,a,b,c,rfl,rfl⟩:=hI;exact Ar rfl rfl
end
structure Pb(P:Pr):Prop where
 ho:P.fn "holds"=some Vo
 op:P.fn "opposite"=some U8
 jo:P.fn "joined"=some Uw
 cm:P.fn "compared"=some Rz
 ik:P.fn "is_kept"=some W2
 ka:P.fn "keys_alike"=some X8
 rk:P.fn "rows_by_key"=some V8
 kn:P.fn "keys_referring_to_none"=some Ur
 kb:P.fn "keys_that_break"=some Wa
 bk:P.fn "breaks"=some Wd
section
variable {P:Pr}(p:Pb P)(g:Pg P){B:List Tb}(H:Sch B){Z:List Zt}(h:Stn B m Z)(hm:m<=15)
include p g in
theorem Xj{b:Tb}{ps:Row}(hb:b.ok)(hp:RowOk b ps):∀(d n:Nat)(t:Tst),t.ok b.cs d->∃a,run P (n+d+1) "holds" [b.t,t.t,Ah ps]=some (Ef a)
 |d+1,n,t,ht=>w_1 Ef p.ho (n:=n+d+1) (jz hb hp d t ht (fun t ht=>Xj hb hp d n t ht) (fun a=>w_1 Ef p.op (n:=n+d) (mJ a)) (fun s a c=>w_1 Ef p.jo (n:=n+d) (gL s a c)) (fun w u v h1 h2 h3=>w_1 Ef p.cm (n:=n+d) (jv h1 h2 h3)) fun qa hc h4=>bu g.wo (n+d) hb hp hc h4)
include p g H h hm
theorem m8(n:Nat){b:Tb}{R:List Row}{r:Rl}(hz:(b,R)∈Z)(hr:r∈b.rs):∃L:List (List Kt),run P (n+6) "keys_that_break" [Am Z,Aj Z,b.t,r.t]=some (.lst (L.map Ai))/\Kys Z b R r L:=by
 have hb:=h.mem hz;obtain⟨hl,hR,nd⟩:R.length<=m/\(∀ps∈R,RowOk b ps)/\(R.map (Ag b)).Nodup:=h.rw _ hz;have hfit:=H.fit b hb r hr;have hok:=(H.ok b hb).rs r hr;refine Fl (fun L:List (List Kt)=>T.lst (L.map Ai)) p.kb (n:=n+5) (kb_W (Gj g H h (n+4)) hz (by lia) nd (fun ps hp=>Il g H h (n+3) hb (hR ps hp)) (fun t e ps hp=>?_) (fun qa e=>?_) fun qa gg w e=>?_)
 .subst e;obtain⟨a,e⟩:=Xj p g (H.ok b hb) (hR ps hp) 3 n t hfit;exact w_1 T.bl p.ik (n:=n+4) (g6 e)
 .subst e;exact Fl (fun L:List (List Kt)=>T.lst (L.map Ai)) p.ka (n:=n+4) (nu hR nd (by lia) (fun ps hp=>(Gj g H h (n+3)).wo b hb ps (hR ps hp) qa hfit hok) fun ps hp=>Il g H h (n+2) hb (hR ps hp))
 .subst e;obtain⟨b',hb',rfl⟩:=omm hfit.2.1;obtain⟨R',hz'⟩:=h.of hb';have eb:run P (n+4) "rows_by_key" [Am Z,Aj Z,.str b'.nm]=some (.dic (R'.map (Ao b')) (R'.map Ah)):=Du p.rk (fZ H h (by lia) (Gj g H h (n+2)) (fun b hb ps hp=>Il g H h (n+1) hb hp) hz');have er:run P (n+4) "references_by" [b.t,(Rl.ref qa b'.nm w).t,Cs (b,R)]=some (.lst ((F4 (b,R) (.ref qa b'.nm w)).map Rf.t)):=Du g.rb (bA H h (by lia) (Gj g H h (n+2)) (fun b hb ps hp=>Il g H h (n+1) hb hp) (fun b hb qa g' w hr ps hp=>Du g.kr (Zo (Gj g H h (n+1)) hb hp (Qu (H.fit b hb _ hr)) ((H.ok b hb).rs _ hr))) hz hr);have et:run P (n+5) "keys_referring_to_none" [Am Z,Aj Z,b.t,(Rl.ref qa b'.nm w).t]=some (.lst ((Jx (b,R) (b',R') (.ref qa b'.nm w)).map fun x=>Ai x.1.pl.2)):=Du p.kn (mX (z:=(b,R)) (z':=(b',R')) H h (by lia) (Gj g H h (n+3)) (fun b hb ps hp=>Il g H h (n+2) hb hp) hz hz' hr eb er);exact⟨(b',R'),hz',rfl,et⟩
theorem qk(n:Nat):∃k:List Bk,run P (n+7) "breaks" [Am Z,Aj Z]=some (.tup (k.map Bk.t))/\k.length<=60/\∀e∈k,e.ok B/\∀qa gg w,e.r=.ref qa gg w->∃z∈Z,∃z'∈Z,z.1=e.b/\z'.1.nm=gg/\Jx z z' e.r≠[]:=by
 obtain⟨kf,hk⟩:=Classical.axiomOfChoice (r:=fun(x:Zt×Rl)(L:List (List Kt))=>x.1∈Z->x.2∈x.1.1.rs->run P (n+6) "keys_that_break" [Am Z,Aj Z,x.1.1.t,x.2.t]=some (.lst (L.map Ai))/\Kys Z x.1.1 x.1.2 x.2 L) fun x=>by
  by_cases h1:x.1∈Z
  .by_cases h2:x.2∈x.1.1.rs
   .obtain⟨L,e⟩:=m8 p g H h hm n (b:=x.1.1) (R:=x.1.2) h1 h2;exact⟨L,fun _ _=>e⟩
   .exact⟨[],fun _ h=>absurd h h2⟩
  .exact⟨[],fun h=>absurd h h1⟩
 have hk2:∀z∈Z,∀r∈z.1.rs,(kf (z,r)).Nodup/\∀k∈kf (z,r),k∈z.2.map (Ag z.1):=fun z hz r hr=>let⟨_,k⟩:=hk (z,r) hz hr;⟨k.1,k.2.1⟩
 have hl:=kH (kf:=fun z r=>kf (z,r)) H h hk2;obtain⟨k,so,pm⟩:=eh (kf:=fun z r=>kf (z,r)) H h hk2 (by lia);refine⟨k,Du p.bk (n:=n+6) (fW (by lia) (fun z hz=>(H.ok _ (h.mem hz)).rl) (fun z hz r hr=>(hk (z,r) hz hr).1) so),by rw[pm.length_eq];lia,fun e he=>?_⟩;obtain⟨z,hz,e1,e2,e3⟩:=Z1 (pm.mem_iff.mp he);refine⟨⟨by rw[e1];exact h.mem hz,by rw[e1];exact e2⟩,fun qa gg w er=>?_⟩;obtain⟨z',hz',en,eL⟩:=(hk (z,e.r) hz (Ee e2)).2.2.2 qa gg w er;refine⟨z,hz,z',hz',e1.symm,en,fun q=>?_⟩;have e3:e.k∈kf (z,e.r):=e3;rw[show kf (z,e.r)=_ from eL,show Jx (z.1,z.2) z' e.r=[]from q]at e3;cases e3
end
end Ev.K04
namespace Ev
open PySem
variable {α:Type}
def Le{α:Type}(a b:a7 α):Prop:=∀t,a=some t->b=some t
theorem Le.rf{a:a7 α}:Le a a:=fun _ h=>h
theorem Le.nn{b:a7 α}:Le none b:=fun _ h=>by cases h
theorem Le.bd{β:Type}{a b:a7 α}{f g:α->a7 β}(h:Le a b)(k:∀x,Le (f x) (g x)):Le (a.bind f) (b.bind g):=fun t e=>by obtain⟨x,h1,h2⟩:=obs e;rw[h x h1];exact k x t h2
theorem Le.mp{α β:Type}{a b:a7 α}{f:α->β}(h:Le a b):Le (a.map f) (b.map f):=fun t e=>by obtain⟨x,h1,h2⟩:=oms e;rw[h x h1,<-h2];rfl
theorem Le.ie{a b:a7 α}{c:Prop}[Decidable c](h:Le a b):Le (if c then a else none) (if c then b else none):=by split<;>first|exact h|exact .nn
structure Glo.le(G G':Glo):Prop where
 c:∀f ts,Le (G.call f ts) (G'.call f ts)
 x:∀f ts p,G.call f ts=none->G.exc f ts=some p->G'.call f ts=none/\G'.exc f ts=some p
section
variable {G G':Glo}(h:G.le G')
include h
theorem nQ(f:Str)(ts:List T):Le (Fj G f ts) (Fj G' f ts):=fun t e=>by
 unfold Fj at e ⊢;cases hc:G.call f ts with
 |some u=>rw[hc]at e;rw[h.c f ts u hc];exact e
 |none=>
  rw[hc]at e;dsimp only at e;cases hx:G.exc f ts with
  |none=>rw[hx]at e;cases e
  |some p=>rw[hx]at e;rw[(h.x f ts p hc hx).1,(h.x f ts p hc hx).2];exact e
theorem oS(f:Str)(ts:List T)(k:T->Out):Le (Iv G f ts k) (Iv G' f ts k):=fun t e=>by
 unfold Iv at e ⊢;cases hc:G.call f ts with
 |some u=>rw[hc]at e;rw[h.c f ts u hc];exact e
 |none=>
  rw[hc]at e;dsimp only at e;cases hx:G.exc f ts with
  |none=>rw[hx]at e;cases e
  |some p=>rw[hx]at e;rw[(h.x f ts p hc hx).1,(h.x f ts p hc hx).2];exact e
omit h in
theorem Zi{f g:T->a7 (a7 T)}(k:∀x,Le (f x) (g x)):∀l,Le (Eu f l) (Eu g l)
 |[]=>.rf
 |x::l=>.bd (k x) fun _=>.bd (Zi k l) fun _=>.rf
theorem aG(e:E)(ρ:Env):Le (Ac G e ρ) (Ac G' e ρ):=by
 induction e using E.rec (motive_2:=fun es=>∀ρ:Env,Le (Az G es ρ) (Az G' es ρ)) (motive_3:=fun o=>∀ρ:Env,Le (E5 G o ρ) (E5 G' o ρ)) generalizing ρ<;>intros
 all_goals repeat' (first|exact .rf|(apply_assumption;done)|exact nQ h _ _|exact h.c _ _|refine .ie ?_|refine .mp (Zi (fun _=>?_) _)|refine .bd ?_ fun _=>?_|refine .mp ?_|split)
theorem Yy(ρ:Env):∀es:List E,Le (Az G es ρ) (Az G' es ρ)
 |[]=>.rf
 |e::es=>.bd (aG h e ρ) fun _=>.bd (Yy ρ es) fun _=>.rf
omit h in
theorem c8{f g:T->List Sl->a7 Out}(k:∀x τ,Le (f x τ) (g x τ)):∀l τ,Le (Ho f l τ) (Ho g l τ)
 |[],_=>.rf
 |x::l,τ=>.bd (k x τ) fun o=>by cases o<;>first|exact c8 k l _|exact .rf
omit h in
theorem bz{f f':List Sl->a7 Out}{g g':List Sl->a7 T}(k:∀τ,Le (f τ) (f' τ))(k2:∀τ,Le (g τ) (g' τ)):∀n τ,Le (Jg f g n τ) (Jg f' g' n τ)
 |0,_=>.rf
 |n+1,τ=>.bd (k2 τ) fun t=>by
  split
  .exact .bd (k τ) fun o=>by cases o<;>first|exact bz k k2 n _|exact .rf
  .exact .rf
  .exact .rf
theorem iM(s:S)(τ:List Sl):Le (Cp G s τ) (Cp G' s τ):=by
 induction s using S.rec (motive_2:=fun ss=>∀τ:List Sl,Le (Bp G ss τ) (Bp G' ss τ)) generalizing τ<;>intros
 all_goals repeat' (first|exact .rf|(apply_assumption;done)|exact aG h _ _|exact Yy h _ _|exact oS h _ _ _|refine c8 (fun _ _=>?_) _ _|refine bz (fun _=>?_) (fun _=>?_) _ _|refine .bd ?_ fun _=>?_|refine .mp ?_|split)
theorem dQ(τ:List Sl)(ss:List S):Le (Bp G ss τ) (Bp G' ss τ):=by
 induction ss generalizing τ with
 |nil=>exact .rf
 |cons s ss ih=>exact .bd (iM h s τ) fun o=>by cases o<;>first|exact ih _|exact .rf
end
theorem gN(P:Pr):∀n f ts p,Cq P n f ts=some p->run P n f ts=none
 |n+1,f,ts,p,e=>by
  rw[Cq]at e;rw[run];obtain⟨D,h1,h2⟩:=obs e;rw[h1,Bi];split at h2<;>rename_i q
  .rw[if_pos q];revert h2;generalize Bp _ _ _=o;intro h2;rcases o with _|_|_|_
   .rfl
   .cases h2
   .cases h2
   .rfl
  .cases h2
theorem dY(P:Pr):∀n,(glo P n).le (glo P (n+1))
 |0=>⟨fun _ _=>.nn,fun _ _ _ _ h=>absurd (show none=_ from h) (fun e=>by cases e)⟩
 |n+1=>by
  have ih:=dY P n;have c:∀f ts,Le (run P (n+1) f ts) (run P (n+2) f ts):=fun f ts=>by
   rw[run,run];exact .bd .rf fun D=>by
    split
    .intro t e;cases hh:Bp ⟨run P n,Cq P n⟩ D.body (Dr D ts)with
     |none=>rw[hh]at e;cases e
     |some o=>rw[hh]at e;rw[show Bp ⟨run P (n+1),Cq P (n+1)⟩ D.body (Dr D ts)=some o from dQ ih _ _ _ hh];exact e
    .exact .rf
  have x:∀f ts,Le (Cq P (n+1) f ts) (Cq P (n+2) f ts):=fun f ts=>by
   rw[Cq,Cq];exact .bd .rf fun D=>by
    split
    .intro t e;cases hh:Bp ⟨run P n,Cq P n⟩ D.body (Dr D ts)with
     |none=>rw[hh]at e;cases e
     |some o=>rw[hh]at e;rw[show Bp ⟨run P (n+1),Cq P (n+1)⟩ D.body (Dr D ts)=some o from dQ ih _ _ _ hh];exact e
    .exact .rf
  exact⟨c,fun f ts p _ h=>⟨gN P _ _ _ _ (x f ts p h),x f ts p h⟩⟩
theorem cT{P:Pr}{f:Str}{ts:List T}{t:T}{n:Nat}(h:run P n f ts=some t):∀k,run P (n+k) f ts=some t
 |0=>h
 |k+1=>(dY P (n+k)).c f ts t (cT h k)
end Ev
namespace Ev.K04
open PySem
structure Pd(P:Pr):Prop where
 il:P.fn "is_late"=some Xa
 rw:P.fn "row_with"=some Va
 rl:P.fn "rows_left"=some T8
 ch:P.fn "changed"=some U4
 rb:P.fn "refuse_broken"=some Sk
 wr:P.fn "without_row"=some Wc
 dn:P.fn "done"=some Uj
theorem kj{P:Pr}{D:Fd}(hf:P.fn f=some D)(h:Bp (glo P n) D.body (Dr D ts)=some (.nx τ))(hl:ts.length=D.np):run P (n+1) f ts=some .non:=by rw[run,hf,Bi,if_pos hl];exact Av Hq h
section
variable {P:Pr}(d:Pd P)(p:Pb P)(g:Pg P){B:List Tb}(H:Sch B){Z:List Zt}(h:Stn B m Z)(hm:m<=15)
include d g H h hm
theorem q9(n:Nat){gone K:List Pl}{vs ds:List T}{dp:Pl->List T×List T}(hg:∀q∈gone,Cw q.2)(hK:∀q∈K,Cw q.2){Q:Pl->Str->Prop}(hC:∀q,Cn (dp q) (Q q))(hd:∀q,(Aw (K.map Ad) ds (Ad q)).getD (.dic [] [])=.dic (dp q).1 (dp q).2):run P (n+4) "changed" [Am Z,Aj Z,.dic (gone.map Ad) vs,.dic (K.map Ad) ds]=some (Aj (Z.map (Be gone dp))):=by
 have hl:∀z∈Z,run P (n+3) "rows_left" [z.1.t,Cs z,.dic (gone.map Ad) vs,.dic (K.map Ad) ds]=some (Cs (Be gone dp z)):=fun z hz=>by have hb:=h.mem hz;obtain⟨h1,h2,h3⟩:=h.rw z hz;have cr:∀ps∈z.2,∀q,run P (n+2) "row_with" [z.1.t,Ah ps,.dic (dp q).1 (dp q).2]=some (Ah (Cj (dp q).1 ps)):=fun ps hp q=>Du d.rw (oF (hC q) (h2 ps hp) (H.ok _ hb));exact Du d.rl (qM h2 (by lia) (fun ps hp=>La (H.ok _ hb) (h2 ps hp)) hg hK hd (fun ps hp=>Il g H h n hb (h2 ps hp)) cr)
 exact Du d.ch (n7 (by rw[h.len];exact H.l4) hl)
include p
def Drp(P:Pr)(B:List Tb)(Z:List Zt)(n:Nat)(gone:List Pl)(ts:List T):Prop:=(∃x:Str,(x="Twice"\/x="BadCheck")/\run P (n+9) "done" ts=none/\Cq P (n+9) "done" ts=e0 x) \/
 ∃(dp:Pl->List T×List T)(L:List Bk),(∀q,Cn (dp q) (Gp (rfs Z) gone q))/\run P (n+7) "breaks" [Am Z,Aj (Z.map (Be gone dp))]=some (.tup (L.map Bk.t))/\L.length<=60/\(∀e∈L,e.ok B/\e.r.lt=true)/\run P (n+9) "done" ts=some (Aj (Z.map (Be gone dp)))
theorem jA(n:Nat)(hG:J6 Z){b:Tb}{R:List Row}{ps:Row}(hz:(b,R)∈Z)(hp:ps∈R):∃gone,Gone Z (b.nm,Ag b ps) gone /\
  ((lks "stop" Z).any (hit gone)=true/\run P (n+9) "done" [Am Z,Aj Z,.tup [.str "drop",.str b.nm,Ao b ps]]=none/\Cq P (n+9) "done" [Am Z,Aj Z,.tup [.str "drop",.str b.nm,Ao b ps]]=e0 "Held" \/
   (lks "stop" Z).any (hit gone)=false/\Drp P B Z n gone [Am Z,Aj Z,.tup [.str "drop",.str b.nm,Ao b ps]]):=by
 have hb:=h.mem hz;have hk:(Ag b ps).length<=1000:=by have h2:=(H.ok b hb).k1;rw[Ag,wK,Aq];lia
 have ht:(R.any fun qs=>decide (Ag b qs=Ag b ps))=true:=List.any_eq_true.mpr ⟨ps,hp,Cd rfl⟩;rcases Ze g H h (n+3) hm hz (Ag b ps) hk with⟨q,_⟩|⟨_,gone,vs,⟨hw,nd,su⟩,hc⟩
 .rw[ht]at q;cases q
 rw[Q5]at hw;rw[Re]at hc;have hg:Gone Z (b.nm,Ag b ps) gone:=⟨hw,nd,su⟩;have hgn:∀q∈gone,Cw q.2:=fun q hq=>Je H h (su q hq);obtain⟨ds,ea,hds⟩:=Y6 g H h (n+6) hm gone vs hgn;obtain⟨dp,hdp⟩:=Classical.axiomOfChoice hds;have hC:∀q,Cn (dp q) (Gp (rfs Z) gone q):=fun q=>(hdp q).1;have ec:run P (n+7) "changed" _=_:=q9 d g H h hm (n+3) (vs:=vs) hgn (fun q hq=>by
  rcases Rb _ hq with hq|hq
  .cases hq
  .obtain⟨x,hx,rfl⟩:=omm hq;exact Je H h (Ln h (De.mp hx).1).2.2) hC fun q=>(hdp q).2
 have er:run P (n+7) "references_of" [Am Z,Aj Z]=some (.lst ((rfs Z).map Rf.t)):=c6 g H h (n+3) (by lia);have ew:∃q,(lks "stop" Z).any (hit gone)=q/\(q=true/\run P (n+8) "without_row" [Am Z,Aj Z,.str b.nm,Ao b ps]=none/\Cq P (n+8) "without_row" [Am Z,Aj Z,.str b.nm,Ao b ps]=e0 "Held"\/q=false/\run P (n+8) "without_row" [Am Z,Aj Z,.str b.nm,Ao b ps]=some (Aj (Z.map (Be gone dp)))):=by
  refine⟨_,rfl,?_⟩;obtain⟨o,h1,h2,h3⟩:=L3 d.wr (n:=n+7) (pq (Z:=Z) (b:=b) (k:=Ag b ps) er hc ea ec);rcases h1 with⟨e,rfl⟩|⟨e,rfl⟩
  .exact .inl ⟨e,h3 _ _ rfl⟩
  .exact .inr ⟨e,h2 _ rfl⟩
 obtain⟨q,eq,ew⟩:=ew;have hN:=Sb H h hC (gone:=gone);have sN:Am (Z.map (Be gone dp))=Am Z:=hN.sch.trans h.sch.symm;obtain⟨L,eb,hL,hb2⟩:=qk p g H hN hm n;rw[sN]at eb;have il:∀r:Rl,run P (n+7) "is_late" [r.t]=some (.bl r.lt):=fun r=>Du d.il (n:=n+6) (lr r);have ef:q=false->(∃x:Str,(x="Twice"\/x="BadCheck")/\run P (n+8) "refuse_broken" [Am Z,Aj (Z.map (Be gone dp))]=none/\Cq P (n+8) "refuse_broken" [Am Z,Aj (Z.map (Be gone dp))]=e0 x)\/(∀e∈L,e.r.lt=true)/\∃t,run P (n+8) "refuse_broken" [Am Z,Aj (Z.map (Be gone dp))]=some t:=fun hq=>by
  have hs:(lks "stop" Z).any (hit gone)=false:=eq.trans hq;obtain⟨o,h1,h2⟩:=lH (G:=glo P (n+7)) (B:=B) (X:=Am Z) (Y:=Aj (Z.map (Be gone dp))) (L:=L) (fun b hb=>(Gj g H h (n+6)).tb b hb) il (fun e he=>(hb2 e he).1) (by lia) eb;have hx:∀x,o=.rs x 0->run P (n+8) "refuse_broken" [Am Z,Aj (Z.map (Be gone dp))]=none/\Cq P (n+8) "refuse_broken" [Am Z,Aj (Z.map (Be gone dp))]=e0 x:=fun x e=>by subst e;obtain⟨o,h3,_,h4⟩:=L3 d.rb (n:=n+7) (Q:=fun o=>o=.rs x 0) ⟨_,h1,rfl⟩;exact h4 _ _ h3
  rcases h2 with(e|e|⟨e,y,hy,h3,h4⟩)|⟨⟨τ,rfl⟩,hL⟩
  .exact .inl ⟨_,.inl rfl,hx _ e⟩
  .exact .inl ⟨_,.inr rfl,hx _ e⟩
  .exfalso;obtain⟨ok,h5⟩:=hb2 y hy;cases hr:y.r with
   |ref qa gg w=>obtain⟨z1,hz1,z2,hz2,e1,e2,hne⟩:=h5 _ _ _ hr;obtain⟨z,hzz,rfl⟩:=omm hz1;obtain⟨z',hzz',rfl⟩:=omm hz2;have e2:z'.1.nm=gg:=e2;subst e2;rw[hr]at hne h3;refine hne (eJ H h hg hC hG hs hzz hzz' (by rw[show z.1=y.b from e1,<-hr];exact Ee ok.i) fun e=>?_);rw[e]at h3;cases h3
   |_=>rw[hr]at h4;cases h4
  .exact .inr ⟨hL,_,kj d.rb (n:=n+7) h1 rfl⟩
 refine⟨gone,hg,?_⟩;obtain⟨o,h1,h2,h3⟩:=L3 d.dn (n:=n+8) (mZ (k:=Ag b ps) (b:=b) ew ef);rw[eq];rcases h1 with⟨e,rfl⟩|⟨e,⟨x,hx,rfl⟩|⟨hJ,rfl⟩⟩
 .exact .inl ⟨e,h3 _ _ rfl⟩
 .exact .inr ⟨e,.inl ⟨x,hx,h3 _ _ rfl⟩⟩
 .exact .inr ⟨e,.inr ⟨dp,L,hC,eb,hL,fun e he=>⟨(hb2 e he).1,hJ e he⟩,h2 _ rfl⟩⟩
end
section
variable {t:T}
noncomputable def Q4:Fd:=⟨4,12,[.loop [4,5,6] .plain [.call "breaks" [A4,A6]] [.ite (.cmp .ne (.idx (.idx (.idx (.call "_law_table" [A4,A9]) B1) B0) (.neg A3)) C7) [.ret B5] []],
  .asg 7 (.call "_law_places" [A4,A5]),
  .asg 8 (.call "_law_places" [A4,A6]),
  .ite (.cmp .ne (.blt .sorted (.comp A4 1 .plain [B6] (some (.cmp .notin A4 C8)))) (.blt .toList (.idx A7 A2))) [.ret B5] [],
  .asg 9 (.comp A4 1 .plain [B7] (some (.cmp .ne (.dget B7 A4 B4) (.idx C8 A4)))),
  .ite (.cmp .ne (.comp A4 1 .plain [C8] (some (.cmp .notin A4 (.idx A9 A3)))) (.lst [])) [.ret B5] [],
  .loop [4,6] .plain [.idx A7 A3] [.asgx 10 "row_of" [A4,A5,A9,B3],
  .asg 11 (.comp A4 1 .zip [H2,.call "row_of" [A4,A6,A9,B3]] none),
  .ite (.cmp .ne (.comp A2 2 .plain [.var 11] (some (.land (.cmp .notN A5 B4) (.cmp .ne A5 A4)))) (.lst [])) [.ret B5] [],
  .ite (.cmp .notin (.tup [A9,B3]) C8) [.ret B5] []],
  .ret C0]⟩
theorem qF{α:Type}{f:α->T}{l:List α}(h:Eo (l.map f)=some (.lst ts)):∃k:List α,ts=k.map f/\k.Perm l:=by
 unfold Eo at h;split at h
 .cases h;exact Th (Iq _) rfl
 .cases h
theorem eW{a b us:List T}(h1:Eo a=some (.lst ts))(h2:Eo b=some (.lst us))(p:a.Perm b):us=ts:=by
 unfold Eo at h1 h2;split at h1
 .split at h2
  .rename_i k1 k2;cases h1;cases h2;exact T2 k2 ((Iq a).trans p) (P8 k1.tot k1.tr)
  .cases h2
 .cases h1
theorem oR(h:∀t∈ts,Bm 2 t=true):Bt .ne (.lst ts) (.lst ts)=some (.bl false):=by have k:Bm 3 (.tup ts)=true:=En.mpr h;show(if Cz ts ts+1<=30 then some (T.bl (!eqTs ts ts))else none)=_;rw[if_pos (Cr (show Cz ts ts+1<=3 from(Jf 3).dp k k) (by decide)),show eqTs ts ts=true from((Jf 3).eq k k).mpr rfl];rfl
theorem Wt:∀{L:List (Pl×T)},(L.map (·.1)).Nodup->∀{x:Pl×T},x∈L->Aw (L.map fun p=>Ad p.1) (L.map (·.2)) (Ad x.1)=some x.2
 |y::L,nd,x,hx=>by
  obtain⟨n1,n2⟩:=Er.mp nd;rw[Ba,Ba,Aw,N3];rcases omc hx with rfl|hx
  .exact if_pos (Cd rfl)
  .rw[if_neg (by simpa using fun e:y.1=x.1=>n1 (Bw.mpr ⟨x,hx,e.symm⟩))];exact Wt n2 hx
def cell(t:T):Prop:=t=.non\/(∃x,t=.str x)\/∃i,t=.int i
theorem jy{c:Col}(h:Wok c t):cell t:=h.elim .inl fun h=>.inr (h.elim (fun h=>.inl h.2) fun h=>.inr h.2)
theorem cy(h:cell t):eqT t t=true/\(eqT t .non=true↔t=.non)/\∃b,Bt .notN t .non=some (.bl b):=by
 rcases h with rfl|⟨x,rfl⟩|⟨i,rfl⟩
 .exact⟨rfl,by simp[eqT],_,rfl⟩
 .exact⟨by simp[eqT],by simp[eqT],_,rfl⟩
 .exact⟨by simp[eqT],by simp[eqT],_,rfl⟩
theorem aW{u:T}(h:cell t)(k:cell u):Bc t u=0:=by rcases h with rfl|⟨x,rfl⟩|⟨i,rfl⟩<;>rcases k with rfl|⟨y,rfl⟩|⟨j,rfl⟩<;>rfl
theorem aR(ks:List T):∀{ps:Row},(∀p∈ps,cell p.2)->Cz (ps.map (·.2)) ((Cj ks ps).map (·.2))=0
 |[],_=>rfl
 |p::ps,h=>by have c:=h p (.head _);show max (Bc p.2 (if Bq ks (.str p.1.n)=true then .non else p.2)) (Cz (ps.map (·.2)) ((Cj ks ps).map (·.2)))=0;rw[aR ks fun q hq=>h q (.tail _ hq),aW c (by split<;>first|exact .inl rfl|exact c)];rfl
theorem Vy(ks:List T):∀{ps:Row},(∀p∈ps,cell p.2)->(eqTs (ps.map (·.2)) ((Cj ks ps).map (·.2))=true↔Cj ks ps=ps)
 |[],_=>by simp[Cj,eqTs]
 |p::ps,h=>by
  obtain⟨c1,c2,_⟩:=cy (h p (.head _));have ih:=Vy ks (ps:=ps) fun q hq=>h q (.tail _ hq);show((eqT p.2 (if Bq ks (.str p.1.n)=true then .non else p.2)&&eqTs (ps.map (·.2)) ((Cj ks ps).map (·.2)))=true)↔(p.1,if Bq ks (.str p.1.n)=true then T.non else p.2)::Cj ks ps=p::ps;rw[Cy,ih,List.cons.injEq];refine and_congr_left fun _=>?_;split
  .rw[c2];exact⟨fun e=>by rw[<-e],fun e=>by rw[<-e]⟩
  .exact⟨fun _=>rfl,fun _=>c1⟩
theorem o8{ps:Row}{c:Str}{qa:List Str}{ks:List T}(hc:c∈qa)(hN:Ca (wK qa ps)=false)(hk:Bq ks (.str c)=true):Cj ks ps≠ps:=fun e=>by have:Ca (wK qa ps)=true:=List.any_eq_true.mpr ⟨_,Bw.mpr ⟨c,hc,rfl⟩,Cd (by rw[<-e,Pk,hk];rfl)⟩;rw[hN]at this;cases this
theorem fM{ps:Row}{d:List T×List T}{P:Str->Prop}(hC:Cn d P)(hP:∀x,¬P x):Cj d.1 ps=ps:=by
 have:d.1=[]:=List.eq_nil_iff_forall_not_mem.mpr fun t ht=>by
  have:=oml hC.st t ht;cases t with
  |str x=>exact hP x ((hC.mem x).mp ht)
  |_=>cases this
 rw[this];exact(L1 fun p _=>rfl).trans (List.map_id ps)
section
variable {B:List Tb}{m:Nat}{Z:List Zt}(H:Sch B)(h:Stn B m Z){p0:Pl}{gone:List Pl}{dp:Pl->List T×List T}(hd:∀p,Cn (dp p) (Gp (rfs Z) gone p))
include H h hd
theorem Pj{x:Pl×T}:x∈plr (Z.map (Be gone dp))↔∃z∈Z,∃ps∈z.2,(z.1.nm,Ag z.1 ps)∉gone/\x=((z.1.nm,Ag z.1 ps),Ah (Cj (dp (z.1.nm,Ag z.1 ps)).1 ps)):=by
 have ng:∀{q:Pl},(!(gone.any fun x=>decide (x=q)))=true↔q∉gone:=fun{q}=>by rw[Bool.not_eq_true',List.any_eq_false];exact⟨fun h hq=>h q hq (Cd rfl),fun h x hx e=>h (Ey e▸hx)⟩
 constructor
 .intro hx;obtain⟨z',hz',hx⟩:=Eg.mp hx;obtain⟨z,hz,rfl⟩:=omm hz';obtain⟨qs,hq,rfl⟩:=omm hx;obtain⟨ps,hp,rfl⟩:=omm hq;obtain⟨hp,hg⟩:=De.mp hp;refine⟨z,hz,ps,hp,ng.mp hg,?_⟩;show((z.1.nm,Ag z.1 _),_)=_;rw[Oi H h hd hz]
 .rintro⟨z,hz,ps,hp,hg,rfl⟩;refine Eg.mpr ⟨_,Bw.mpr ⟨z,hz,rfl⟩,Bw.mpr ⟨_,Bw.mpr ⟨ps,De.mpr ⟨hp,ng.mpr hg⟩,rfl⟩,?_⟩⟩;show((z.1.nm,Ag z.1 _),_)=_;rw[Oi H h hd hz]
theorem dg{p:Pl}:p∈pls (Z.map (Be gone dp))↔p∈pls Z/\p∉gone:=by
 rw[<-Jd];constructor
 .intro hp;obtain⟨x,hx,rfl⟩:=omm hp;obtain⟨z,hz,ps,hps,hg,rfl⟩:=(Pj H h hd).mp hx;exact⟨Eg.mpr ⟨z,hz,Bw.mpr ⟨ps,hps,rfl⟩⟩,hg⟩
 .rintro⟨hp,hg⟩;obtain⟨z,hz,hp⟩:=Eg.mp hp;obtain⟨ps,hps,rfl⟩:=omm hp;exact Bw.mpr ⟨_,(Pj H h hd).mpr ⟨z,hz,ps,hps,hg,rfl⟩,rfl⟩
end
theorem Qa(Z:List Zt):(plr Z).map (fun p=>Ad p.1)=(pls Z).map Ad:=by rw[<-Jd,Bz];rfl
theorem Z5{α:Type}[DecidableEq α]:∀(L:List α){K:List α}{q:α},q∈K\/q∈L->q∈L.foldl pk K
 |[],_,_,h=>h.elim id fun h=>nomatch h
 |p::L,K,q,h=>Z5 L (by
  have:q∈K\/q=p->q∈pk K p:=fun h=>by
   unfold pk;split
   .rename_i e;obtain⟨x,hx,e⟩:=List.any_eq_true.mp e;exact h.elim id fun h=>by rw[h,<-Ey e];exact hx
   .simpa using h
  rcases h with h|h
  .exact .inl (this (.inl h))
  .exact(omc h).elim (fun h=>.inl (this (.inr h))) .inr)
theorem nG{Z:List Zt}{gone:List Pl}(h:Pq Z gone t):∃(gs:List T)(qs:List Pl),Eo (gone.map Ad)=some (.lst gs)/\(∀t∈gs,Bm 2 t=true)/\t=.tup [.tup gs,.tup (qs.map Ad)]/\∀q:Pl,q∈qs↔∃y∈rfs Z,Dy "gap" gone y=true/\y.1.pl=q:=by
 obtain⟨gs,ts,s1,s2,k1,_,rfl⟩:=h;rw[show Rc ((((lks "gap" Z).filter (hit gone)).map Lk.pl).map Ad)=((((lks "gap" Z).filter (hit gone)).map Lk.pl).foldl pk []).map Ad by rw[X7 Hn];rfl]at s2;obtain⟨qs,rfl,pm⟩:=qF s2;refine⟨gs,qs,s1,k1,rfl,fun q=>?_⟩;rw[pm.mem_iff,<-Vd,Bz];constructor
 .intro hq;obtain⟨y,hy,rfl⟩:=omm ((Rb _ hq).elim (fun h=>nomatch h) id);obtain⟨hy,e⟩:=De.mp hy;exact⟨y,hy,e,rfl⟩
 .rintro⟨y,hy,e,rfl⟩;exact Z5 _ (.inr (Bw.mpr ⟨y,De.mpr ⟨hy,e⟩,rfl⟩))
theorem bX(ks:List T):∀ps:Row,Ce (ps.map (·.2)) ((Cj ks ps).map (·.2))=ps.map fun p=>.tup [p.2,if Bq ks (.str p.1.n)=true then .non else p.2]
 |[]=>rfl
 |p::ps=>Av (T.tup [p.2,if Bq ks (.str p.1.n)=true then .non else p.2]::·) (bX ks ps)
section
variable {B:List Tb}{m:Nat}{Z:List Zt}(H:Sch B)(h:Stn B m Z){p0:Pl}{gone:List Pl}{dp:Pl->List T×List T}(hd:∀p,Cn (dp p) (Gp (rfs Z) gone p))
include H h hd
theorem fY{G:Glo}{L:List Bk}(hm:m<=15)(hg:Gone Z p0 gone)(ht:Pq Z gone t)(eb:G.call "breaks" [Am Z,Aj (Z.map (Be gone dp))]=some (.tup (L.map Bk.t)))(hL:∀e∈L,e.ok B/\e.r.lt=true)(ct:∀b∈B,G.call "_law_table" [Am Z,.str b.nm]=some b.t)(e1:G.call "_law_places" [Am Z,Aj Z]=some (.dic ((plr Z).map fun p=>Ad p.1) ((plr Z).map (·.2))))(e2:G.call "_law_places" [Am Z,Aj (Z.map (Be gone dp))]=some (.dic ((plr (Z.map (Be gone dp))).map fun p=>Ad p.1) ((plr (Z.map (Be gone dp))).map (·.2))))(r1:∀z∈Z,∀ps∈z.2,G.call "row_of" [Am Z,Aj Z,.str z.1.nm,Ao z.1 ps]=some (Ah ps))(r2:∀z∈Z,∀ps∈z.2,(z.1.nm,Ag z.1 ps)∉gone->G.call "row_of" [Am Z,Aj (Z.map (Be gone dp)),.str z.1.nm,Ao z.1 ps]=some (Ah (Cj (dp (z.1.nm,Ag z.1 ps)).1 ps))):W G Q4.body (st0 [Am Z,Aj Z,Aj (Z.map (Be gone dp)),t] 8) fun o=>o=.rt (.bl true):=by
 have hsz:=Ci;have hN:=Sb H h hd (gone:=gone);obtain⟨gs,qs,s1,k1,rfl,hqs⟩:=nG ht;have hU:=Lq H h;have hU2:=Lq H hN;have ng:=fun q(hq:q∈pls Z)=>Je H h hq;have ng2:=fun q(hq:q∈pls (Z.map (Be gone dp)))=>Je H hN hq;have nd:=Uy H h;have nd2:=Uy H hN;have cl:∀z∈Z,∀ps∈z.2,∀p∈ps,cell p.2:=fun z hz ps hp p hq=>jy (((h.rw z hz).2.1 ps hp).wk p hq);refine Hp [4,5,6] (enc:=Bk.t) L (fun _ zs=>∃a b c:Sl,zs=[a,b,c]) [.no,.no,.no] (Ab (Al eb rfl) rfl) (Dv _) rfl ⟨_,_,_,rfl⟩ (fun D e D2 he zs hI=>?_) fun zs hI=>?_
 .obtain⟨a,b,c,rfl⟩:=hI;obtain⟨ho,hl⟩:=hL e (by rw[he];simp);have hi:=(ome ho.i).1;have la:Cm e.r.t (.int (-1))=some (.str "late"):=by
   cases hr:e.r with
   |ref cs g w=>rw[hr]at hl;rw[<-show w="late" from Fh hl];rfl
   |_=>rw[hr]at hl;cases hl
  refine Bv ?_;exact Bu (Ap (Ak (t:=.str "late") (Ak (Ak (Al (ct _ ho.b) rfl) rfl (t3 _)) rfl (by show((Gf (e.b.rs.map Rl.t).length (e.i:Int)).bind fun j=>(e.b.rs.map Rl.t)[j]?)=_;rw[Rq (by rw[Aq];exact hi),Bi,Dm,ho.i];rfl)) rfl la) rfl (by show some (T.bl (!(("late":Str)=="late")))=_;rw[Gu];rfl)) (As (.inr ⟨_,rfl,_,_,_,rfl⟩))
 obtain⟨a,b,c,rfl⟩:=hI;refine w_nz ?_;rw[Qa]at e1 e2;refine An (Al e1 rfl) ?_;refine An (Al e2 rfl) ?_;have i1:∀p:Pl,Cw p.2->Bt .notin (Ad p) (.dic ((pls (Z.map (Be gone dp))).map Ad) ((plr (Z.map (Be gone dp))).map (·.2)))=some (.bl (!((pls (Z.map (Be gone dp))).any fun x=>decide (x=p)))):=fun p hp=>by show(if Bj ((pls (Z.map (Be gone dp))).map Ad) (Ad p)=true then _ else none).map _=_;rw[if_pos (Iy ng2 hp),Lf Hn];rfl
 have so:Eo (((pls Z).filter fun p=>!((pls (Z.map (Be gone dp))).any fun x=>decide (x=p))).map Ad)=some (.lst gs):=by
  have mF:∀{p},p∈((pls Z).filter fun p=>!((pls (Z.map (Be gone dp))).any fun x=>decide (x=p)))↔p∈gone:=fun{p}=>by rw[De,Bool.not_eq_true',List.any_eq_false];refine⟨fun⟨hp,hq⟩=>Classical.byContradiction fun hg=>hq p ((dg H h hd).mpr ⟨hp,hg⟩) (Cd rfl),fun hp=>⟨hg.su p hp,fun x hx e=>?_⟩⟩;rw[Ey e]at hx;exact((dg H h hd).mp hx).2 hp
  have ndF:=List.Nodup.sublist (List.filter_sublist (p:=fun p=>!((pls (Z.map (Be gone dp))).any fun x=>decide (x=p)))) nd;obtain⟨us,e,_⟩:=Uv H h hm ndF fun p hp=>(De.mp hp).1;rw[e,eW s1 e (((List.perm_ext_iff_of_nodup hg.nd ndF).mpr fun p=>mF.symm).map Ad)]
 refine Bu (Ap (Ct (Fy (enc:=Ad) (R:=pls Z) (fun p=>!((pls (Z.map (Be gone dp))).any fun x=>decide (x=p))) Ad (Ab rfl rfl) (if_pos (by rw[Aq];lia)) fun p hp=>⟨_,rfl,Ap rfl rfl (i1 p (ng p hp)),fun _=>rfl⟩) so) (Ct (t:=.lst gs) (Ak rfl rfl rfl) rfl) (oR k1)) ?_;have lk:∀x∈plr Z,Aw ((pls Z).map Ad) ((plr Z).map (·.2)) (Ad x.1)=some x.2:=fun x hx=>by rw[<-Qa];exact Wt (by rw[Jd];exact nd) hx
 have lk2:∀x∈plr (Z.map (Be gone dp)),Aw ((pls (Z.map (Be gone dp))).map Ad) ((plr (Z.map (Be gone dp))).map (·.2)) (Ad x.1)=some x.2:=fun x hx=>by rw[<-Qa];exact Wt (by rw[Jd];exact nd2) hx
 have hx:∀x∈plr (Z.map (Be gone dp)),∃z∈Z,∃ps∈z.2,(z.1.nm,Ag z.1 ps)∉gone/\x=((z.1.nm,Ag z.1 ps),Ah (Cj (dp (z.1.nm,Ag z.1 ps)).1 ps))/\Aw ((pls Z).map Ad) ((plr Z).map (·.2)) (Ad x.1)=some (Ah ps):=fun x hx=>by obtain⟨z,hz,ps,hp,hgo,e⟩:=(Pj H h hd).mp hx;exact⟨z,hz,ps,hp,hgo,e,by rw[e];exact lk _ (Eg.mpr ⟨z,hz,Bw.mpr ⟨ps,hp,rfl⟩⟩)⟩
 have np:∀x∈plr (Z.map (Be gone dp)),Cw x.1.2:=fun x hx=>ng2 _ (by rw[<-Jd];exact Bw.mpr ⟨x,hx,rfl⟩);refine An (t:=.lst (((plr (Z.map (Be gone dp))).filter fun x=>!eqT ((Aw ((pls Z).map Ad) ((plr Z).map (·.2)) (Ad x.1)).getD .non) x.2).map fun x=>Ad x.1)) (Fy (enc:=fun x:Pl×T=>Ad x.1) (R:=plr (Z.map (Be gone dp))) (fun x=>!eqT ((Aw ((pls Z).map Ad) ((plr Z).map (·.2)) (Ad x.1)).getD .non) x.2) (fun x=>Ad x.1) (Ab rfl rfl) (by rw[Qa];exact if_pos (by rw[Aq];lia)) fun x hx'=>⟨_,rfl,Ap (Pa (v:=.non) rfl rfl rfl (Iy ng (np x hx'))) (Ak (t:=x.2) rfl rfl ?_) ?_,fun _=>rfl⟩) ?_
 .exact(if_pos (Iy ng2 (np x hx'))).trans (lk2 x hx')
 .obtain⟨z,hz,ps,hp,hgo,e,lo⟩:=hx x hx';rw[lo,e];show(if Cz (ps.map (·.2)) _+1<=30 then some (T.bl (!eqT (Ah ps) _))else none)=_;rw[if_pos]
  .rfl
  .rw[aR _ (cl z hz ps hp)];decide
 have mA:∀x:Pl×T,x∈((plr (Z.map (Be gone dp))).filter fun x=>!eqT ((Aw ((pls Z).map Ad) ((plr Z).map (·.2)) (Ad x.1)).getD .non) x.2)↔∃z∈Z,∃ps∈z.2,(z.1.nm,Ag z.1 ps)∉gone/\x=((z.1.nm,Ag z.1 ps),Ah (Cj (dp (z.1.nm,Ag z.1 ps)).1 ps))/\Cj (dp (z.1.nm,Ag z.1 ps)).1 ps≠ps:=fun x=>by
  rw[De,Bool.not_eq_true'];constructor
  .rintro⟨h1,h2⟩;obtain⟨z,hz,ps,hp,hgo,e,lo⟩:=hx x h1;refine⟨z,hz,ps,hp,hgo,e,fun q=>?_⟩;rw[lo,e,q]at h2;have:=(Vy (dp (z.1.nm,Ag z.1 ps)).1 (cl z hz ps hp)).mpr q;rw[q]at this;exact absurd (h2.symm.trans this) (by decide)
  .rintro⟨z,hz,ps,hp,hgo,e,hne⟩;have h1:=(Pj H h hd).mpr ⟨z,hz,ps,hp,hgo,e⟩;refine⟨h1,?_⟩;rw[e,show Aw ((pls Z).map Ad) ((plr Z).map (·.2)) (Ad (z.1.nm,Ag z.1 ps))=some (Ah ps)from lk ((z.1.nm,Ag z.1 ps),Ah ps) (Eg.mpr ⟨z,hz,Bw.mpr ⟨ps,hp,rfl⟩⟩)];exact Bool.eq_false_iff.mpr fun q=>hne ((Vy _ (cl z hz ps hp)).mp q)
 have lA:((plr (Z.map (Be gone dp))).filter fun x=>!eqT ((Aw ((pls Z).map Ad) ((plr Z).map (·.2)) (Ad x.1)).getD .non) x.2).length<=4*m:=Cr (K3 _ _) (by rw[<-Aq (f:=(·.1)),Jd];exact hU2);generalize((plr (Z.map (Be gone dp))).filter fun x=>!eqT ((Aw ((pls Z).map Ad) ((plr Z).map (·.2)) (Ad x.1)).getD .non) x.2)=A at *;have il:∀(p:Pl)(l:List Pl)(t:T),Gy (Ad p) t=Gy (Ad p) (.lst (l.map Ad))->Bt .notin (Ad p) t=some (.bl (!(l.any fun x=>decide (x=p)))):=fun p l t e=>by show(Gy (Ad p) t).map _=_;rw[e,Qy];rfl
 refine Bu (Ap (Fy (enc:=fun x:Pl×T=>Ad x.1) (R:=A) (fun x=>!(qs.any fun q=>decide (q=x.1))) (fun x=>Ad x.1) (Ab rfl rfl) (if_pos (by rw[Aq];lia)) fun x _=>⟨_,rfl,Ap rfl (Ak rfl rfl rfl) (il _ qs _ rfl),fun _=>rfl⟩) rfl ?_) ?_
 .rw[List.filter_eq_nil_iff.mpr fun x hxA e=>?_]
  .rfl
  .obtain⟨z,hz,ps,hp,_,ex,hne⟩:=(mA x).mp hxA;rw[Bool.not_eq_true',List.any_eq_false]at e;refine hne (fM (hd _) fun c hc=>?_);obtain⟨y,hy,h1,h2,_⟩:=hc;exact e _ ((hqs _).mpr ⟨y,hy,h1,h2⟩) (Cd (by rw[ex]))
 refine Hp [4,6,10,11] (enc:=Ad) qs (fun _ zs=>∃a b c d:Sl,zs=[a,b,c,d]) [a,c,.no,.no] (Ab (Ak rfl rfl rfl) rfl) (Dv _) rfl ⟨_,_,_,_,rfl⟩ (fun D q D2 he zs hI=>?_) fun zs hI=>?_
 .obtain⟨a,c,d,e,rfl⟩:=hI;obtain⟨y,hy,h1,rfl⟩:=(hqs q).mp (by rw[he];simp);obtain⟨z,hz,qa,g,w,hr,ps,hp,hN,rfl⟩:=cP hy;have hp':=(h.rw z hz).2.1 ps hp;have hgo:(z.1.nm,Ag z.1 ps)∉gone:=fun q=>by have:=(Bool.and_eq_true_iff.mp (Bool.and_eq_true_iff.mp h1).2).2;rw[Bool.not_eq_true',List.any_eq_false]at this;exact this _ q (Cd rfl)
  obtain⟨c1,r,ec⟩:=List.exists_cons_of_ne_nil (H.fit _ (h.mem hz) _ hr).2.2.1;have hc:c1∈qa:=by rw[ec];exact .head _
  have hk:Bq (dp (z.1.nm,Ag z.1 ps)).1 (.str c1)=true:=(L5 (hd _).st c1).mpr (((hd _).mem c1).mpr ⟨_,hy,h1,rfl,hc⟩);have l4:=(H.ok _ (h.mem hz)).cl;have lp:ps.length=z.1.cs.length:=by rw[<-hp'.cs,Aq]
  refine Bv ?_;refine O1 (t:=Ah ps) rfl (r1 z hz ps hp) ?_;refine An (t:=.lst (ps.map fun p=>.tup [p.2,if Bq (dp (z.1.nm,Ag z.1 ps)).1 (.str p.1.n)=true then .non else p.2])) (Qm (enc:=fun p:Col×T=>T.tup [p.2,if Bq (dp (z.1.nm,Ag z.1 ps)).1 (.str p.1.n)=true then .non else p.2]) (fun p=>T.tup [p.2,if Bq (dp (z.1.nm,Ag z.1 ps)).1 (.str p.1.n)=true then .non else p.2]) (Ab rfl (Ab (Al (r2 z hz ps hp hgo) rfl) rfl)) ?_ fun p _=>⟨_,rfl,rfl⟩) ?_
  .show(some (Ce (ps.map (·.2)) ((Cj (dp (z.1.nm,Ag z.1 ps)).1 ps).map (·.2)))).bind _=_;rw[bX];exact if_pos (by rw[Aq];lia)
  refine Bu (Ap (Fy (enc:=fun p:Col×T=>T.tup [p.2,if Bq (dp (z.1.nm,Ag z.1 ps)).1 (.str p.1.n)=true then .non else p.2]) (R:=ps) (fun _=>false) (fun _=>.non) (Ab rfl rfl) (if_pos (by rw[Aq];lia)) fun p hq=>⟨_,rfl,?_,fun e=>by cases e⟩) rfl ?_) ?_
  .obtain⟨k1,k2,b,k3⟩:=cy (cl z hz ps hp p hq);have kd:=aW (cl z hz ps hp p hq) (cl z hz ps hp p hq);cases hh:Bq (dp (z.1.nm,Ag z.1 ps)).1 (.str p.1.n)with
   |true=>exact Dj (p:=false) (q:=false) (Ap rfl rfl rfl) fun h=>by cases h
   |false=>refine(Dj (p:=b) (q:=false) (Ap (u:=p.2) (v:=.non) rfl rfl k3) fun _=>Ap (u:=p.2) (v:=p.2) rfl rfl ?_).trans (by cases b<;>rfl);show(if Bc p.2 p.2<=30 then some (T.bl (!eqT p.2 p.2))else none)=_;rw[kd,k1];rfl
  .rw[List.filter_eq_nil_iff.mpr fun p _ e=>by cases e];rfl
  .refine Bu (Ap (Cg (Ab rfl (Ab rfl rfl))) rfl ((il _ (A.map (·.1)) _ (by rw[Bz];rfl)).trans ?_)) (As (.inr ⟨_,rfl,_,_,_,_,rfl⟩));rw[List.any_eq_true.mpr ⟨(z.1.nm,Ag z.1 ps),Bw.mpr ⟨_,(mA _).mpr ⟨z,hz,ps,hp,hgo,rfl,o8 hc hN hk⟩,rfl⟩,Cd rfl⟩];rfl
 .obtain⟨a,c,d,e,rfl⟩:=hI;exact Ar rfl rfl
end
end
section
variable {G:Glo}
noncomputable def K5:Fd:=⟨1,9,[.asg 6 (.call "_law_schema" [.call "_law_mixed" [A4,A2]]),
  .asg 7 (.call "_law_store" [B3,.call "_law_mixed" [A4,A3],.bin .mod (.call "_law_mixed" [A4,A8]) (.cst (.int 14))]),
  .loop [8,1] .zip [B3,B6] [.loop [2] .plain [A5] [.asg 5 (.call "_law_key" [B7,A6]),
  .asg 3 (.told "going" [B3,B6,.idx B7 A2,B0]),
  .asg 4 (.told "done" [B3,B6,.tup [D9,.idx B7 A2,B0]]),
  .ite (.cmp .eq (.idx A7 A2) C3) [.ite (.lor (.cmp .ne A7 (.tup [C3,C2,A2])) (.cmp .ne A9 A7)) [.ret B5] []] [.ite (.cmp .eq (.idx A9 A2) C3) [.ite (.cmp .notin A9 (.lst [.tup [C3,A8,A2],.tup [C3,B1,A2]])) [.ret B5] []] [.ite (.lnot (.tru (.call "_law_right" [B3,B6,.idx A9 A3,.idx A7 A3]))) [.ret B5] []]]]],
  .ret C0]⟩
theorem eE{f:Str}(h:Az G es ρ=some ts)(k:Fj G f ts=some t):Ac G (.told f es) ρ=some t:=by rw[Ac,h];exact k
noncomputable def rfd(j:Nat):T:=.tup [.str "refused",.int (j:Int),.int 0]
theorem Q3{f:Str}(h:G.call f ts=none)(k:G.exc f ts=e0 x)(e:Kc x Iz 0=some j):Fj G f ts=some (rfd j):=by unfold Fj;rw[h,k,e0];dsimp only;rw[Bi,e];rfl
theorem Vk(j:Nat):eqT (rfd j) (rfd j)=true/\Bc (rfd j) (rfd j)<=1:=⟨((Jf 1).eq (x:=rfd j) rfl rfl).mpr rfl,(Jf 1).dp (x:=rfd j) rfl rfl⟩
theorem Ym(j:Nat):Bt .ne (rfd j) (rfd j)=some (.bl false):=by show(if Bc (rfd j) (rfd j)<=30 then some (T.bl (!eqT (rfd j) (rfd j)))else none)=_;rw[if_pos (Cr (Vk j).2 (by decide)),(Vk j).1];rfl
theorem iG{j:Nat}(h:j=2\/j=3):Bt .notin (rfd j) (.lst [rfd 2,rfd 3])=some (.bl false):=by
 have hd:Do (rfd j) [rfd 2,rfd 3]=true:=En.mpr fun z hz=>Cd (Cr ((Jf 1).dp (x:=z) (y:=rfd j) (by simp only[List.mem_cons,List.not_mem_nil,or_false]at hz;rcases hz with rfl|rfl<;>rfl) rfl) (by decide));have ha:([rfd 2,rfd 3].any fun z=>eqT z (rfd j))=true:=List.any_eq_true.mpr ⟨rfd j,by rcases h with rfl|rfl<;>simp,(Vk j).1⟩;generalize[rfd 2,rfd 3]=l at *;show(if Do (rfd j) l=true then some (l.any fun z=>eqT z (rfd j))else none).map _=_;rw[if_pos hd,ha];rfl
def Due(G:Glo)(Z:List Zt)(b:Tb)(ps:Row):Prop:=∃u v,Fj G "going" [Am Z,Aj Z,.str b.nm,Ao b ps]=some u/\Fj G "done" [Am Z,Aj Z,.tup [.str "drop",.str b.nm,Ao b ps]]=some v /\
 (u=rfd 5/\v=rfd 5\/∃t,u=.tup [.str "told",t]/\((∃j:Nat,(j=2\/j=3)/\v=rfd j)\/∃t',v=.tup [.str "told",t']/\G.call "_law_right" [Am Z,Aj Z,t',t]=some (.bl true)))
theorem oz{B:List Tb}{m:Nat}{Z:List Zt}{a1 a2 a0:Int}{X:T}(h:Stn B m Z)(K:Cls G B Z)(due:∀z∈Z,∀ps∈z.2,Due G Z z.1 ps)(m0:G.call "_law_mixed" [X,.int 0]=some (.int a0))(m1:G.call "_law_mixed" [X,.int 1]=some (.int a1))(m2:G.call "_law_mixed" [X,.int 2]=some (.int a2))(eS:G.call "_law_schema" [.int a0]=some (Am Z))(eZ:G.call "_law_store" [Am Z,.int a1,.int (a2%14)]=some (Aj Z)):W G K5.body (st0 [X] 8) fun o=>o=.rt (.bl true):=by
 refine An (Al eS (Ab (Al m0 rfl) rfl)) ?_;refine An (Al eZ (Ab rfl (Ab (Al m1 rfl) (Ab (Ay (Al m2 rfl) rfl (Dz (by decide))) rfl)))) ?_;refine Hp [1,2,3,4,5,8] (enc:=fun z:Zt=>T.tup [z.1.t,Cs z]) Z (fun _ zs=>∃a b c d e f:Sl,zs=[a,b,c,d,e,f]) [.no,.no,.no,.no,.no,.no] rfl (Av some (Kr Z)) rfl ⟨_,_,_,_,_,_,rfl⟩ (fun D z D2 e zs hI=>?_) fun zs hI=>?_
 .obtain⟨a,b,c,d,e',f,rfl⟩:=hI;have hz:z∈Z:=by rw[e];simp
  refine Bv ?_;refine Hp [2,3,4,5] (enc:=Ah) z.2 (fun _ zs=>∃a b c d:Sl,zs=[a,b,c,d]) [b,c,d,e'] rfl (Dv _) rfl ⟨_,_,_,_,rfl⟩ (fun D ps D2 e zs hI=>?_) fun zs hI=>?_
  .obtain⟨a,b,c,d,rfl⟩:=hI;have hps:ps∈z.2:=by rw[e];simp
   obtain⟨u,v,h1,h2,h3⟩:=due z hz ps hps;refine Bv ?_;refine An (t:=Ao z.1 ps) (Al (K.ky _ (h.mem hz) ps ((h.rw z hz).2.1 ps hps)) rfl) ?_;refine An (eE (Ab rfl (Ab rfl (Ab (Ak rfl rfl (t0 _)) (Ab rfl rfl)))) h1) ?_;refine An (eE (Ab rfl (Ab rfl (Ab (Cg (Ab rfl (Ab (Ak rfl rfl (t0 _)) (Ab rfl rfl)))) rfl))) h2) ?_;rcases h3 with⟨rfl,rfl⟩|⟨t,rfl,⟨j,hj,rfl⟩|⟨t',rfl,h4⟩⟩
   .refine El (Ap (Ak rfl rfl rfl) rfl (sw (q:=true) (by decide +kernel))) ?_;exact Bu (Lc (p:=false) (q:=false) (Ap rfl (Cg (Ab rfl (Ab rfl (Ab rfl rfl)))) (Ym 5)) fun _=>Ap rfl rfl (Ym 5)) (As (As (.inr ⟨_,rfl,_,_,_,_,rfl⟩)))
   all_goals refine Ol (q:=false) (Ap (Ak rfl rfl rfl) rfl (sw (by decide +kernel))) (fun q=>by cases q) fun _=>?_
   .refine El (Ap (Ak rfl rfl rfl) rfl (sw (q:=true) (by decide +kernel))) ?_;exact Bu (Ap rfl (Kb (Ab (Cg (Ab rfl (Ab rfl (Ab rfl rfl)))) (Ab (Cg (Ab rfl (Ab rfl (Ab rfl rfl)))) rfl))) (iG hj)) (As (As (As (.inr ⟨_,rfl,_,_,_,_,rfl⟩))))
   .refine Ol (q:=false) (Ap (Ak rfl rfl rfl) rfl (sw (by decide +kernel))) (fun q=>by cases q) fun _=>?_;exact Bu (by rw[Ac,Ac,Al h4 (Ab rfl (Ab rfl (Ab (Ak rfl rfl rfl) (Ab (Ak rfl rfl rfl) rfl))))];rfl) (As (As (As (.inr ⟨_,rfl,_,_,_,_,rfl⟩))))
  .obtain⟨a,b,c,d,rfl⟩:=hI;exact As (.inr ⟨_,rfl,_,_,_,_,_,_,rfl⟩)
 .obtain⟨a,b,c,d,e,f,rfl⟩:=hI;exact Ar rfl rfl
section
variable {P:Pr}(p:Mk P)(g:Pg P)(pb:Pb P)(pd:Pd P)(hpl:P.fn "_law_places"=some Qd)(hri:P.fn "_law_right"=some Q4){B:List Tb}(H:Sch B){Z:List Zt}(h:Stn B m Z)(hm:m<=15)
include g H h hm
theorem de(n:Nat){z:Zt}(hz:z∈Z){ps:Row}(hp:ps∈z.2):run P (n+3) "row_of" [Am Z,Aj Z,.str z.1.nm,Ao z.1 ps]=some (Ah ps):=by
 have hk:(Ag z.1 ps).length<=1000:=by have h2:=(H.ok _ (h.mem hz)).k1;rw[Ag,wK,Aq];lia
 obtain⟨o,h1,h2,_⟩:=L3 g.ro (Xg H h (by lia) (Gj g H h (n+1)) (fun b hb ps hp=>Il g H h n hb hp) (fun k k' hk=>Du g.sk (dy k k' hk)) (show(z.1,z.2)∈Z from hz) (Ag z.1 ps) hk);rcases h1 with⟨e,_⟩|⟨qs,hq,e,rfl⟩
 .exact absurd (Cd rfl) (List.any_eq_false.mp e ps hp)
 .have:=Rn (h.rw z hz).2.2 hq hp e;subst this;exact h2 _ rfl
include p pb pd hpl hri
theorem jb(hG:J6 Z){z:Zt}(hz:z∈Z){ps:Row}(hp:ps∈z.2):Due (glo P 20) Z z.1 ps:=by
 have hk:(Ag z.1 ps).length<=1000:=by have h2:=(H.ok _ (h.mem hz)).k1;rw[Ag,wK,Aq];lia
 obtain⟨gone,hg,hD⟩:=jA pd pb g H h hm 11 hG (b:=z.1) (R:=z.2) hz hp;rcases kK g H h 15 hm (b:=z.1) (R:=z.2) hz (Ag z.1 ps) hk with⟨q,_⟩|⟨_,gone',hg',hE⟩
 .exact absurd (Cd rfl) (List.any_eq_false.mp q ps hp)
 have:gone'=gone:=hg'.wk.det hg.wk;subst this;rcases hE with⟨q,a1,a2⟩|⟨q,t,ht,a1⟩<;>rcases hD with⟨q2,c1,c2⟩|⟨q2,hD⟩
 .exact⟨_,_,Q3 a1 a2 (by decide +kernel),Q3 c1 c2 (by decide +kernel),.inl ⟨rfl,rfl⟩⟩
 .rw[q]at q2;cases q2
 .rw[q]at q2;cases q2
 have hu:Fj (glo P 20) "going" [Am Z,Aj Z,.str z.1.nm,Ao z.1 ps]=some (.tup [.str "told",t]):=by unfold Fj;rw[show(glo P 20).call "going" [Am Z,Aj Z,.str z.1.nm,Ao z.1 ps]=_ from a1]
 rcases hD with⟨x,hx,c1,c2⟩|⟨dp,L,hC,eb,l60,hL,c1⟩
 .rcases hx with rfl|rfl
  .exact⟨_,_,hu,Q3 c1 c2 (j:=2) (by decide +kernel),.inr ⟨t,rfl,.inl ⟨2,.inl rfl,rfl⟩⟩⟩
  .exact⟨_,_,hu,Q3 c1 c2 (j:=3) (by decide +kernel),.inr ⟨t,rfl,.inl ⟨3,.inr rfl,rfl⟩⟩⟩
 refine⟨_,_,hu,by unfold Fj;rw[show(glo P 20).call "done" [Am Z,Aj Z,.tup [.str "drop",.str z.1.nm,Ao z.1 ps]]=_ from c1],.inr ⟨t,rfl,.inr ⟨_,rfl,?_⟩⟩⟩;have hN:=Sb H h hC (gone:=gone');have sN:Am (Z.map (Be gone' dp))=Am Z:=hN.sch.trans h.sch.symm;have pl:∀{Z:List Zt},Stn B m Z->run P 19 "_law_places" [Am Z,Aj Z]=some (.dic ((plr Z).map fun p=>Ad p.1) ((plr Z).map (·.2))):=fun{Z}h=>Du hpl (n:=18) (jh H h (by lia) (J4 p H 16 h).ky);have r2:∀y∈Z,∀qs∈y.2,(y.1.nm,Ag y.1 qs)∉gone'->run P 19 "row_of" [Am Z,Aj (Z.map (Be gone' dp)),.str y.1.nm,Ao y.1 qs]=some (Ah (Cj (dp (y.1.nm,Ag y.1 qs)).1 qs)):=fun y hy qs hq hgo=>by
  have:=de g H hN hm 16 (z:=Be gone' dp y) (Bw.mpr ⟨y,hy,rfl⟩) (ps:=Cj (dp (y.1.nm,Ag y.1 qs)).1 qs) (Bw.mpr ⟨qs,De.mpr ⟨hq,by rw[Bool.not_eq_true',List.any_eq_false];exact fun x hx e=>hgo (Ey e▸hx)⟩,rfl⟩);rw[sN,Ao,show Ag (Be gone' dp y).1 (Cj (dp (y.1.nm,Ag y.1 qs)).1 qs)=Ag y.1 qs from Oi H h hC hy _ qs]at this;exact this
 have e2:=pl hN;rw[sN]at e2;exact Du hri (n:=19) (fY H h hC hm hg ht (cT eb 1) hL (J4 p H 17 h).tb (pl h) e2 (fun y hy qs hq=>de g H h hm 16 hy hq) r2)
end
theorem zm0{P:Pr}(hc:P.fn "_law_cell_at"=some Q6)(hm:P.fn "_law_mixed"=some Ro)(ht:P.fn "_law_test"=some Mj)(hp:P.fn "_law_pairs"=some Rh)(hr:P.fn "_law_rule"=some Qs)(hb:P.fn "_law_bare"=some Nl)(hs:P.fn "_law_schema"=some P4)(p:Mk P)(g:Pg P)(pb:Pb P)(pd:Pd P)(h1:P.fn "_law_places"=some Qd)(h2:P.fn "_law_right"=some Q4)(ns:List Int):Bp (glo P 20) K5.body (Dr K5 [.lst (ns.map .int)])=some (.rt (.bl true)):=by
 have em:∀k:Nat,∃a:Int,(glo P 20).call "_law_mixed" [.lst (ns.map .int),.int (k:Int)]=some (.int a):=fun k=>o6 hc hm 18 ns k;obtain⟨a0,e0⟩:=em 0;obtain⟨a1,e1⟩:=em 1;obtain⟨a2,e2⟩:=em 2;obtain⟨B,eS,H⟩:=lG p.dr ht hp hr hb hs 13 a0;obtain⟨M,hM,hM2⟩:∃M:Nat,a2%14=(M:Int)/\M<=15:=⟨(a2%14).toNat,by lia,by lia⟩;obtain⟨Z,eZ,hZ,hG⟩:=pf p H 13 a1 M (by lia);rw[<-hM]at eZ;obtain⟨o,e,rfl⟩:=oz (X:=.lst (ns.map .int)) hZ (J4 p H 18 hZ) (fun z hz ps hp=>jb p g pb pd h1 h2 H hZ hM2 hG hz hp) e0 e1 e2 (by rw[hZ.sch];exact eS) (by rw[hZ.sch];exact eZ);exact e
end
end Ev.K04
namespace Nb
open PySem Spec PyProof.Rows Ev L2 K04 Ex
section
abbrev top:=Wp pT
def V7(st:Stmt):List Str:=match Fw st with|⟨_,as,_,_,_,_,_⟩=>as.map (·.arg)
def tab:Tab:=List.zipWith (fun(x:Str×Nat)(d:Fd)=>(x.1,d,top x.2,V7 (top x.2))) stN [Vg,Ud,Vo,U8,Uw,Rz,Uk,Uh,V8,Tx,Tw,W2,Ua,Tp,Sn,Wd,Wa,X8,Ur,Tj,Tz,Wu,Sj,Uj,Wc,U4,T8,Va,Sk,Xa,Q6,Ro,Ly,Md,Ub,Ul,W4,Vq,Mj,Nl,Rh,Qs,P4,Ra,W3,Od,Sa,Vb,Sv,U2,W1,Uu,X3,V1,Uz,Wl,Vf,Qd,Q4]
def xnT:List Str:=[("row_of":Str),("gone_with":Str),("going":Str),("without_row":Str),("refuse_broken":Str),("done":Str)]
abbrev sL:=top 79
abbrev sT:=top 76
abbrev sI:=clD (top 1)
theorem i9:(tab.all fun p=>X9 p.2.1 p.2.2.1 p.2.2.2)=true:=by kernel_rfl
theorem ib:(tab.map fun p=>(bC ⟨Bf p.2.2.1,He (Bf p.2.2.1)⟩ erT xnT (Et p.2.2.1)).map SSE.xs)=tab.map fun p=>some p.2.1.body:=by kernel_rfl
theorem tab_st:∀p∈tab,Ob p.1 p.2.1 p.2.2.1 p.2.2.2:=fun p hp=>Xw (oml i9 p hp)
theorem tab_rd:∀p∈tab,∃S:SSE ⟨Bf p.2.2.1,He (Bf p.2.2.1)⟩ erT (Et p.2.2.1),S.xs=p.2.1.body:=fun p hp=>let⟨S,_,e⟩:=oms (List.map_inj_left.mp ib p hp);⟨S,e⟩
theorem law_st:Ob "law" K5 sL [("_law_script":Str)]:=Xw (by kernel_rfl)
theorem jm:(bC ⟨Bf sL,He (Bf sL)⟩ [E0] xnT (Et sL)).map SSE.xs=some K5.body:=by kernel_rfl
theorem law_rd:∃S:SSE ⟨Bf sL,He (Bf sL)⟩ [E0] (Et sL),S.xs=K5.body:=let⟨S,_,e⟩:=oms jm;⟨S,e⟩
theorem nh:(He (Bf sT)=toldN)/\((Bf sT).kind,(Bf sT).isCoroutine,(Bf sT).isGenerator,(toldN.all fun x=>(Bf sT).names.lookup x==some .local),((("DealError":Str)::toldC)++(["isinstance", "ValueError", "bool"]:List Str)).all (fun x=>(Bf sT).names.lookup x==some .globalImplicit),(Bf sT).names.all fun y=>!(y.2==.free))=(.function,false,false,true,true,true):=⟨by kernel_rfl,by kernel_rfl⟩
theorem told_st:Jr sT:=by
 obtain⟨c0,c⟩:=nh;have e4:(toldN.all fun x=>(Bf sT).names.lookup x==some .local)=true:=Av (fun z=>z.2.2.2.1) c;have e5:((("DealError":Str)::toldC)++(["isinstance", "ValueError", "bool"]:List Str)).all (fun x=>(Bf sT).names.lookup x==some .globalImplicit)=true:=Av (fun z=>z.2.2.2.2.1) c;have e6:((Bf sT).names.all fun y=>!(y.2==.free))=true:=Av (fun z=>z.2.2.2.2.2) c;have lo:∀x∈toldN,(Bf sT).names.lookup x=some .local:=fun x hx=>by simpa using oml e4 x hx
 exact⟨⟨congrArg (fun z=>z.1) c,congrArg (fun z=>z.2.1) c,congrArg (fun z=>z.2.2.1) c,by decide,rfl,fun y hy=>.inl (lo y (by cases omg hy;decide)),fun y hy=>by simpa using oml e6 y hy⟩,lo,fun x hx=>by simpa using oml e5 x hx,
  fun kV doc pm an cdv ct us hl=>aA (fd:=W.fnOf E0 E0 (Fw sT) (Et sT) (Bf sT) .none kV doc pm an cdv ct) (as:=[⟨"_law_deed_here",none,⟨470,14,470,28⟩⟩]) (show Fw sT=_ by kernel_rfl) rfl (by decide) hl,_,_,_,_,_,_,_,_,_,_,_,_,_,rfl,oU rfl rfl rfl⟩
theorem gE:Fw sI=⟨[],[⟨"self",none,⟨4,17,4,21⟩⟩,⟨"words",none,⟨4,23,4,28⟩⟩,⟨"at",none,⟨4,33,4,35⟩⟩],none,[],[],none,[.Constant (.str "") 0 ⟨4,29,4,31⟩,.Constant (.int 0) 0 ⟨4,36,4,37⟩]⟩:=by kernel_rfl
theorem Q2:((Bf sI).kind,(Bf sI).isCoroutine,(Bf sI).isGenerator,(Bf sI).names)=(.function,false,false,[(("self":Str),.local),(("words":Str),.local),(("at":Str),.local),(("ValueError":Str),.globalImplicit)]):=by kernel_rfl
theorem ini_st:L4 sI:=by
 have e1:(Bf sI).names=_:=Av (fun z=>z.2.2.2) Q2;have v:∀{x:Str}{k:NameKind},List.lookup x [(("self":Str),NameKind.local),(("words":Str),NameKind.local),(("at":Str),NameKind.local),(("ValueError":Str),NameKind.globalImplicit)]=some k->(Bf sI).names.lookup x=some k:=fun h=>by rw[e1];exact h
 refine⟨⟨Av (fun z=>z.1) Q2,Av (fun z=>z.2.1) Q2,Av (fun z=>z.2.2.1) Q2,by decide,rfl,by rw[e1];decide,by rw[e1];decide⟩,v (by decide),v (by decide),v (by decide),v (by decide),⟨_,_,_,_,_,_,_,_,_,_,rfl,fun _=>⟨_,rfl⟩⟩,fun a kV doc pm an cdv ct u1 u2 t1 t2=>?_,fun a kV doc pm an cdv ct u1 u2 u3 t1 t2=>?_⟩<;>rw[gE]<;>exact⟨_,rfl,rfl⟩
theorem law_pure:∀ns:List Int,ns.length<=63->Bp (glo tab.pr 20) K5.body (Dr K5 [.lst (ns.map .int)])=some (.rt (.bl true)):=fun ns _=>K04.zm0 rfl rfl rfl rfl rfl rfl rfl ⟨rfl,rfl,rfl,rfl,rfl,rfl,rfl,rfl,rfl,rfl,rfl,rfl,rfl,rfl,rfl,rfl,rfl,rfl,rfl,rfl⟩ ⟨rfl,rfl,rfl,rfl,rfl,rfl,rfl,rfl,rfl,rfl,rfl,rfl,rfl⟩ ⟨rfl,rfl,rfl,rfl,rfl,rfl,rfl,rfl,rfl,rfl⟩ ⟨rfl,rfl,rfl,rfl,rfl,rfl,rfl⟩ rfl rfl ns
end
end Nb
section
namespace Nb
open PySem PySem.Spec PySem.W PyProof.Rows L2 Ev Ex
section
abbrev qT:=qPp pT
abbrev xT:=x1P pT
abbrev sts:=stQ stN pT
def hkT:Hook:=ae erT sts sI
theorem nP{α β γ δ:Type _}{o:a7 α}{f:α->β×γ}{g:α->δ}{x:β×γ}{y:δ}(h1:o.map (fun s=>((f s).1,g s))=some (x.1,y))(h2:o.map (fun s=>(f s).2)=some x.2):o.map (fun s=>(f s,g s))=some (x,y):=by
 cases o with
 |none=>cases h1
 |some s=>injection h1 with h1;injection h1 with a b;injection h2 with h2;show some (f s,g s)=_;rw[b,show f s=x from Prod.ext a h2]
theorem hd_left':LeftO PySem.Challenge.pw_dealtables_k33_whole_nothing_dangles qT lsT xT hkT.obs hkT.val 8418:=by exact fun w=>nP (((congrFun (congrFun (congrFun PySem.W.Fast.te10554401427710662958 stN) pT) w).trans (jB w)).trans (congrFun (congrFun (congrFun PySem.W.Fast.te1489920322860990267 stN) pT) w).symm) (((congrFun (congrFun (congrFun PySem.W.Fast.te14412963595562825976 stN) pT) w).trans (eT w)).trans (congrFun (congrFun (congrFun PySem.W.Fast.te6169256676756009735 stN) pT) w).symm)
theorem nm_law:("law":Str)=⟨#[108,97,119]⟩:=by decide +kernel
def dL:DefRec:=⟨⟨#[108,97,119]⟩,Fw (top 79),Et (top 79),Bf (top 79),(match top 79 with|.FunctionDef _ _ _ _ _ _ _ _ _ p=>p|_=>⟨0,0,0,0⟩)⟩
theorem hd_def:defOf qT ("law":Str)=some (dL,[]):=by rw[nm_law];kernel_rfl
theorem hd_the:Program.theDef PySem.Challenge.pw_dealtables_k33_whole_nothing_dangles ("law":Str)=some (dL.params,dL.body,dL.scope):=by rw[nm_law];kernel_rfl
end
end Nb
open PySem PySem.W PyProof.Rows
set_option maxRecDepth 100000 in
set_option maxHeartbeats 0 in
theorem PySem.Challenge.cw_dealtables_k33_whole_nothing_dangles_holds : PySem.Challenge.rw_dealtables_k33_whole_nothing_dangles.Holds := by
 w_on;refine PySem.W.holds_law Nb.lw_ok fun said=>?_
 refine PySem.W.holds_open (q:=Nb.qT) (loose:=Nb.lsT) (Xt:=Nb.xT) (XP:=XL Nb.qT []) (Yf:=Nb.hkT.obs) (Ya:=Nb.hkT.val) (YP:=Nb.hkT.says) (N:=8418) Nb.hd_left' Nb.hkT.of Nb.hkT.keeps (fun s e=>xl_of s (Bool.and_eq_true_iff.mp e).1) XL.keeps Nb.hd_def Nb.hd_the rfl (fun s e=>recFacts_of (Bool.and_eq_true_iff.mp e).2) rfl (by assumption) (by decide +kernel) ⟨rfl,rfl,rfl,rfl,rfl,by decide +kernel⟩ ?hw ?hc
 case hw=>w_witness2
 case hc=>exact Nb.walk_see (l:=PySem.Challenge.rw_dealtables_k33_whole_nothing_dangles) (n:=63) (k:=20) (x:="_law_script") (er:=Nb.erT) (tab:=Nb.tab) rfl (by decide) rfl ⟨by decide,by decide⟩ Nb.nm_law.symm (by decide) Nb.tab_st Nb.tab_rd Nb.told_st Nb.ini_st Nb.law_st Nb.law_rd Nb.law_pure
end
